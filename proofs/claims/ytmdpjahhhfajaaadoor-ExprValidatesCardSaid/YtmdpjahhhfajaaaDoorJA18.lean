/-
  The reference's types: binary.
-/
import Derived.Test.YtmdpjahhhfajaaaDoorJA17
set_option linter.unusedVariables false
set_option linter.unusedSimpArgs false
set_option maxRecDepth 100000
namespace Go.Proofs.YtmdpjahhhfajaaaDoor
open Go.RowKit Wh
set_option maxHeartbeats 40000000 in
theorem binary_any (op : Int) (x y : KT) (w : World) : Calls Tryd.prog 89 #[.int .i64 op, ktV x, ktV y] w fun e w' => e = .returned (.tuple #[ktV (binT op x y).1, .bool (binT op x y).2]) ∧ Below w.heap.size w w' := by
  have CX := Lib.hid (fun k W => fits_any x k W)
  have CY := Lib.hid (fun k W => fits_any y k W)
  have CD := Lib.hid (fun W => difference_any x y W)
  have CC := Lib.hid (fun W => common_any x y W)
  obtain ⟨a, b⟩ := x
  obtain ⟨c, d⟩ := y
  have k0 : (((w.alloc (.cells #[.int .i64 a, .bool b] 97)).alloc (.cells #[.int .i64 c, .bool d] 97)).alloc (.cells #[.int .i64 0, .bool false] 97)).heap[w.heap.size]? = some (.cells #[.int .i64 a, .bool b] 97 (0, 0)) := by
    rw [Below.heap_alloc _ _ _ (by simp; omega), Below.heap_alloc _ _ _ (by simp)]
    exact heap_alloc_new w _
  have k1 : (((w.alloc (.cells #[.int .i64 a, .bool b] 97)).alloc (.cells #[.int .i64 c, .bool d] 97)).alloc (.cells #[.int .i64 0, .bool false] 97)).heap[w.heap.size + 1]? = some (.cells #[.int .i64 c, .bool d] 97 (0, 0)) := by
    have h := heap_alloc_new (w.alloc (.cells #[.int .i64 a, .bool b] 97)) (.cells #[.int .i64 c, .bool d] 97)
    simp only [World.size_alloc] at h
    rw [Below.heap_alloc _ _ _ (by simp)]
    exact h
  have k2 := heap_alloc_new ((w.alloc (.cells #[.int .i64 a, .bool b] 97)).alloc (.cells #[.int .i64 c, .bool d] 97)) (.cells #[.int .i64 0, .bool false] 97)
  simp only [World.size_alloc] at k2
  have hb0 : Below w.heap.size w (((w.alloc (.cells #[.int .i64 a, .bool b] 97)).alloc (.cells #[.int .i64 c, .bool d] 97)).alloc (.cells #[.int .i64 0, .bool false] 97)) := (((Below.refl _ _).alloc (Nat.le_refl _) _).alloc (by simp) _).alloc (by simp; omega) _
  have HSZ := Lib.hid (show (((w.alloc (.cells #[.int .i64 a, .bool b] 97)).alloc (.cells #[.int .i64 c, .bool d] 97)).alloc (.cells #[.int .i64 0, .bool false] 97)).heap.size = w.heap.size + 3 by simp)
  have KEEP : Hid (∀ W, Below (w.heap.size + 3) (((w.alloc (.cells #[.int .i64 a, .bool b] 97)).alloc (.cells #[.int .i64 c, .bool d] 97)).alloc (.cells #[.int .i64 0, .bool false] 97)) W → (W.cell? ⟨w.heap.size, 0, none⟩ = some (.int .i64 a) ∧ W.cell? ⟨w.heap.size, 1, none⟩ = some (.bool b) ∧ W.cell? ⟨w.heap.size + 1, 0, none⟩ = some (.int .i64 c) ∧ W.cell? ⟨w.heap.size + 1, 1, none⟩ = some (.bool d)) ∧ W.heap[w.heap.size + 2]? = some (.cells #[.int .i64 0, .bool false] 97 (0, 0)) ∧ Below w.heap.size w W) := fun W hb => by
    have h0 : W.heap[w.heap.size]? = some (.cells #[.int .i64 a, .bool b] 97 (0, 0)) := by rw [hb.block _ (by omega)]; exact k0
    have h1 : W.heap[w.heap.size + 1]? = some (.cells #[.int .i64 c, .bool d] 97 (0, 0)) := by rw [hb.block _ (by omega)]; exact k1
    exact ⟨⟨(cell_of_row _ _ 0 _ _ _ h0).trans rfl, (cell_of_row _ _ 1 _ _ _ h0).trans rfl, (cell_of_row _ _ 0 _ _ _ h1).trans rfl, (cell_of_row _ _ 1 _ _ _ h1).trans rfl⟩, by rw [hb.block _ (by omega)]; exact k2, hb0.trans (hb.mono (by omega))⟩
  have HK2 := Lib.hid k2
  have HB0 := Lib.hid hb0
  clear k0 k1 k2 hb0
  unfold binT
  simp only
  by_cases h4 : op = 4
  · subst h4
    rw [if_pos rfl]
    have CX2 := Lib.hid (CX.out 2)
    have CY2 := Lib.hid (CY.out 2)
    generalize fitB (a, b) 2 = q1 at *
    generalize fitB (c, d) 2 = q2 at *
    clear CX CY CD CC
    by_cases ha : a = 4
    · subst ha
      rw [if_pos rfl]
      cases b
      · skip
        go_enter Tryd.func89, Tryd.ntmps89
        go_wp2_with fail
        refine (CY2.out _).mono ?_
        rintro e v0 ⟨rfl, hb0⟩
        have HL0 := Lib.hid (hb0.mono (by rw [HSZ.out]; exact Nat.le_refl _))
        obtain ⟨⟨c00, c01, c02, c03⟩, hx0, hB0⟩ := KEEP.out v0 HL0.out
        have HX0 := Lib.hid hx0
        have HBB0 := Lib.hid hB0
        clear hb0 hx0 hB0
        go_wp2_with (with_reducible refine wpList_store_row (o := Oper.mk none (Op.store 97 (.tmp 6) (.tmp 25)) _ _ _ none) rfl 97 (.tmp 6) (.tmp 25) rfl (w.heap.size + 2) #[.int .i64 4, .bool true] ?h0qx ?h0qy 97 _ HX0.out ?h0qi ?h0qo ?h0q1 ?h0qk)
        case h0qx => rfl
        case h0qy => rfl
        case h0qi => kernel_rfl
        case h0qo => rfl
        case h0q1 => simp [Value.oneCell']
        go_wp2_with fail
        have hld := box_kt (setRow_heap _ _ _ #[.int .i64 4, .bool true] _ _ HX0.out)
        exact bodyPost_ret (v := .tuple #[.agg #[.int .i64 4, .bool true], .bool q2]) (by simp [results, Tryd.results89, Act.put, asAddr, hld]) rfl ⟨rfl, (HBB0.out).grown (grown_rowT _ _ _) (HBB0.out).size (fun z hz => by cases hz; omega)⟩
      · skip
        go_enter Tryd.func89, Tryd.ntmps89
        go_wp2_with fail
        refine (CY2.out _).mono ?_
        rintro e v0 ⟨rfl, hb0⟩
        have HL0 := Lib.hid (hb0.mono (by rw [HSZ.out]; exact Nat.le_refl _))
        obtain ⟨⟨c00, c01, c02, c03⟩, hx0, hB0⟩ := KEEP.out v0 HL0.out
        have HX0 := Lib.hid hx0
        have HBB0 := Lib.hid hB0
        clear hb0 hx0 hB0
        go_wp2_with (with_reducible refine wpList_store_row (o := Oper.mk none (Op.store 97 (.tmp 6) (.tmp 25)) _ _ _ none) rfl 97 (.tmp 6) (.tmp 25) rfl (w.heap.size + 2) #[.int .i64 4, .bool true] ?h1qx ?h1qy 97 _ HX0.out ?h1qi ?h1qo ?h1q1 ?h1qk)
        case h1qx => rfl
        case h1qy => rfl
        case h1qi => kernel_rfl
        case h1qo => rfl
        case h1q1 => simp [Value.oneCell']
        go_wp2_with fail
        have hld := box_kt (setRow_heap _ _ _ #[.int .i64 4, .bool true] _ _ HX0.out)
        exact bodyPost_ret (v := .tuple #[.agg #[.int .i64 4, .bool true], .bool q2]) (by simp [results, Tryd.results89, Act.put, asAddr, hld]) rfl ⟨rfl, (HBB0.out).grown (grown_rowT _ _ _) (HBB0.out).size (fun z hz => by cases hz; omega)⟩
    · rw [if_neg ha]
      have hab : (a == 4) = false := by simpa using ha
      clear ha
      cases q1
      all_goals cases b
      · skip
        simp only [Bool.false_and, Bool.true_and]
        go_enter Tryd.func89, Tryd.ntmps89
        go_wp2_with fail
        refine (CX2.out _).mono ?_
        rintro e v0 ⟨rfl, hb0⟩
        have HL0 := Lib.hid (hb0.mono (by rw [HSZ.out]; exact Nat.le_refl _))
        obtain ⟨⟨c00, c01, c02, c03⟩, hx0, hB0⟩ := KEEP.out v0 HL0.out
        have HX0 := Lib.hid hx0
        have HBB0 := Lib.hid hB0
        clear hb0 hx0 hB0
        go_wp2_with (with_reducible refine wpList_store_row (o := Oper.mk none (Op.store 97 (.tmp 6) (.tmp 28)) _ _ _ none) rfl 97 (.tmp 6) (.tmp 28) rfl (w.heap.size + 2) #[.int .i64 2, .bool true] ?h2qx ?h2qy 97 _ HX0.out ?h2qi ?h2qo ?h2q1 ?h2qk)
        case h2qx => rfl
        case h2qy => rfl
        case h2qi => kernel_rfl
        case h2qo => rfl
        case h2q1 => simp [Value.oneCell']
        go_wp2_with fail
        have hld := box_kt (setRow_heap _ _ _ #[.int .i64 2, .bool true] _ _ HX0.out)
        exact bodyPost_ret (v := .tuple #[.agg #[.int .i64 2, .bool true], .bool false]) (by simp [results, Tryd.results89, Act.put, asAddr, hld]) rfl ⟨rfl, (HBB0.out).grown (grown_rowT _ _ _) (HBB0.out).size (fun z hz => by cases hz; omega)⟩
      · skip
        simp only [Bool.false_and, Bool.true_and]
        go_enter Tryd.func89, Tryd.ntmps89
        go_wp2_with fail
        refine (CX2.out _).mono ?_
        rintro e v0 ⟨rfl, hb0⟩
        have HL0 := Lib.hid (hb0.mono (by rw [HSZ.out]; exact Nat.le_refl _))
        obtain ⟨⟨c00, c01, c02, c03⟩, hx0, hB0⟩ := KEEP.out v0 HL0.out
        have HX0 := Lib.hid hx0
        have HBB0 := Lib.hid hB0
        clear hb0 hx0 hB0
        go_wp2_with (with_reducible refine wpList_store_row (o := Oper.mk none (Op.store 97 (.tmp 6) (.tmp 28)) _ _ _ none) rfl 97 (.tmp 6) (.tmp 28) rfl (w.heap.size + 2) #[.int .i64 2, .bool true] ?h3qx ?h3qy 97 _ HX0.out ?h3qi ?h3qo ?h3q1 ?h3qk)
        case h3qx => rfl
        case h3qy => rfl
        case h3qi => kernel_rfl
        case h3qo => rfl
        case h3q1 => simp [Value.oneCell']
        go_wp2_with fail
        have hld := box_kt (setRow_heap _ _ _ #[.int .i64 2, .bool true] _ _ HX0.out)
        exact bodyPost_ret (v := .tuple #[.agg #[.int .i64 2, .bool true], .bool false]) (by simp [results, Tryd.results89, Act.put, asAddr, hld]) rfl ⟨rfl, (HBB0.out).grown (grown_rowT _ _ _) (HBB0.out).size (fun z hz => by cases hz; omega)⟩
      · skip
        simp only [Bool.false_and, Bool.true_and]
        go_enter Tryd.func89, Tryd.ntmps89
        go_wp2_with fail
        refine (CX2.out _).mono ?_
        rintro e v0 ⟨rfl, hb0⟩
        have HL0 := Lib.hid (hb0.mono (by rw [HSZ.out]; exact Nat.le_refl _))
        obtain ⟨⟨c00, c01, c02, c03⟩, hx0, hB0⟩ := KEEP.out v0 HL0.out
        have HX0 := Lib.hid hx0
        have HBB0 := Lib.hid hB0
        clear hb0 hx0 hB0
        go_wp2_with fail
        refine (CY2.out _).mono ?_
        rintro e v1 ⟨rfl, hb1⟩
        have HL1 := Lib.hid (HL0.out.trans (hb1.mono (by have := HL0.out.size; rw [HSZ.out] at this; omega)))
        obtain ⟨⟨c10, c11, c12, c13⟩, hx1, hB1⟩ := KEEP.out v1 HL1.out
        have HX1 := Lib.hid hx1
        have HBB1 := Lib.hid hB1
        clear hb1 hx1 hB1
        go_wp2_with (with_reducible refine wpList_store_row (o := Oper.mk none (Op.store 97 (.tmp 6) (.tmp 28)) _ _ _ none) rfl 97 (.tmp 6) (.tmp 28) rfl (w.heap.size + 2) #[.int .i64 2, .bool true] ?h4qx ?h4qy 97 _ HX1.out ?h4qi ?h4qo ?h4q1 ?h4qk)
        case h4qx => rfl
        case h4qy => rfl
        case h4qi => kernel_rfl
        case h4qo => rfl
        case h4q1 => simp [Value.oneCell']
        go_wp2_with fail
        have hld := box_kt (setRow_heap _ _ _ #[.int .i64 2, .bool true] _ _ HX1.out)
        exact bodyPost_ret (v := .tuple #[.agg #[.int .i64 2, .bool true], .bool q2]) (by simp [results, Tryd.results89, Act.put, asAddr, hld]) rfl ⟨rfl, (HBB1.out).grown (grown_rowT _ _ _) (HBB1.out).size (fun z hz => by cases hz; omega)⟩
      · skip
        simp only [Bool.false_and, Bool.true_and]
        go_enter Tryd.func89, Tryd.ntmps89
        go_wp2_with fail
        refine (CX2.out _).mono ?_
        rintro e v0 ⟨rfl, hb0⟩
        have HL0 := Lib.hid (hb0.mono (by rw [HSZ.out]; exact Nat.le_refl _))
        obtain ⟨⟨c00, c01, c02, c03⟩, hx0, hB0⟩ := KEEP.out v0 HL0.out
        have HX0 := Lib.hid hx0
        have HBB0 := Lib.hid hB0
        clear hb0 hx0 hB0
        go_wp2_with fail
        refine (CY2.out _).mono ?_
        rintro e v1 ⟨rfl, hb1⟩
        have HL1 := Lib.hid (HL0.out.trans (hb1.mono (by have := HL0.out.size; rw [HSZ.out] at this; omega)))
        obtain ⟨⟨c10, c11, c12, c13⟩, hx1, hB1⟩ := KEEP.out v1 HL1.out
        have HX1 := Lib.hid hx1
        have HBB1 := Lib.hid hB1
        clear hb1 hx1 hB1
        go_wp2_with (with_reducible refine wpList_store_row (o := Oper.mk none (Op.store 97 (.tmp 6) (.tmp 28)) _ _ _ none) rfl 97 (.tmp 6) (.tmp 28) rfl (w.heap.size + 2) #[.int .i64 2, .bool true] ?h5qx ?h5qy 97 _ HX1.out ?h5qi ?h5qo ?h5q1 ?h5qk)
        case h5qx => rfl
        case h5qy => rfl
        case h5qi => kernel_rfl
        case h5qo => rfl
        case h5q1 => simp [Value.oneCell']
        go_wp2_with fail
        have hld := box_kt (setRow_heap _ _ _ #[.int .i64 2, .bool true] _ _ HX1.out)
        exact bodyPost_ret (v := .tuple #[.agg #[.int .i64 2, .bool true], .bool q2]) (by simp [results, Tryd.results89, Act.put, asAddr, hld]) rfl ⟨rfl, (HBB1.out).grown (grown_rowT _ _ _) (HBB1.out).size (fun z hz => by cases hz; omega)⟩
  rw [if_neg h4]
  have b4 : (op == 4) = false := by simpa using h4
  by_cases h5 : op = 5
  · subst h5
    rw [if_pos rfl]
    generalize difT (a, b) (c, d) = D at *
    obtain ⟨⟨k1, n1⟩, r1⟩ := D
    simp only at CD
    clear CX CY CC h4
    cases b
    · skip
      go_enter Tryd.func89, Tryd.ntmps89
      go_wp2_with fail
      refine (CD.out _).mono ?_
      rintro e v0 ⟨rfl, hb0⟩
      have HL0 := Lib.hid (hb0.mono (by rw [HSZ.out]; exact Nat.le_refl _))
      obtain ⟨⟨c00, c01, c02, c03⟩, hx0, hB0⟩ := KEEP.out v0 HL0.out
      have HX0 := Lib.hid hx0
      have HBB0 := Lib.hid hB0
      clear hb0 hx0 hB0
      go_wp2_with (with_reducible refine wpList_store_row (o := Oper.mk none (Op.store 97 (.tmp 6) (.tmp 40)) _ _ _ none) rfl 97 (.tmp 6) (.tmp 40) rfl (w.heap.size + 2) #[.int .i64 k1, .bool n1] ?h6qx ?h6qy 97 _ HX0.out ?h6qi ?h6qo ?h6q1 ?h6qk)
      case h6qx => rfl
      case h6qy => rfl
      case h6qi => kernel_rfl
      case h6qo => rfl
      case h6q1 => simp [Value.oneCell']
      go_wp2_with fail
      have hld := box_kt (setRow_heap _ _ _ #[.int .i64 k1, .bool n1] _ _ HX0.out)
      exact bodyPost_ret (v := .tuple #[.agg #[.int .i64 k1, .bool n1], .bool r1]) (by simp [results, Tryd.results89, Act.put, asAddr, hld]) rfl ⟨rfl, (HBB0.out).grown (grown_rowT _ _ _) (HBB0.out).size (fun z hz => by cases hz; omega)⟩
    · skip
      go_enter Tryd.func89, Tryd.ntmps89
      go_wp2_with fail
      refine (CD.out _).mono ?_
      rintro e v0 ⟨rfl, hb0⟩
      have HL0 := Lib.hid (hb0.mono (by rw [HSZ.out]; exact Nat.le_refl _))
      obtain ⟨⟨c00, c01, c02, c03⟩, hx0, hB0⟩ := KEEP.out v0 HL0.out
      have HX0 := Lib.hid hx0
      have HBB0 := Lib.hid hB0
      clear hb0 hx0 hB0
      go_wp2_with (with_reducible refine wpList_store_row (o := Oper.mk none (Op.store 97 (.tmp 6) (.tmp 40)) _ _ _ none) rfl 97 (.tmp 6) (.tmp 40) rfl (w.heap.size + 2) #[.int .i64 k1, .bool n1] ?h7qx ?h7qy 97 _ HX0.out ?h7qi ?h7qo ?h7q1 ?h7qk)
      case h7qx => rfl
      case h7qy => rfl
      case h7qi => kernel_rfl
      case h7qo => rfl
      case h7q1 => simp [Value.oneCell']
      go_wp2_with fail
      have hld := box_kt (setRow_heap _ _ _ #[.int .i64 k1, .bool n1] _ _ HX0.out)
      exact bodyPost_ret (v := .tuple #[.agg #[.int .i64 k1, .bool n1], .bool r1]) (by simp [results, Tryd.results89, Act.put, asAddr, hld]) rfl ⟨rfl, (HBB0.out).grown (grown_rowT _ _ _) (HBB0.out).size (fun z hz => by cases hz; omega)⟩
  rw [if_neg h5]
  have b5 : (op == 5) = false := by simpa using h5
  by_cases h678 : op = 6 ∨ op = 7 ∨ op = 8
  · rw [if_pos h678]
    have CX2 := Lib.hid (CX.out 2)
    have CY2 := Lib.hid (CY.out 2)
    generalize fitB (a, b) 2 = q1 at *
    generalize fitB (c, d) 2 = q2 at *
    clear CX CY CD CC h4 h5
    rcases h678 with rfl | rfl | rfl
    all_goals cases q1
    all_goals cases b
    · skip
      simp only [Bool.false_and, Bool.true_and]
      go_enter Tryd.func89, Tryd.ntmps89
      go_wp2_with fail
      refine (CX2.out _).mono ?_
      rintro e v0 ⟨rfl, hb0⟩
      have HL0 := Lib.hid (hb0.mono (by rw [HSZ.out]; exact Nat.le_refl _))
      obtain ⟨⟨c00, c01, c02, c03⟩, hx0, hB0⟩ := KEEP.out v0 HL0.out
      have HX0 := Lib.hid hx0
      have HBB0 := Lib.hid hB0
      clear hb0 hx0 hB0
      go_wp2_with (with_reducible refine wpList_store_row (o := Oper.mk none (Op.store 97 (.tmp 6) (.tmp 46)) _ _ _ none) rfl 97 (.tmp 6) (.tmp 46) rfl (w.heap.size + 2) #[.int .i64 2, .bool true] ?h8qx ?h8qy 97 _ HX0.out ?h8qi ?h8qo ?h8q1 ?h8qk)
      case h8qx => rfl
      case h8qy => rfl
      case h8qi => kernel_rfl
      case h8qo => rfl
      case h8q1 => simp [Value.oneCell']
      go_wp2_with fail
      have hld := box_kt (setRow_heap _ _ _ #[.int .i64 2, .bool true] _ _ HX0.out)
      exact bodyPost_ret (v := .tuple #[.agg #[.int .i64 2, .bool true], .bool false]) (by simp [results, Tryd.results89, Act.put, asAddr, hld]) rfl ⟨rfl, (HBB0.out).grown (grown_rowT _ _ _) (HBB0.out).size (fun z hz => by cases hz; omega)⟩
    · skip
      simp only [Bool.false_and, Bool.true_and]
      go_enter Tryd.func89, Tryd.ntmps89
      go_wp2_with fail
      refine (CX2.out _).mono ?_
      rintro e v0 ⟨rfl, hb0⟩
      have HL0 := Lib.hid (hb0.mono (by rw [HSZ.out]; exact Nat.le_refl _))
      obtain ⟨⟨c00, c01, c02, c03⟩, hx0, hB0⟩ := KEEP.out v0 HL0.out
      have HX0 := Lib.hid hx0
      have HBB0 := Lib.hid hB0
      clear hb0 hx0 hB0
      go_wp2_with (with_reducible refine wpList_store_row (o := Oper.mk none (Op.store 97 (.tmp 6) (.tmp 46)) _ _ _ none) rfl 97 (.tmp 6) (.tmp 46) rfl (w.heap.size + 2) #[.int .i64 2, .bool true] ?h9qx ?h9qy 97 _ HX0.out ?h9qi ?h9qo ?h9q1 ?h9qk)
      case h9qx => rfl
      case h9qy => rfl
      case h9qi => kernel_rfl
      case h9qo => rfl
      case h9q1 => simp [Value.oneCell']
      go_wp2_with fail
      have hld := box_kt (setRow_heap _ _ _ #[.int .i64 2, .bool true] _ _ HX0.out)
      exact bodyPost_ret (v := .tuple #[.agg #[.int .i64 2, .bool true], .bool false]) (by simp [results, Tryd.results89, Act.put, asAddr, hld]) rfl ⟨rfl, (HBB0.out).grown (grown_rowT _ _ _) (HBB0.out).size (fun z hz => by cases hz; omega)⟩
    · skip
      simp only [Bool.false_and, Bool.true_and]
      go_enter Tryd.func89, Tryd.ntmps89
      go_wp2_with fail
      refine (CX2.out _).mono ?_
      rintro e v0 ⟨rfl, hb0⟩
      have HL0 := Lib.hid (hb0.mono (by rw [HSZ.out]; exact Nat.le_refl _))
      obtain ⟨⟨c00, c01, c02, c03⟩, hx0, hB0⟩ := KEEP.out v0 HL0.out
      have HX0 := Lib.hid hx0
      have HBB0 := Lib.hid hB0
      clear hb0 hx0 hB0
      go_wp2_with fail
      refine (CY2.out _).mono ?_
      rintro e v1 ⟨rfl, hb1⟩
      have HL1 := Lib.hid (HL0.out.trans (hb1.mono (by have := HL0.out.size; rw [HSZ.out] at this; omega)))
      obtain ⟨⟨c10, c11, c12, c13⟩, hx1, hB1⟩ := KEEP.out v1 HL1.out
      have HX1 := Lib.hid hx1
      have HBB1 := Lib.hid hB1
      clear hb1 hx1 hB1
      go_wp2_with (with_reducible refine wpList_store_row (o := Oper.mk none (Op.store 97 (.tmp 6) (.tmp 46)) _ _ _ none) rfl 97 (.tmp 6) (.tmp 46) rfl (w.heap.size + 2) #[.int .i64 2, .bool true] ?h10qx ?h10qy 97 _ HX1.out ?h10qi ?h10qo ?h10q1 ?h10qk)
      case h10qx => rfl
      case h10qy => rfl
      case h10qi => kernel_rfl
      case h10qo => rfl
      case h10q1 => simp [Value.oneCell']
      go_wp2_with fail
      have hld := box_kt (setRow_heap _ _ _ #[.int .i64 2, .bool true] _ _ HX1.out)
      exact bodyPost_ret (v := .tuple #[.agg #[.int .i64 2, .bool true], .bool q2]) (by simp [results, Tryd.results89, Act.put, asAddr, hld]) rfl ⟨rfl, (HBB1.out).grown (grown_rowT _ _ _) (HBB1.out).size (fun z hz => by cases hz; omega)⟩
    · skip
      simp only [Bool.false_and, Bool.true_and]
      go_enter Tryd.func89, Tryd.ntmps89
      go_wp2_with fail
      refine (CX2.out _).mono ?_
      rintro e v0 ⟨rfl, hb0⟩
      have HL0 := Lib.hid (hb0.mono (by rw [HSZ.out]; exact Nat.le_refl _))
      obtain ⟨⟨c00, c01, c02, c03⟩, hx0, hB0⟩ := KEEP.out v0 HL0.out
      have HX0 := Lib.hid hx0
      have HBB0 := Lib.hid hB0
      clear hb0 hx0 hB0
      go_wp2_with fail
      refine (CY2.out _).mono ?_
      rintro e v1 ⟨rfl, hb1⟩
      have HL1 := Lib.hid (HL0.out.trans (hb1.mono (by have := HL0.out.size; rw [HSZ.out] at this; omega)))
      obtain ⟨⟨c10, c11, c12, c13⟩, hx1, hB1⟩ := KEEP.out v1 HL1.out
      have HX1 := Lib.hid hx1
      have HBB1 := Lib.hid hB1
      clear hb1 hx1 hB1
      go_wp2_with (with_reducible refine wpList_store_row (o := Oper.mk none (Op.store 97 (.tmp 6) (.tmp 46)) _ _ _ none) rfl 97 (.tmp 6) (.tmp 46) rfl (w.heap.size + 2) #[.int .i64 2, .bool true] ?h11qx ?h11qy 97 _ HX1.out ?h11qi ?h11qo ?h11q1 ?h11qk)
      case h11qx => rfl
      case h11qy => rfl
      case h11qi => kernel_rfl
      case h11qo => rfl
      case h11q1 => simp [Value.oneCell']
      go_wp2_with fail
      have hld := box_kt (setRow_heap _ _ _ #[.int .i64 2, .bool true] _ _ HX1.out)
      exact bodyPost_ret (v := .tuple #[.agg #[.int .i64 2, .bool true], .bool q2]) (by simp [results, Tryd.results89, Act.put, asAddr, hld]) rfl ⟨rfl, (HBB1.out).grown (grown_rowT _ _ _) (HBB1.out).size (fun z hz => by cases hz; omega)⟩
    · skip
      simp only [Bool.false_and, Bool.true_and]
      go_enter Tryd.func89, Tryd.ntmps89
      go_wp2_with fail
      refine (CX2.out _).mono ?_
      rintro e v0 ⟨rfl, hb0⟩
      have HL0 := Lib.hid (hb0.mono (by rw [HSZ.out]; exact Nat.le_refl _))
      obtain ⟨⟨c00, c01, c02, c03⟩, hx0, hB0⟩ := KEEP.out v0 HL0.out
      have HX0 := Lib.hid hx0
      have HBB0 := Lib.hid hB0
      clear hb0 hx0 hB0
      go_wp2_with (with_reducible refine wpList_store_row (o := Oper.mk none (Op.store 97 (.tmp 6) (.tmp 46)) _ _ _ none) rfl 97 (.tmp 6) (.tmp 46) rfl (w.heap.size + 2) #[.int .i64 2, .bool true] ?h12qx ?h12qy 97 _ HX0.out ?h12qi ?h12qo ?h12q1 ?h12qk)
      case h12qx => rfl
      case h12qy => rfl
      case h12qi => kernel_rfl
      case h12qo => rfl
      case h12q1 => simp [Value.oneCell']
      go_wp2_with fail
      have hld := box_kt (setRow_heap _ _ _ #[.int .i64 2, .bool true] _ _ HX0.out)
      exact bodyPost_ret (v := .tuple #[.agg #[.int .i64 2, .bool true], .bool false]) (by simp [results, Tryd.results89, Act.put, asAddr, hld]) rfl ⟨rfl, (HBB0.out).grown (grown_rowT _ _ _) (HBB0.out).size (fun z hz => by cases hz; omega)⟩
    · skip
      simp only [Bool.false_and, Bool.true_and]
      go_enter Tryd.func89, Tryd.ntmps89
      go_wp2_with fail
      refine (CX2.out _).mono ?_
      rintro e v0 ⟨rfl, hb0⟩
      have HL0 := Lib.hid (hb0.mono (by rw [HSZ.out]; exact Nat.le_refl _))
      obtain ⟨⟨c00, c01, c02, c03⟩, hx0, hB0⟩ := KEEP.out v0 HL0.out
      have HX0 := Lib.hid hx0
      have HBB0 := Lib.hid hB0
      clear hb0 hx0 hB0
      go_wp2_with (with_reducible refine wpList_store_row (o := Oper.mk none (Op.store 97 (.tmp 6) (.tmp 46)) _ _ _ none) rfl 97 (.tmp 6) (.tmp 46) rfl (w.heap.size + 2) #[.int .i64 2, .bool true] ?h13qx ?h13qy 97 _ HX0.out ?h13qi ?h13qo ?h13q1 ?h13qk)
      case h13qx => rfl
      case h13qy => rfl
      case h13qi => kernel_rfl
      case h13qo => rfl
      case h13q1 => simp [Value.oneCell']
      go_wp2_with fail
      have hld := box_kt (setRow_heap _ _ _ #[.int .i64 2, .bool true] _ _ HX0.out)
      exact bodyPost_ret (v := .tuple #[.agg #[.int .i64 2, .bool true], .bool false]) (by simp [results, Tryd.results89, Act.put, asAddr, hld]) rfl ⟨rfl, (HBB0.out).grown (grown_rowT _ _ _) (HBB0.out).size (fun z hz => by cases hz; omega)⟩
    · skip
      simp only [Bool.false_and, Bool.true_and]
      go_enter Tryd.func89, Tryd.ntmps89
      go_wp2_with fail
      refine (CX2.out _).mono ?_
      rintro e v0 ⟨rfl, hb0⟩
      have HL0 := Lib.hid (hb0.mono (by rw [HSZ.out]; exact Nat.le_refl _))
      obtain ⟨⟨c00, c01, c02, c03⟩, hx0, hB0⟩ := KEEP.out v0 HL0.out
      have HX0 := Lib.hid hx0
      have HBB0 := Lib.hid hB0
      clear hb0 hx0 hB0
      go_wp2_with fail
      refine (CY2.out _).mono ?_
      rintro e v1 ⟨rfl, hb1⟩
      have HL1 := Lib.hid (HL0.out.trans (hb1.mono (by have := HL0.out.size; rw [HSZ.out] at this; omega)))
      obtain ⟨⟨c10, c11, c12, c13⟩, hx1, hB1⟩ := KEEP.out v1 HL1.out
      have HX1 := Lib.hid hx1
      have HBB1 := Lib.hid hB1
      clear hb1 hx1 hB1
      go_wp2_with (with_reducible refine wpList_store_row (o := Oper.mk none (Op.store 97 (.tmp 6) (.tmp 46)) _ _ _ none) rfl 97 (.tmp 6) (.tmp 46) rfl (w.heap.size + 2) #[.int .i64 2, .bool true] ?h14qx ?h14qy 97 _ HX1.out ?h14qi ?h14qo ?h14q1 ?h14qk)
      case h14qx => rfl
      case h14qy => rfl
      case h14qi => kernel_rfl
      case h14qo => rfl
      case h14q1 => simp [Value.oneCell']
      go_wp2_with fail
      have hld := box_kt (setRow_heap _ _ _ #[.int .i64 2, .bool true] _ _ HX1.out)
      exact bodyPost_ret (v := .tuple #[.agg #[.int .i64 2, .bool true], .bool q2]) (by simp [results, Tryd.results89, Act.put, asAddr, hld]) rfl ⟨rfl, (HBB1.out).grown (grown_rowT _ _ _) (HBB1.out).size (fun z hz => by cases hz; omega)⟩
    · skip
      simp only [Bool.false_and, Bool.true_and]
      go_enter Tryd.func89, Tryd.ntmps89
      go_wp2_with fail
      refine (CX2.out _).mono ?_
      rintro e v0 ⟨rfl, hb0⟩
      have HL0 := Lib.hid (hb0.mono (by rw [HSZ.out]; exact Nat.le_refl _))
      obtain ⟨⟨c00, c01, c02, c03⟩, hx0, hB0⟩ := KEEP.out v0 HL0.out
      have HX0 := Lib.hid hx0
      have HBB0 := Lib.hid hB0
      clear hb0 hx0 hB0
      go_wp2_with fail
      refine (CY2.out _).mono ?_
      rintro e v1 ⟨rfl, hb1⟩
      have HL1 := Lib.hid (HL0.out.trans (hb1.mono (by have := HL0.out.size; rw [HSZ.out] at this; omega)))
      obtain ⟨⟨c10, c11, c12, c13⟩, hx1, hB1⟩ := KEEP.out v1 HL1.out
      have HX1 := Lib.hid hx1
      have HBB1 := Lib.hid hB1
      clear hb1 hx1 hB1
      go_wp2_with (with_reducible refine wpList_store_row (o := Oper.mk none (Op.store 97 (.tmp 6) (.tmp 46)) _ _ _ none) rfl 97 (.tmp 6) (.tmp 46) rfl (w.heap.size + 2) #[.int .i64 2, .bool true] ?h15qx ?h15qy 97 _ HX1.out ?h15qi ?h15qo ?h15q1 ?h15qk)
      case h15qx => rfl
      case h15qy => rfl
      case h15qi => kernel_rfl
      case h15qo => rfl
      case h15q1 => simp [Value.oneCell']
      go_wp2_with fail
      have hld := box_kt (setRow_heap _ _ _ #[.int .i64 2, .bool true] _ _ HX1.out)
      exact bodyPost_ret (v := .tuple #[.agg #[.int .i64 2, .bool true], .bool q2]) (by simp [results, Tryd.results89, Act.put, asAddr, hld]) rfl ⟨rfl, (HBB1.out).grown (grown_rowT _ _ _) (HBB1.out).size (fun z hz => by cases hz; omega)⟩
    · skip
      simp only [Bool.false_and, Bool.true_and]
      go_enter Tryd.func89, Tryd.ntmps89
      go_wp2_with fail
      refine (CX2.out _).mono ?_
      rintro e v0 ⟨rfl, hb0⟩
      have HL0 := Lib.hid (hb0.mono (by rw [HSZ.out]; exact Nat.le_refl _))
      obtain ⟨⟨c00, c01, c02, c03⟩, hx0, hB0⟩ := KEEP.out v0 HL0.out
      have HX0 := Lib.hid hx0
      have HBB0 := Lib.hid hB0
      clear hb0 hx0 hB0
      go_wp2_with (with_reducible refine wpList_store_row (o := Oper.mk none (Op.store 97 (.tmp 6) (.tmp 46)) _ _ _ none) rfl 97 (.tmp 6) (.tmp 46) rfl (w.heap.size + 2) #[.int .i64 2, .bool true] ?h16qx ?h16qy 97 _ HX0.out ?h16qi ?h16qo ?h16q1 ?h16qk)
      case h16qx => rfl
      case h16qy => rfl
      case h16qi => kernel_rfl
      case h16qo => rfl
      case h16q1 => simp [Value.oneCell']
      go_wp2_with fail
      have hld := box_kt (setRow_heap _ _ _ #[.int .i64 2, .bool true] _ _ HX0.out)
      exact bodyPost_ret (v := .tuple #[.agg #[.int .i64 2, .bool true], .bool false]) (by simp [results, Tryd.results89, Act.put, asAddr, hld]) rfl ⟨rfl, (HBB0.out).grown (grown_rowT _ _ _) (HBB0.out).size (fun z hz => by cases hz; omega)⟩
    · skip
      simp only [Bool.false_and, Bool.true_and]
      go_enter Tryd.func89, Tryd.ntmps89
      go_wp2_with fail
      refine (CX2.out _).mono ?_
      rintro e v0 ⟨rfl, hb0⟩
      have HL0 := Lib.hid (hb0.mono (by rw [HSZ.out]; exact Nat.le_refl _))
      obtain ⟨⟨c00, c01, c02, c03⟩, hx0, hB0⟩ := KEEP.out v0 HL0.out
      have HX0 := Lib.hid hx0
      have HBB0 := Lib.hid hB0
      clear hb0 hx0 hB0
      go_wp2_with (with_reducible refine wpList_store_row (o := Oper.mk none (Op.store 97 (.tmp 6) (.tmp 46)) _ _ _ none) rfl 97 (.tmp 6) (.tmp 46) rfl (w.heap.size + 2) #[.int .i64 2, .bool true] ?h17qx ?h17qy 97 _ HX0.out ?h17qi ?h17qo ?h17q1 ?h17qk)
      case h17qx => rfl
      case h17qy => rfl
      case h17qi => kernel_rfl
      case h17qo => rfl
      case h17q1 => simp [Value.oneCell']
      go_wp2_with fail
      have hld := box_kt (setRow_heap _ _ _ #[.int .i64 2, .bool true] _ _ HX0.out)
      exact bodyPost_ret (v := .tuple #[.agg #[.int .i64 2, .bool true], .bool false]) (by simp [results, Tryd.results89, Act.put, asAddr, hld]) rfl ⟨rfl, (HBB0.out).grown (grown_rowT _ _ _) (HBB0.out).size (fun z hz => by cases hz; omega)⟩
    · skip
      simp only [Bool.false_and, Bool.true_and]
      go_enter Tryd.func89, Tryd.ntmps89
      go_wp2_with fail
      refine (CX2.out _).mono ?_
      rintro e v0 ⟨rfl, hb0⟩
      have HL0 := Lib.hid (hb0.mono (by rw [HSZ.out]; exact Nat.le_refl _))
      obtain ⟨⟨c00, c01, c02, c03⟩, hx0, hB0⟩ := KEEP.out v0 HL0.out
      have HX0 := Lib.hid hx0
      have HBB0 := Lib.hid hB0
      clear hb0 hx0 hB0
      go_wp2_with fail
      refine (CY2.out _).mono ?_
      rintro e v1 ⟨rfl, hb1⟩
      have HL1 := Lib.hid (HL0.out.trans (hb1.mono (by have := HL0.out.size; rw [HSZ.out] at this; omega)))
      obtain ⟨⟨c10, c11, c12, c13⟩, hx1, hB1⟩ := KEEP.out v1 HL1.out
      have HX1 := Lib.hid hx1
      have HBB1 := Lib.hid hB1
      clear hb1 hx1 hB1
      go_wp2_with (with_reducible refine wpList_store_row (o := Oper.mk none (Op.store 97 (.tmp 6) (.tmp 46)) _ _ _ none) rfl 97 (.tmp 6) (.tmp 46) rfl (w.heap.size + 2) #[.int .i64 2, .bool true] ?h18qx ?h18qy 97 _ HX1.out ?h18qi ?h18qo ?h18q1 ?h18qk)
      case h18qx => rfl
      case h18qy => rfl
      case h18qi => kernel_rfl
      case h18qo => rfl
      case h18q1 => simp [Value.oneCell']
      go_wp2_with fail
      have hld := box_kt (setRow_heap _ _ _ #[.int .i64 2, .bool true] _ _ HX1.out)
      exact bodyPost_ret (v := .tuple #[.agg #[.int .i64 2, .bool true], .bool q2]) (by simp [results, Tryd.results89, Act.put, asAddr, hld]) rfl ⟨rfl, (HBB1.out).grown (grown_rowT _ _ _) (HBB1.out).size (fun z hz => by cases hz; omega)⟩
    · skip
      simp only [Bool.false_and, Bool.true_and]
      go_enter Tryd.func89, Tryd.ntmps89
      go_wp2_with fail
      refine (CX2.out _).mono ?_
      rintro e v0 ⟨rfl, hb0⟩
      have HL0 := Lib.hid (hb0.mono (by rw [HSZ.out]; exact Nat.le_refl _))
      obtain ⟨⟨c00, c01, c02, c03⟩, hx0, hB0⟩ := KEEP.out v0 HL0.out
      have HX0 := Lib.hid hx0
      have HBB0 := Lib.hid hB0
      clear hb0 hx0 hB0
      go_wp2_with fail
      refine (CY2.out _).mono ?_
      rintro e v1 ⟨rfl, hb1⟩
      have HL1 := Lib.hid (HL0.out.trans (hb1.mono (by have := HL0.out.size; rw [HSZ.out] at this; omega)))
      obtain ⟨⟨c10, c11, c12, c13⟩, hx1, hB1⟩ := KEEP.out v1 HL1.out
      have HX1 := Lib.hid hx1
      have HBB1 := Lib.hid hB1
      clear hb1 hx1 hB1
      go_wp2_with (with_reducible refine wpList_store_row (o := Oper.mk none (Op.store 97 (.tmp 6) (.tmp 46)) _ _ _ none) rfl 97 (.tmp 6) (.tmp 46) rfl (w.heap.size + 2) #[.int .i64 2, .bool true] ?h19qx ?h19qy 97 _ HX1.out ?h19qi ?h19qo ?h19q1 ?h19qk)
      case h19qx => rfl
      case h19qy => rfl
      case h19qi => kernel_rfl
      case h19qo => rfl
      case h19q1 => simp [Value.oneCell']
      go_wp2_with fail
      have hld := box_kt (setRow_heap _ _ _ #[.int .i64 2, .bool true] _ _ HX1.out)
      exact bodyPost_ret (v := .tuple #[.agg #[.int .i64 2, .bool true], .bool q2]) (by simp [results, Tryd.results89, Act.put, asAddr, hld]) rfl ⟨rfl, (HBB1.out).grown (grown_rowT _ _ _) (HBB1.out).size (fun z hz => by cases hz; omega)⟩
  rw [if_neg h678]
  have b6 : (op == 6) = false := by simpa using fun h => h678 (.inl h)
  have b7 : (op == 7) = false := by simpa using fun h => h678 (.inr (.inl h))
  have b8 : (op == 8) = false := by simpa using fun h => h678 (.inr (.inr h))
  by_cases h9 : op = 9
  · subst h9
    rw [if_pos rfl]
    have CX2 := Lib.hid (CX.out 3)
    have CY2 := Lib.hid (CY.out 3)
    generalize fitB (a, b) 3 = q1 at *
    generalize fitB (c, d) 3 = q2 at *
    clear CX CY CD CC h4 h5 h678
    cases q1
    all_goals cases b
    · skip
      simp only [Bool.false_and, Bool.true_and]
      go_enter Tryd.func89, Tryd.ntmps89
      go_wp2_with fail
      refine (CX2.out _).mono ?_
      rintro e v0 ⟨rfl, hb0⟩
      have HL0 := Lib.hid (hb0.mono (by rw [HSZ.out]; exact Nat.le_refl _))
      obtain ⟨⟨c00, c01, c02, c03⟩, hx0, hB0⟩ := KEEP.out v0 HL0.out
      have HX0 := Lib.hid hx0
      have HBB0 := Lib.hid hB0
      clear hb0 hx0 hB0
      go_wp2_with (with_reducible refine wpList_store_row (o := Oper.mk none (Op.store 97 (.tmp 6) (.tmp 55)) _ _ _ none) rfl 97 (.tmp 6) (.tmp 55) rfl (w.heap.size + 2) #[.int .i64 3, .bool true] ?h20qx ?h20qy 97 _ HX0.out ?h20qi ?h20qo ?h20q1 ?h20qk)
      case h20qx => rfl
      case h20qy => rfl
      case h20qi => kernel_rfl
      case h20qo => rfl
      case h20q1 => simp [Value.oneCell']
      go_wp2_with fail
      have hld := box_kt (setRow_heap _ _ _ #[.int .i64 3, .bool true] _ _ HX0.out)
      exact bodyPost_ret (v := .tuple #[.agg #[.int .i64 3, .bool true], .bool false]) (by simp [results, Tryd.results89, Act.put, asAddr, hld]) rfl ⟨rfl, (HBB0.out).grown (grown_rowT _ _ _) (HBB0.out).size (fun z hz => by cases hz; omega)⟩
    · skip
      simp only [Bool.false_and, Bool.true_and]
      go_enter Tryd.func89, Tryd.ntmps89
      go_wp2_with fail
      refine (CX2.out _).mono ?_
      rintro e v0 ⟨rfl, hb0⟩
      have HL0 := Lib.hid (hb0.mono (by rw [HSZ.out]; exact Nat.le_refl _))
      obtain ⟨⟨c00, c01, c02, c03⟩, hx0, hB0⟩ := KEEP.out v0 HL0.out
      have HX0 := Lib.hid hx0
      have HBB0 := Lib.hid hB0
      clear hb0 hx0 hB0
      go_wp2_with (with_reducible refine wpList_store_row (o := Oper.mk none (Op.store 97 (.tmp 6) (.tmp 55)) _ _ _ none) rfl 97 (.tmp 6) (.tmp 55) rfl (w.heap.size + 2) #[.int .i64 3, .bool true] ?h21qx ?h21qy 97 _ HX0.out ?h21qi ?h21qo ?h21q1 ?h21qk)
      case h21qx => rfl
      case h21qy => rfl
      case h21qi => kernel_rfl
      case h21qo => rfl
      case h21q1 => simp [Value.oneCell']
      go_wp2_with fail
      have hld := box_kt (setRow_heap _ _ _ #[.int .i64 3, .bool true] _ _ HX0.out)
      exact bodyPost_ret (v := .tuple #[.agg #[.int .i64 3, .bool true], .bool false]) (by simp [results, Tryd.results89, Act.put, asAddr, hld]) rfl ⟨rfl, (HBB0.out).grown (grown_rowT _ _ _) (HBB0.out).size (fun z hz => by cases hz; omega)⟩
    · skip
      simp only [Bool.false_and, Bool.true_and]
      go_enter Tryd.func89, Tryd.ntmps89
      go_wp2_with fail
      refine (CX2.out _).mono ?_
      rintro e v0 ⟨rfl, hb0⟩
      have HL0 := Lib.hid (hb0.mono (by rw [HSZ.out]; exact Nat.le_refl _))
      obtain ⟨⟨c00, c01, c02, c03⟩, hx0, hB0⟩ := KEEP.out v0 HL0.out
      have HX0 := Lib.hid hx0
      have HBB0 := Lib.hid hB0
      clear hb0 hx0 hB0
      go_wp2_with fail
      refine (CY2.out _).mono ?_
      rintro e v1 ⟨rfl, hb1⟩
      have HL1 := Lib.hid (HL0.out.trans (hb1.mono (by have := HL0.out.size; rw [HSZ.out] at this; omega)))
      obtain ⟨⟨c10, c11, c12, c13⟩, hx1, hB1⟩ := KEEP.out v1 HL1.out
      have HX1 := Lib.hid hx1
      have HBB1 := Lib.hid hB1
      clear hb1 hx1 hB1
      go_wp2_with (with_reducible refine wpList_store_row (o := Oper.mk none (Op.store 97 (.tmp 6) (.tmp 55)) _ _ _ none) rfl 97 (.tmp 6) (.tmp 55) rfl (w.heap.size + 2) #[.int .i64 3, .bool true] ?h22qx ?h22qy 97 _ HX1.out ?h22qi ?h22qo ?h22q1 ?h22qk)
      case h22qx => rfl
      case h22qy => rfl
      case h22qi => kernel_rfl
      case h22qo => rfl
      case h22q1 => simp [Value.oneCell']
      go_wp2_with fail
      have hld := box_kt (setRow_heap _ _ _ #[.int .i64 3, .bool true] _ _ HX1.out)
      exact bodyPost_ret (v := .tuple #[.agg #[.int .i64 3, .bool true], .bool q2]) (by simp [results, Tryd.results89, Act.put, asAddr, hld]) rfl ⟨rfl, (HBB1.out).grown (grown_rowT _ _ _) (HBB1.out).size (fun z hz => by cases hz; omega)⟩
    · skip
      simp only [Bool.false_and, Bool.true_and]
      go_enter Tryd.func89, Tryd.ntmps89
      go_wp2_with fail
      refine (CX2.out _).mono ?_
      rintro e v0 ⟨rfl, hb0⟩
      have HL0 := Lib.hid (hb0.mono (by rw [HSZ.out]; exact Nat.le_refl _))
      obtain ⟨⟨c00, c01, c02, c03⟩, hx0, hB0⟩ := KEEP.out v0 HL0.out
      have HX0 := Lib.hid hx0
      have HBB0 := Lib.hid hB0
      clear hb0 hx0 hB0
      go_wp2_with fail
      refine (CY2.out _).mono ?_
      rintro e v1 ⟨rfl, hb1⟩
      have HL1 := Lib.hid (HL0.out.trans (hb1.mono (by have := HL0.out.size; rw [HSZ.out] at this; omega)))
      obtain ⟨⟨c10, c11, c12, c13⟩, hx1, hB1⟩ := KEEP.out v1 HL1.out
      have HX1 := Lib.hid hx1
      have HBB1 := Lib.hid hB1
      clear hb1 hx1 hB1
      go_wp2_with (with_reducible refine wpList_store_row (o := Oper.mk none (Op.store 97 (.tmp 6) (.tmp 55)) _ _ _ none) rfl 97 (.tmp 6) (.tmp 55) rfl (w.heap.size + 2) #[.int .i64 3, .bool true] ?h23qx ?h23qy 97 _ HX1.out ?h23qi ?h23qo ?h23q1 ?h23qk)
      case h23qx => rfl
      case h23qy => rfl
      case h23qi => kernel_rfl
      case h23qo => rfl
      case h23q1 => simp [Value.oneCell']
      go_wp2_with fail
      have hld := box_kt (setRow_heap _ _ _ #[.int .i64 3, .bool true] _ _ HX1.out)
      exact bodyPost_ret (v := .tuple #[.agg #[.int .i64 3, .bool true], .bool q2]) (by simp [results, Tryd.results89, Act.put, asAddr, hld]) rfl ⟨rfl, (HBB1.out).grown (grown_rowT _ _ _) (HBB1.out).size (fun z hz => by cases hz; omega)⟩
  rw [if_neg h9]
  have b9 : (op == 9) = false := by simpa using h9
  by_cases h14 : op = 14 ∨ op = 15
  · rw [if_pos h14]
    have CX2 := Lib.hid (CX.out 1)
    have CY2 := Lib.hid (CY.out 1)
    generalize fitB (a, b) 1 = q1 at *
    generalize fitB (c, d) 1 = q2 at *
    clear CX CY CD CC h4 h5 h678 h9
    rcases h14 with rfl | rfl
    all_goals cases q1
    all_goals cases b
    · skip
      simp only [Bool.false_and, Bool.true_and, Bool.false_or, Bool.true_or]
      go_enter Tryd.func89, Tryd.ntmps89
      go_wp2_with fail
      refine (CX2.out _).mono ?_
      rintro e v0 ⟨rfl, hb0⟩
      have HL0 := Lib.hid (hb0.mono (by rw [HSZ.out]; exact Nat.le_refl _))
      obtain ⟨⟨c00, c01, c02, c03⟩, hx0, hB0⟩ := KEEP.out v0 HL0.out
      have HX0 := Lib.hid hx0
      have HBB0 := Lib.hid hB0
      clear hb0 hx0 hB0
      go_wp2_with (with_reducible refine wpList_store_row (o := Oper.mk none (Op.store 97 (.tmp 6) (.tmp 66)) _ _ _ none) rfl 97 (.tmp 6) (.tmp 66) rfl (w.heap.size + 2) #[.int .i64 1, .bool d] ?h24qx ?h24qy 97 _ HX0.out ?h24qi ?h24qo ?h24q1 ?h24qk)
      case h24qx => rfl
      case h24qy => rfl
      case h24qi => kernel_rfl
      case h24qo => rfl
      case h24q1 => simp [Value.oneCell']
      go_wp2_with fail
      have hld := box_kt (setRow_heap _ _ _ #[.int .i64 1, .bool d] _ _ HX0.out)
      exact bodyPost_ret (v := .tuple #[.agg #[.int .i64 1, .bool d], .bool false]) (by simp [results, Tryd.results89, Act.put, asAddr, hld]) rfl ⟨rfl, (HBB0.out).grown (grown_rowT _ _ _) (HBB0.out).size (fun z hz => by cases hz; omega)⟩
    · skip
      simp only [Bool.false_and, Bool.true_and, Bool.false_or, Bool.true_or]
      go_enter Tryd.func89, Tryd.ntmps89
      go_wp2_with fail
      refine (CX2.out _).mono ?_
      rintro e v0 ⟨rfl, hb0⟩
      have HL0 := Lib.hid (hb0.mono (by rw [HSZ.out]; exact Nat.le_refl _))
      obtain ⟨⟨c00, c01, c02, c03⟩, hx0, hB0⟩ := KEEP.out v0 HL0.out
      have HX0 := Lib.hid hx0
      have HBB0 := Lib.hid hB0
      clear hb0 hx0 hB0
      go_wp2_with (with_reducible refine wpList_store_row (o := Oper.mk none (Op.store 97 (.tmp 6) (.tmp 66)) _ _ _ none) rfl 97 (.tmp 6) (.tmp 66) rfl (w.heap.size + 2) #[.int .i64 1, .bool true] ?h25qx ?h25qy 97 _ HX0.out ?h25qi ?h25qo ?h25q1 ?h25qk)
      case h25qx => rfl
      case h25qy => rfl
      case h25qi => kernel_rfl
      case h25qo => rfl
      case h25q1 => simp [Value.oneCell']
      go_wp2_with fail
      have hld := box_kt (setRow_heap _ _ _ #[.int .i64 1, .bool true] _ _ HX0.out)
      exact bodyPost_ret (v := .tuple #[.agg #[.int .i64 1, .bool true], .bool false]) (by simp [results, Tryd.results89, Act.put, asAddr, hld]) rfl ⟨rfl, (HBB0.out).grown (grown_rowT _ _ _) (HBB0.out).size (fun z hz => by cases hz; omega)⟩
    · skip
      simp only [Bool.false_and, Bool.true_and, Bool.false_or, Bool.true_or]
      go_enter Tryd.func89, Tryd.ntmps89
      go_wp2_with fail
      refine (CX2.out _).mono ?_
      rintro e v0 ⟨rfl, hb0⟩
      have HL0 := Lib.hid (hb0.mono (by rw [HSZ.out]; exact Nat.le_refl _))
      obtain ⟨⟨c00, c01, c02, c03⟩, hx0, hB0⟩ := KEEP.out v0 HL0.out
      have HX0 := Lib.hid hx0
      have HBB0 := Lib.hid hB0
      clear hb0 hx0 hB0
      go_wp2_with fail
      refine (CY2.out _).mono ?_
      rintro e v1 ⟨rfl, hb1⟩
      have HL1 := Lib.hid (HL0.out.trans (hb1.mono (by have := HL0.out.size; rw [HSZ.out] at this; omega)))
      obtain ⟨⟨c10, c11, c12, c13⟩, hx1, hB1⟩ := KEEP.out v1 HL1.out
      have HX1 := Lib.hid hx1
      have HBB1 := Lib.hid hB1
      clear hb1 hx1 hB1
      go_wp2_with (with_reducible refine wpList_store_row (o := Oper.mk none (Op.store 97 (.tmp 6) (.tmp 66)) _ _ _ none) rfl 97 (.tmp 6) (.tmp 66) rfl (w.heap.size + 2) #[.int .i64 1, .bool d] ?h26qx ?h26qy 97 _ HX1.out ?h26qi ?h26qo ?h26q1 ?h26qk)
      case h26qx => rfl
      case h26qy => rfl
      case h26qi => kernel_rfl
      case h26qo => rfl
      case h26q1 => simp [Value.oneCell']
      go_wp2_with fail
      have hld := box_kt (setRow_heap _ _ _ #[.int .i64 1, .bool d] _ _ HX1.out)
      exact bodyPost_ret (v := .tuple #[.agg #[.int .i64 1, .bool d], .bool q2]) (by simp [results, Tryd.results89, Act.put, asAddr, hld]) rfl ⟨rfl, (HBB1.out).grown (grown_rowT _ _ _) (HBB1.out).size (fun z hz => by cases hz; omega)⟩
    · skip
      simp only [Bool.false_and, Bool.true_and, Bool.false_or, Bool.true_or]
      go_enter Tryd.func89, Tryd.ntmps89
      go_wp2_with fail
      refine (CX2.out _).mono ?_
      rintro e v0 ⟨rfl, hb0⟩
      have HL0 := Lib.hid (hb0.mono (by rw [HSZ.out]; exact Nat.le_refl _))
      obtain ⟨⟨c00, c01, c02, c03⟩, hx0, hB0⟩ := KEEP.out v0 HL0.out
      have HX0 := Lib.hid hx0
      have HBB0 := Lib.hid hB0
      clear hb0 hx0 hB0
      go_wp2_with fail
      refine (CY2.out _).mono ?_
      rintro e v1 ⟨rfl, hb1⟩
      have HL1 := Lib.hid (HL0.out.trans (hb1.mono (by have := HL0.out.size; rw [HSZ.out] at this; omega)))
      obtain ⟨⟨c10, c11, c12, c13⟩, hx1, hB1⟩ := KEEP.out v1 HL1.out
      have HX1 := Lib.hid hx1
      have HBB1 := Lib.hid hB1
      clear hb1 hx1 hB1
      go_wp2_with (with_reducible refine wpList_store_row (o := Oper.mk none (Op.store 97 (.tmp 6) (.tmp 66)) _ _ _ none) rfl 97 (.tmp 6) (.tmp 66) rfl (w.heap.size + 2) #[.int .i64 1, .bool true] ?h27qx ?h27qy 97 _ HX1.out ?h27qi ?h27qo ?h27q1 ?h27qk)
      case h27qx => rfl
      case h27qy => rfl
      case h27qi => kernel_rfl
      case h27qo => rfl
      case h27q1 => simp [Value.oneCell']
      go_wp2_with fail
      have hld := box_kt (setRow_heap _ _ _ #[.int .i64 1, .bool true] _ _ HX1.out)
      exact bodyPost_ret (v := .tuple #[.agg #[.int .i64 1, .bool true], .bool q2]) (by simp [results, Tryd.results89, Act.put, asAddr, hld]) rfl ⟨rfl, (HBB1.out).grown (grown_rowT _ _ _) (HBB1.out).size (fun z hz => by cases hz; omega)⟩
    · skip
      simp only [Bool.false_and, Bool.true_and, Bool.false_or, Bool.true_or]
      go_enter Tryd.func89, Tryd.ntmps89
      go_wp2_with fail
      refine (CX2.out _).mono ?_
      rintro e v0 ⟨rfl, hb0⟩
      have HL0 := Lib.hid (hb0.mono (by rw [HSZ.out]; exact Nat.le_refl _))
      obtain ⟨⟨c00, c01, c02, c03⟩, hx0, hB0⟩ := KEEP.out v0 HL0.out
      have HX0 := Lib.hid hx0
      have HBB0 := Lib.hid hB0
      clear hb0 hx0 hB0
      go_wp2_with (with_reducible refine wpList_store_row (o := Oper.mk none (Op.store 97 (.tmp 6) (.tmp 66)) _ _ _ none) rfl 97 (.tmp 6) (.tmp 66) rfl (w.heap.size + 2) #[.int .i64 1, .bool d] ?h28qx ?h28qy 97 _ HX0.out ?h28qi ?h28qo ?h28q1 ?h28qk)
      case h28qx => rfl
      case h28qy => rfl
      case h28qi => kernel_rfl
      case h28qo => rfl
      case h28q1 => simp [Value.oneCell']
      go_wp2_with fail
      have hld := box_kt (setRow_heap _ _ _ #[.int .i64 1, .bool d] _ _ HX0.out)
      exact bodyPost_ret (v := .tuple #[.agg #[.int .i64 1, .bool d], .bool false]) (by simp [results, Tryd.results89, Act.put, asAddr, hld]) rfl ⟨rfl, (HBB0.out).grown (grown_rowT _ _ _) (HBB0.out).size (fun z hz => by cases hz; omega)⟩
    · skip
      simp only [Bool.false_and, Bool.true_and, Bool.false_or, Bool.true_or]
      go_enter Tryd.func89, Tryd.ntmps89
      go_wp2_with fail
      refine (CX2.out _).mono ?_
      rintro e v0 ⟨rfl, hb0⟩
      have HL0 := Lib.hid (hb0.mono (by rw [HSZ.out]; exact Nat.le_refl _))
      obtain ⟨⟨c00, c01, c02, c03⟩, hx0, hB0⟩ := KEEP.out v0 HL0.out
      have HX0 := Lib.hid hx0
      have HBB0 := Lib.hid hB0
      clear hb0 hx0 hB0
      go_wp2_with (with_reducible refine wpList_store_row (o := Oper.mk none (Op.store 97 (.tmp 6) (.tmp 66)) _ _ _ none) rfl 97 (.tmp 6) (.tmp 66) rfl (w.heap.size + 2) #[.int .i64 1, .bool true] ?h29qx ?h29qy 97 _ HX0.out ?h29qi ?h29qo ?h29q1 ?h29qk)
      case h29qx => rfl
      case h29qy => rfl
      case h29qi => kernel_rfl
      case h29qo => rfl
      case h29q1 => simp [Value.oneCell']
      go_wp2_with fail
      have hld := box_kt (setRow_heap _ _ _ #[.int .i64 1, .bool true] _ _ HX0.out)
      exact bodyPost_ret (v := .tuple #[.agg #[.int .i64 1, .bool true], .bool false]) (by simp [results, Tryd.results89, Act.put, asAddr, hld]) rfl ⟨rfl, (HBB0.out).grown (grown_rowT _ _ _) (HBB0.out).size (fun z hz => by cases hz; omega)⟩
    · skip
      simp only [Bool.false_and, Bool.true_and, Bool.false_or, Bool.true_or]
      go_enter Tryd.func89, Tryd.ntmps89
      go_wp2_with fail
      refine (CX2.out _).mono ?_
      rintro e v0 ⟨rfl, hb0⟩
      have HL0 := Lib.hid (hb0.mono (by rw [HSZ.out]; exact Nat.le_refl _))
      obtain ⟨⟨c00, c01, c02, c03⟩, hx0, hB0⟩ := KEEP.out v0 HL0.out
      have HX0 := Lib.hid hx0
      have HBB0 := Lib.hid hB0
      clear hb0 hx0 hB0
      go_wp2_with fail
      refine (CY2.out _).mono ?_
      rintro e v1 ⟨rfl, hb1⟩
      have HL1 := Lib.hid (HL0.out.trans (hb1.mono (by have := HL0.out.size; rw [HSZ.out] at this; omega)))
      obtain ⟨⟨c10, c11, c12, c13⟩, hx1, hB1⟩ := KEEP.out v1 HL1.out
      have HX1 := Lib.hid hx1
      have HBB1 := Lib.hid hB1
      clear hb1 hx1 hB1
      go_wp2_with (with_reducible refine wpList_store_row (o := Oper.mk none (Op.store 97 (.tmp 6) (.tmp 66)) _ _ _ none) rfl 97 (.tmp 6) (.tmp 66) rfl (w.heap.size + 2) #[.int .i64 1, .bool d] ?h30qx ?h30qy 97 _ HX1.out ?h30qi ?h30qo ?h30q1 ?h30qk)
      case h30qx => rfl
      case h30qy => rfl
      case h30qi => kernel_rfl
      case h30qo => rfl
      case h30q1 => simp [Value.oneCell']
      go_wp2_with fail
      have hld := box_kt (setRow_heap _ _ _ #[.int .i64 1, .bool d] _ _ HX1.out)
      exact bodyPost_ret (v := .tuple #[.agg #[.int .i64 1, .bool d], .bool q2]) (by simp [results, Tryd.results89, Act.put, asAddr, hld]) rfl ⟨rfl, (HBB1.out).grown (grown_rowT _ _ _) (HBB1.out).size (fun z hz => by cases hz; omega)⟩
    · skip
      simp only [Bool.false_and, Bool.true_and, Bool.false_or, Bool.true_or]
      go_enter Tryd.func89, Tryd.ntmps89
      go_wp2_with fail
      refine (CX2.out _).mono ?_
      rintro e v0 ⟨rfl, hb0⟩
      have HL0 := Lib.hid (hb0.mono (by rw [HSZ.out]; exact Nat.le_refl _))
      obtain ⟨⟨c00, c01, c02, c03⟩, hx0, hB0⟩ := KEEP.out v0 HL0.out
      have HX0 := Lib.hid hx0
      have HBB0 := Lib.hid hB0
      clear hb0 hx0 hB0
      go_wp2_with fail
      refine (CY2.out _).mono ?_
      rintro e v1 ⟨rfl, hb1⟩
      have HL1 := Lib.hid (HL0.out.trans (hb1.mono (by have := HL0.out.size; rw [HSZ.out] at this; omega)))
      obtain ⟨⟨c10, c11, c12, c13⟩, hx1, hB1⟩ := KEEP.out v1 HL1.out
      have HX1 := Lib.hid hx1
      have HBB1 := Lib.hid hB1
      clear hb1 hx1 hB1
      go_wp2_with (with_reducible refine wpList_store_row (o := Oper.mk none (Op.store 97 (.tmp 6) (.tmp 66)) _ _ _ none) rfl 97 (.tmp 6) (.tmp 66) rfl (w.heap.size + 2) #[.int .i64 1, .bool true] ?h31qx ?h31qy 97 _ HX1.out ?h31qi ?h31qo ?h31q1 ?h31qk)
      case h31qx => rfl
      case h31qy => rfl
      case h31qi => kernel_rfl
      case h31qo => rfl
      case h31q1 => simp [Value.oneCell']
      go_wp2_with fail
      have hld := box_kt (setRow_heap _ _ _ #[.int .i64 1, .bool true] _ _ HX1.out)
      exact bodyPost_ret (v := .tuple #[.agg #[.int .i64 1, .bool true], .bool q2]) (by simp [results, Tryd.results89, Act.put, asAddr, hld]) rfl ⟨rfl, (HBB1.out).grown (grown_rowT _ _ _) (HBB1.out).size (fun z hz => by cases hz; omega)⟩
  rw [if_neg h14]
  have b14 : (op == 14) = false := by simpa using fun h => h14 (.inl h)
  have b15 : (op == 15) = false := by simpa using fun h => h14 (.inr h)
  generalize comT (a, b) (c, d) = D at *
  obtain ⟨ck, cok⟩ := D
  simp only at CC
  clear CX CY CD h4 h5 h678 h9 h14
  by_cases h18 : op = 18
  · subst h18
    rw [if_pos rfl]
    cases b
    · skip
      simp only [Bool.false_and, Bool.true_and]
      go_enter Tryd.func89, Tryd.ntmps89
      go_wp2_with fail
      refine (CC.out _).mono ?_
      rintro e v0 ⟨rfl, hb0⟩
      have HL0 := Lib.hid (hb0.mono (by rw [HSZ.out]; exact Nat.le_refl _))
      obtain ⟨⟨c00, c01, c02, c03⟩, hx0, hB0⟩ := KEEP.out v0 HL0.out
      have HX0 := Lib.hid hx0
      have HBB0 := Lib.hid hB0
      clear hb0 hx0 hB0
      go_wp2_with (with_reducible refine wpList_store_row (o := Oper.mk none (Op.store 97 (.tmp 6) (.tmp 88)) _ _ _ none) rfl 97 (.tmp 6) (.tmp 88) rfl (w.heap.size + 2) #[.int .i64 ck, .bool false] ?h32qx ?h32qy 97 _ HX0.out ?h32qi ?h32qo ?h32q1 ?h32qk)
      case h32qx => rfl
      case h32qy => rfl
      case h32qi => kernel_rfl
      case h32qo => rfl
      case h32q1 => simp [Value.oneCell']
      go_wp2_with fail
      have hld := box_kt (setRow_heap _ _ _ #[.int .i64 ck, .bool false] _ _ HX0.out)
      exact bodyPost_ret (v := .tuple #[.agg #[.int .i64 ck, .bool false], .bool cok]) (by simp [results, Tryd.results89, Act.put, asAddr, hld]) rfl ⟨rfl, (HBB0.out).grown (grown_rowT _ _ _) (HBB0.out).size (fun z hz => by cases hz; omega)⟩
    · skip
      simp only [Bool.false_and, Bool.true_and]
      go_enter Tryd.func89, Tryd.ntmps89
      go_wp2_with fail
      refine (CC.out _).mono ?_
      rintro e v0 ⟨rfl, hb0⟩
      have HL0 := Lib.hid (hb0.mono (by rw [HSZ.out]; exact Nat.le_refl _))
      obtain ⟨⟨c00, c01, c02, c03⟩, hx0, hB0⟩ := KEEP.out v0 HL0.out
      have HX0 := Lib.hid hx0
      have HBB0 := Lib.hid hB0
      clear hb0 hx0 hB0
      go_wp2_with (with_reducible refine wpList_store_row (o := Oper.mk none (Op.store 97 (.tmp 6) (.tmp 88)) _ _ _ none) rfl 97 (.tmp 6) (.tmp 88) rfl (w.heap.size + 2) #[.int .i64 ck, .bool d] ?h33qx ?h33qy 97 _ HX0.out ?h33qi ?h33qo ?h33q1 ?h33qk)
      case h33qx => rfl
      case h33qy => rfl
      case h33qi => kernel_rfl
      case h33qo => rfl
      case h33q1 => simp [Value.oneCell']
      go_wp2_with fail
      have hld := box_kt (setRow_heap _ _ _ #[.int .i64 ck, .bool d] _ _ HX0.out)
      exact bodyPost_ret (v := .tuple #[.agg #[.int .i64 ck, .bool d], .bool cok]) (by simp [results, Tryd.results89, Act.put, asAddr, hld]) rfl ⟨rfl, (HBB0.out).grown (grown_rowT _ _ _) (HBB0.out).size (fun z hz => by cases hz; omega)⟩
  rw [if_neg h18]
  have b18 : (op == 18) = false := by simpa using h18
  clear h18
  cases b
  · skip
    simp only [Bool.false_or, Bool.true_or]
    go_enter Tryd.func89, Tryd.ntmps89
    go_wp2_with fail
    refine (CC.out _).mono ?_
    rintro e v0 ⟨rfl, hb0⟩
    have HL0 := Lib.hid (hb0.mono (by rw [HSZ.out]; exact Nat.le_refl _))
    obtain ⟨⟨c00, c01, c02, c03⟩, hx0, hB0⟩ := KEEP.out v0 HL0.out
    have HX0 := Lib.hid hx0
    have HBB0 := Lib.hid hB0
    clear hb0 hx0 hB0
    go_wp2_with (with_reducible refine wpList_store_row (o := Oper.mk none (Op.store 97 (.tmp 6) (.tmp 97)) _ _ _ none) rfl 97 (.tmp 6) (.tmp 97) rfl (w.heap.size + 2) #[.int .i64 1, .bool d] ?h34qx ?h34qy 97 _ HX0.out ?h34qi ?h34qo ?h34q1 ?h34qk)
    case h34qx => rfl
    case h34qy => rfl
    case h34qi => kernel_rfl
    case h34qo => rfl
    case h34q1 => simp [Value.oneCell']
    go_wp2_with fail
    have hld := box_kt (setRow_heap _ _ _ #[.int .i64 1, .bool d] _ _ HX0.out)
    exact bodyPost_ret (v := .tuple #[.agg #[.int .i64 1, .bool d], .bool cok]) (by simp [results, Tryd.results89, Act.put, asAddr, hld]) rfl ⟨rfl, (HBB0.out).grown (grown_rowT _ _ _) (HBB0.out).size (fun z hz => by cases hz; omega)⟩
  · skip
    simp only [Bool.false_or, Bool.true_or]
    go_enter Tryd.func89, Tryd.ntmps89
    go_wp2_with fail
    refine (CC.out _).mono ?_
    rintro e v0 ⟨rfl, hb0⟩
    have HL0 := Lib.hid (hb0.mono (by rw [HSZ.out]; exact Nat.le_refl _))
    obtain ⟨⟨c00, c01, c02, c03⟩, hx0, hB0⟩ := KEEP.out v0 HL0.out
    have HX0 := Lib.hid hx0
    have HBB0 := Lib.hid hB0
    clear hb0 hx0 hB0
    go_wp2_with (with_reducible refine wpList_store_row (o := Oper.mk none (Op.store 97 (.tmp 6) (.tmp 97)) _ _ _ none) rfl 97 (.tmp 6) (.tmp 97) rfl (w.heap.size + 2) #[.int .i64 1, .bool true] ?h35qx ?h35qy 97 _ HX0.out ?h35qi ?h35qo ?h35q1 ?h35qk)
    case h35qx => rfl
    case h35qy => rfl
    case h35qi => kernel_rfl
    case h35qo => rfl
    case h35q1 => simp [Value.oneCell']
    go_wp2_with fail
    have hld := box_kt (setRow_heap _ _ _ #[.int .i64 1, .bool true] _ _ HX0.out)
    exact bodyPost_ret (v := .tuple #[.agg #[.int .i64 1, .bool true], .bool cok]) (by simp [results, Tryd.results89, Act.put, asAddr, hld]) rfl ⟨rfl, (HBB0.out).grown (grown_rowT _ _ _) (HBB0.out).size (fun z hz => by cases hz; omega)⟩
end Go.Proofs.YtmdpjahhhfajaaaDoor
