/-
  The reference's types: unary, difference, binary.
-/
import Derived.Test.YtmdpjahhhfajaaaDoorJA16
set_option linter.unusedVariables false
set_option linter.unusedSimpArgs false
set_option maxRecDepth 100000
namespace Go.Proofs.YtmdpjahhhfajaaaDoor
open Go.RowKit Wh
theorem grown_rowT (w : World) (g : Nat) (cs : Array Value) : w.grownBy (w.setRow g cs) (some g) := ⟨rfl, rfl, rfl, by simp, fun k hk hne => setRow_other w g k cs (fun h => hne (by rw [h]))⟩
theorem keepUn {w W0 w1 w2 : World} {a : Int} {b : Bool} (h0 : w.heap.size + 1 < w1.heap.size) (h : w1.cell? ⟨w.heap.size, 0, none⟩ = some (.int .i64 a) ∧ w1.cell? ⟨w.heap.size, 1, none⟩ = some (.bool b) ∧ Below (w.heap.size + 1) W0 w1) (hb : Below w1.heap.size w1 w2) : w2.cell? ⟨w.heap.size, 0, none⟩ = some (.int .i64 a) ∧ w2.cell? ⟨w.heap.size, 1, none⟩ = some (.bool b) ∧ Below (w.heap.size + 1) W0 w2 := by
  obtain ⟨a0, a1, hB⟩ := h
  have e : ∀ B o, B < w1.heap.size → w2.cell? ⟨B, o, none⟩ = w1.cell? ⟨B, o, none⟩ := fun B o h => hb.cell (p := ⟨B, o, none⟩) h
  exact ⟨(e _ _ (by omega)).trans a0, (e _ _ (by omega)).trans a1, hB.trans (hb.mono (by omega))⟩
theorem keepUnSt {w W0 w1 : World} {a : Int} {b : Bool} {u0 u1 : Value} (h : w1.cell? ⟨w.heap.size, 0, none⟩ = some (.int .i64 a) ∧ w1.cell? ⟨w.heap.size, 1, none⟩ = some (.bool b) ∧ Below (w.heap.size + 1) W0 w1) : ((w1.setCell ⟨w.heap.size + 1, 0, none⟩ u0).setCell ⟨w.heap.size + 1, 1, none⟩ u1).cell? ⟨w.heap.size, 0, none⟩ = some (.int .i64 a) ∧ ((w1.setCell ⟨w.heap.size + 1, 0, none⟩ u0).setCell ⟨w.heap.size + 1, 1, none⟩ u1).cell? ⟨w.heap.size, 1, none⟩ = some (.bool b) ∧ Below (w.heap.size + 1) W0 ((w1.setCell ⟨w.heap.size + 1, 0, none⟩ u0).setCell ⟨w.heap.size + 1, 1, none⟩ u1) := by
  obtain ⟨a0, a1, hB⟩ := h
  have hb : Below (w.heap.size + 1) w1 ((w1.setCell ⟨w.heap.size + 1, 0, none⟩ u0).setCell ⟨w.heap.size + 1, 1, none⟩ u1) := ((Below.refl (w.heap.size + 1) w1).setCell (p := ⟨w.heap.size + 1, 0, none⟩) (Nat.le_refl _) u0).setCell (p := ⟨w.heap.size + 1, 1, none⟩) (Nat.le_refl _) u1
  have e : ∀ o, ((w1.setCell ⟨w.heap.size + 1, 0, none⟩ u0).setCell ⟨w.heap.size + 1, 1, none⟩ u1).cell? ⟨w.heap.size, o, none⟩ = w1.cell? ⟨w.heap.size, o, none⟩ := fun o => hb.cell (p := ⟨w.heap.size, o, none⟩) (by show w.heap.size < _; omega)
  exact ⟨(e _).trans a0, (e _).trans a1, hB.trans hb⟩
set_option maxHeartbeats 8000000 in
theorem unary_any (op : Int) (x : KT) (w : World) : Calls Tryd.prog 88 #[.int .i64 op, ktV x] w fun e w' => e = .returned (.tuple #[ktV (unaT op x).1, .bool (unaT op x).2]) ∧ Below w.heap.size w w' := by
  have CF := Lib.hid (fun k W => fits_any x k W)
  obtain ⟨a, b⟩ := x
  unfold unaT
  simp only
  have k0 : ((w.alloc (.cells #[.int .i64 a, .bool b] 97)).alloc (.cells #[.int .i64 0, .bool false] 97)).heap[w.heap.size]? = some (.cells #[.int .i64 a, .bool b] 97 (0, 0)) := by
    rw [Below.heap_alloc _ _ _ (by simp)]
    exact heap_alloc_new w _
  have k1 := heap_alloc_new (w.alloc (.cells #[.int .i64 a, .bool b] 97)) (.cells #[.int .i64 0, .bool false] 97)
  simp only [World.size_alloc] at k1
  have hb0 : Below w.heap.size w ((w.alloc (.cells #[.int .i64 a, .bool b] 97)).alloc (.cells #[.int .i64 0, .bool false] 97)) := ((Below.refl _ _).alloc (Nat.le_refl _) _).alloc (by simp) _
  have HSZ := Lib.hid (show ((w.alloc (.cells #[.int .i64 a, .bool b] 97)).alloc (.cells #[.int .i64 0, .bool false] 97)).heap.size = w.heap.size + 2 by simp)
  have HS := Lib.hid (show ((w.alloc (.cells #[.int .i64 a, .bool b] 97)).alloc (.cells #[.int .i64 0, .bool false] 97)).drew.cell? ⟨w.heap.size, 0, none⟩ = some (.int .i64 a) ∧ ((w.alloc (.cells #[.int .i64 a, .bool b] 97)).alloc (.cells #[.int .i64 0, .bool false] 97)).drew.cell? ⟨w.heap.size, 1, none⟩ = some (.bool b) ∧ Below (w.heap.size + 1) ((w.alloc (.cells #[.int .i64 a, .bool b] 97)).alloc (.cells #[.int .i64 0, .bool false] 97)) ((w.alloc (.cells #[.int .i64 a, .bool b] 97)).alloc (.cells #[.int .i64 0, .bool false] 97)).drew from ⟨(cell_of_row _ _ 0 _ _ _ k0).trans rfl, (cell_of_row _ _ 1 _ _ _ k0).trans rfl, (Below.refl _ _).drew⟩)
  have HZB := Lib.hid (show Box2 ((w.alloc (.cells #[.int .i64 a, .bool b] 97)).alloc (.cells #[.int .i64 0, .bool false] 97)).drew (w.heap.size + 1) (.int .i64 0) (.bool false) 97 from ⟨k1⟩)
  have HK1 := Lib.hid k1
  have HB0 := Lib.hid hb0
  clear k0 k1 hb0
  by_cases h2 : op = 2
  · subst h2
    rw [if_pos rfl]
    have CF1 := Lib.hid (CF.out 1)
    generalize fitB (a, b) 1 = q at *
    clear CF HK1
    go_enter Tryd.func88, Tryd.ntmps88
    go_wp2_with fail
    generalize ((w.alloc (.cells #[.int .i64 a, .bool b] 97)).alloc (.cells #[.int .i64 0, .bool false] 97)) = W0 at *
    have hS0 := HS.out
    have hsz : w.heap.size + 1 < W0.drew.heap.size := by show _ < W0.heap.size; rw [HSZ.out]; omega
    have hzb := HZB.out
    have z0 := hzb.c0
    have z1 := hzb.c1
    have zf := hzb.free
    clear HS HZB
    go_region_held3 (fun w' => w'.cell? ⟨w.heap.size, 0, none⟩ = some (.int .i64 a) ∧ w'.cell? ⟨w.heap.size, 1, none⟩ = some (.bool b) ∧ Below (w.heap.size + 1) W0 w')
      (first | with_reducible exact hS0 | exact keepUn (by assumption) (by assumption) hcall | exact keepUnSt (by assumption))
      (first | (go_at_call 86; refine (CF1.out _).mono ?_; rintro e w' ⟨rfl, hcall⟩; have hsz := Nat.lt_of_lt_of_le hsz hcall.size; have hzb := Box2.keep hzb hcall hzb.lt; have z0 := hzb.c0; have z1 := hzb.c1; have zf := hzb.free))
    all_goals
      obtain ⟨_, _, hB⟩ := ‹_ ∧ _ ∧ Below _ _ _›
      have HF := Lib.hid (HB0.out.trans (hB.mono (by omega)))
      have hld := box_kt (Box2.store (x' := .int .i64 1) (y' := .bool b) hzb).block
      clear hB
      go_wp2_with fail
      exact bodyPost_ret (v := .tuple #[.agg #[.int .i64 1, .bool b], .bool q]) (by simp [results, Tryd.results88, Act.put, asAddr, hld]) rfl ⟨rfl, HF.out⟩
  rw [if_neg h2]
  have b2 : (op == 2) = false := by simpa using h2
  by_cases h3 : op = 3
  · subst h3
    rw [if_pos rfl]
    have CF1 := Lib.hid (CF.out 2)
    generalize fitB (a, b) 2 = q at *
    clear CF HK1
    go_enter Tryd.func88, Tryd.ntmps88
    go_wp2_with fail
    generalize ((w.alloc (.cells #[.int .i64 a, .bool b] 97)).alloc (.cells #[.int .i64 0, .bool false] 97)) = W0 at *
    have hS0 := HS.out
    have hsz : w.heap.size + 1 < W0.drew.heap.size := by show _ < W0.heap.size; rw [HSZ.out]; omega
    have hzb := HZB.out
    have z0 := hzb.c0
    have z1 := hzb.c1
    have zf := hzb.free
    clear HS HZB
    go_region_held3 (fun w' => w'.cell? ⟨w.heap.size, 0, none⟩ = some (.int .i64 a) ∧ w'.cell? ⟨w.heap.size, 1, none⟩ = some (.bool b) ∧ Below (w.heap.size + 1) W0 w')
      (first | with_reducible exact hS0 | exact keepUn (by assumption) (by assumption) hcall | exact keepUnSt (by assumption))
      (first | (go_at_call 86; refine (CF1.out _).mono ?_; rintro e w' ⟨rfl, hcall⟩; have hsz := Nat.lt_of_lt_of_le hsz hcall.size; have hzb := Box2.keep hzb hcall hzb.lt; have z0 := hzb.c0; have z1 := hzb.c1; have zf := hzb.free))
    all_goals
      obtain ⟨_, _, hB⟩ := ‹_ ∧ _ ∧ Below _ _ _›
      have HF := Lib.hid (HB0.out.trans (hB.mono (by omega)))
      have hld := box_kt (Box2.store (x' := .int .i64 2) (y' := .bool b) hzb).block
      clear hB
      go_wp2_with fail
      exact bodyPost_ret (v := .tuple #[.agg #[.int .i64 2, .bool b], .bool q]) (by simp [results, Tryd.results88, Act.put, asAddr, hld]) rfl ⟨rfl, HF.out⟩
  rw [if_neg h3]
  have b3 : (op == 3) = false := by simpa using h3
  by_cases h16 : op = 16
  · subst h16
    rw [if_pos rfl]
    clear CF HS HZB
    go_enter Tryd.func88, Tryd.ntmps88
    go_wp2_with (with_reducible refine wpList_store_row (o := Oper.mk none (Op.store 97 (.tmp 4) (.tmp 23)) _ _ _ none) rfl 97 (.tmp 4) (.tmp 23) rfl (w.heap.size + 1) #[.int .i64 1, .bool false] ?gx ?gy 97 _ HK1.out ?gi ?go ?g1 ?gk)
    case gx => rfl
    case gy => rfl
    case gi => kernel_rfl
    case go => rfl
    case g1 => simp [Value.oneCell']
    go_wp2_with fail
    have hld := box_kt (w := ((w.alloc (.cells #[.int .i64 a, .bool b] 97)).alloc (.cells #[.int .i64 0, .bool false] 97)).setRow (w.heap.size + 1) #[.int .i64 1, .bool false]) (setRow_heap _ _ _ _ _ _ HK1.out)
    exact bodyPost_ret (v := .tuple #[.agg #[.int .i64 1, .bool false], .bool true]) (by simp [results, Tryd.results88, Act.put, asAddr, hld]) rfl ⟨rfl, HB0.out.grown (grown_rowT _ _ _) HB0.out.size (fun z hz => by cases hz; omega)⟩
  rw [if_neg h16]
  have b16 : (op == 16) = false := by simpa using h16
  by_cases h19 : op = 19
  · subst h19
    rw [if_pos rfl]
    have CF1 := Lib.hid (CF.out 3)
    generalize fitB (a, b) 3 = q at *
    clear CF HK1
    go_enter Tryd.func88, Tryd.ntmps88
    go_wp2_with fail
    generalize ((w.alloc (.cells #[.int .i64 a, .bool b] 97)).alloc (.cells #[.int .i64 0, .bool false] 97)) = W0 at *
    have hS0 := HS.out
    have hsz : w.heap.size + 1 < W0.drew.heap.size := by show _ < W0.heap.size; rw [HSZ.out]; omega
    have hzb := HZB.out
    have z0 := hzb.c0
    have z1 := hzb.c1
    have zf := hzb.free
    clear HS HZB
    go_region_held3 (fun w' => w'.cell? ⟨w.heap.size, 0, none⟩ = some (.int .i64 a) ∧ w'.cell? ⟨w.heap.size, 1, none⟩ = some (.bool b) ∧ Below (w.heap.size + 1) W0 w')
      (first | with_reducible exact hS0 | exact keepUn (by assumption) (by assumption) hcall | exact keepUnSt (by assumption))
      (first | (go_at_call 86; refine (CF1.out _).mono ?_; rintro e w' ⟨rfl, hcall⟩; have hsz := Nat.lt_of_lt_of_le hsz hcall.size; have hzb := Box2.keep hzb hcall hzb.lt; have z0 := hzb.c0; have z1 := hzb.c1; have zf := hzb.free))
    all_goals
      obtain ⟨_, _, hB⟩ := ‹_ ∧ _ ∧ Below _ _ _›
      have HF := Lib.hid (HB0.out.trans (hB.mono (by omega)))
      have hld := box_kt (Box2.store (x' := .int .i64 2) (y' := .bool b) hzb).block
      clear hB
      go_wp2_with fail
      exact bodyPost_ret (v := .tuple #[.agg #[.int .i64 2, .bool b], .bool q]) (by simp [results, Tryd.results88, Act.put, asAddr, hld]) rfl ⟨rfl, HF.out⟩
  rw [if_neg h19]
  have b19 : (op == 19) = false := by simpa using h19
  · clear h2 h3 h16 h19
    have CF1 := Lib.hid (CF.out 4)
    generalize fitB (a, b) 4 = q at *
    clear CF HK1
    go_enter Tryd.func88, Tryd.ntmps88
    go_wp2_with fail
    generalize ((w.alloc (.cells #[.int .i64 a, .bool b] 97)).alloc (.cells #[.int .i64 0, .bool false] 97)) = W0 at *
    have hS0 := HS.out
    have hsz : w.heap.size + 1 < W0.drew.heap.size := by show _ < W0.heap.size; rw [HSZ.out]; omega
    have hzb := HZB.out
    have z0 := hzb.c0
    have z1 := hzb.c1
    have zf := hzb.free
    clear HS HZB
    go_region_held3 (fun w' => w'.cell? ⟨w.heap.size, 0, none⟩ = some (.int .i64 a) ∧ w'.cell? ⟨w.heap.size, 1, none⟩ = some (.bool b) ∧ Below (w.heap.size + 1) W0 w')
      (first | with_reducible exact hS0 | exact keepUn (by assumption) (by assumption) hcall | exact keepUnSt (by assumption))
      (first | (go_at_call 86; refine (CF1.out _).mono ?_; rintro e w' ⟨rfl, hcall⟩; have hsz := Nat.lt_of_lt_of_le hsz hcall.size; have hzb := Box2.keep hzb hcall hzb.lt; have z0 := hzb.c0; have z1 := hzb.c1; have zf := hzb.free))
    all_goals
      obtain ⟨_, _, hB⟩ := ‹_ ∧ _ ∧ Below _ _ _›
      have HF := Lib.hid (HB0.out.trans (hB.mono (by omega)))
      have hld := box_kt (Box2.store (x' := .int .i64 2) (y' := .bool b) hzb).block
      clear hB
      go_wp2_with fail
      exact bodyPost_ret (v := .tuple #[.agg #[.int .i64 2, .bool b], .bool q]) (by simp [results, Tryd.results88, Act.put, asAddr, hld]) rfl ⟨rfl, HF.out⟩
set_option maxHeartbeats 16000000 in
theorem difference_any (x y : KT) (w : World) : Calls Tryd.prog 92 #[ktV x, ktV y] w fun e w' => e = .returned (.tuple #[ktV (difT x y).1, .bool (difT x y).2]) ∧ Below w.heap.size w w' := by
  have CX := Lib.hid (fun k W => fits_any x k W)
  have CY := Lib.hid (fun k W => fits_any y k W)
  obtain ⟨a, b⟩ := x
  obtain ⟨c, d⟩ := y
  have k0 : (((w.alloc (.cells #[.int .i64 a, .bool b] 97)).alloc (.cells #[.int .i64 c, .bool d] 97)).alloc (.cells #[.int .i64 0, .bool false] 97)).heap[w.heap.size]? = some (.cells #[.int .i64 a, .bool b] 97 (0, 0)) := by
    rw [Below.heap_alloc _ _ _ (by simp; omega), Below.heap_alloc _ _ _ (by simp)]
    exact heap_alloc_new w _
  have k1 : (((w.alloc (.cells #[.int .i64 a, .bool b] 97)).alloc (.cells #[.int .i64 c, .bool d] 97)).alloc (.cells #[.int .i64 0, .bool false] 97)).heap[w.heap.size + 1]? = some (.cells #[.int .i64 c, .bool d] 97 (0, 0)) := by
    have h := heap_alloc_new (w.alloc (.cells #[.int .i64 a, .bool b] 97)) (.cells #[.int .i64 c, .bool d] 97)
    simp only [World.size_alloc] at h
    rw [Below.heap_alloc _ _ _ (by simp)]
    exact h
  have k2 := heap_alloc_new ((w.alloc (.cells #[.int .i64 a, .bool b] 97)).alloc (.cells #[.int .i64 c, .bool d] 97)) (.cells #[.int .i64 0, .bool false] 97)
  simp only [World.size_alloc] at k2
  have hb0 : Below w.heap.size w (((w.alloc (.cells #[.int .i64 a, .bool b] 97)).alloc (.cells #[.int .i64 c, .bool d] 97)).alloc (.cells #[.int .i64 0, .bool false] 97)) := (((Below.refl _ _).alloc (Nat.le_refl _) _).alloc (by simp) _).alloc (by simp; omega) _
  have HSZ := Lib.hid (show (((w.alloc (.cells #[.int .i64 a, .bool b] 97)).alloc (.cells #[.int .i64 c, .bool d] 97)).alloc (.cells #[.int .i64 0, .bool false] 97)).heap.size = w.heap.size + 3 by simp)
  have KEEP : Hid (∀ W, Below (w.heap.size + 3) (((w.alloc (.cells #[.int .i64 a, .bool b] 97)).alloc (.cells #[.int .i64 c, .bool d] 97)).alloc (.cells #[.int .i64 0, .bool false] 97)) W → (W.cell? ⟨w.heap.size, 0, none⟩ = some (.int .i64 a) ∧ W.cell? ⟨w.heap.size, 1, none⟩ = some (.bool b) ∧ W.cell? ⟨w.heap.size + 1, 0, none⟩ = some (.int .i64 c) ∧ W.cell? ⟨w.heap.size + 1, 1, none⟩ = some (.bool d)) ∧ W.heap[w.heap.size + 2]? = some (.cells #[.int .i64 0, .bool false] 97 (0, 0)) ∧ Below w.heap.size w W) := fun W hb => by
    have h0 : W.heap[w.heap.size]? = some (.cells #[.int .i64 a, .bool b] 97 (0, 0)) := by rw [hb.block _ (by omega)]; exact k0
    have h1 : W.heap[w.heap.size + 1]? = some (.cells #[.int .i64 c, .bool d] 97 (0, 0)) := by rw [hb.block _ (by omega)]; exact k1
    exact ⟨⟨(cell_of_row _ _ 0 _ _ _ h0).trans rfl, (cell_of_row _ _ 1 _ _ _ h0).trans rfl, (cell_of_row _ _ 0 _ _ _ h1).trans rfl, (cell_of_row _ _ 1 _ _ _ h1).trans rfl⟩, by rw [hb.block _ (by omega)]; exact k2, hb0.trans (hb.mono (by omega))⟩
  have HK2 := Lib.hid k2
  have HB0 := Lib.hid hb0
  clear k0 k1 k2 hb0
  unfold difT
  simp only
  by_cases h1 : (a = 4 ∧ c = 4) ∨ (a = 0 ∧ c = 4)
  · rw [if_pos h1]
    obtain ⟨h14, rfl⟩ : (a = 4 ∨ a = 0) ∧ c = 4 := by omega
    clear h1
    rcases h14 with rfl | rfl
    all_goals cases b
    · clear CX CY KEEP
      simp only [Bool.false_or, Bool.true_or]
      go_enter Tryd.func92, Tryd.ntmps92
      go_wp2_with (with_reducible refine wpList_store_row (o := Oper.mk none (Op.store 97 (.tmp 4) (.tmp 32)) _ _ _ none) rfl 97 (.tmp 4) (.tmp 32) rfl (w.heap.size + 2) #[.int .i64 2, .bool d] ?h0qx ?h0qy 97 _ HK2.out ?h0qi ?h0qo ?h0q1 ?h0qk)
      case h0qx => rfl
      case h0qy => rfl
      case h0qi => kernel_rfl
      case h0qo => rfl
      case h0q1 => simp [Value.oneCell']
      go_wp2_with fail
      have hld := box_kt (setRow_heap _ _ _ #[.int .i64 2, .bool d] _ _ HK2.out)
      exact bodyPost_ret (v := .tuple #[.agg #[.int .i64 2, .bool d], .bool true]) (by simp [results, Tryd.results92, Act.put, asAddr, hld]) rfl ⟨rfl, (HB0.out).grown (grown_rowT _ _ _) (HB0.out).size (fun z hz => by cases hz; omega)⟩
    · clear CX CY KEEP
      simp only [Bool.false_or, Bool.true_or]
      go_enter Tryd.func92, Tryd.ntmps92
      go_wp2_with (with_reducible refine wpList_store_row (o := Oper.mk none (Op.store 97 (.tmp 4) (.tmp 32)) _ _ _ none) rfl 97 (.tmp 4) (.tmp 32) rfl (w.heap.size + 2) #[.int .i64 2, .bool true] ?h1qx ?h1qy 97 _ HK2.out ?h1qi ?h1qo ?h1q1 ?h1qk)
      case h1qx => rfl
      case h1qy => rfl
      case h1qi => kernel_rfl
      case h1qo => rfl
      case h1q1 => simp [Value.oneCell']
      go_wp2_with fail
      have hld := box_kt (setRow_heap _ _ _ #[.int .i64 2, .bool true] _ _ HK2.out)
      exact bodyPost_ret (v := .tuple #[.agg #[.int .i64 2, .bool true], .bool true]) (by simp [results, Tryd.results92, Act.put, asAddr, hld]) rfl ⟨rfl, (HB0.out).grown (grown_rowT _ _ _) (HB0.out).size (fun z hz => by cases hz; omega)⟩
    · clear CX CY KEEP
      simp only [Bool.false_or, Bool.true_or]
      go_enter Tryd.func92, Tryd.ntmps92
      go_wp2_with (with_reducible refine wpList_store_row (o := Oper.mk none (Op.store 97 (.tmp 4) (.tmp 32)) _ _ _ none) rfl 97 (.tmp 4) (.tmp 32) rfl (w.heap.size + 2) #[.int .i64 2, .bool d] ?h2qx ?h2qy 97 _ HK2.out ?h2qi ?h2qo ?h2q1 ?h2qk)
      case h2qx => rfl
      case h2qy => rfl
      case h2qi => kernel_rfl
      case h2qo => rfl
      case h2q1 => simp [Value.oneCell']
      go_wp2_with fail
      have hld := box_kt (setRow_heap _ _ _ #[.int .i64 2, .bool d] _ _ HK2.out)
      exact bodyPost_ret (v := .tuple #[.agg #[.int .i64 2, .bool d], .bool true]) (by simp [results, Tryd.results92, Act.put, asAddr, hld]) rfl ⟨rfl, (HB0.out).grown (grown_rowT _ _ _) (HB0.out).size (fun z hz => by cases hz; omega)⟩
    · clear CX CY KEEP
      simp only [Bool.false_or, Bool.true_or]
      go_enter Tryd.func92, Tryd.ntmps92
      go_wp2_with (with_reducible refine wpList_store_row (o := Oper.mk none (Op.store 97 (.tmp 4) (.tmp 32)) _ _ _ none) rfl 97 (.tmp 4) (.tmp 32) rfl (w.heap.size + 2) #[.int .i64 2, .bool true] ?h3qx ?h3qy 97 _ HK2.out ?h3qi ?h3qo ?h3q1 ?h3qk)
      case h3qx => rfl
      case h3qy => rfl
      case h3qi => kernel_rfl
      case h3qo => rfl
      case h3q1 => simp [Value.oneCell']
      go_wp2_with fail
      have hld := box_kt (setRow_heap _ _ _ #[.int .i64 2, .bool true] _ _ HK2.out)
      exact bodyPost_ret (v := .tuple #[.agg #[.int .i64 2, .bool true], .bool true]) (by simp [results, Tryd.results92, Act.put, asAddr, hld]) rfl ⟨rfl, (HB0.out).grown (grown_rowT _ _ _) (HB0.out).size (fun z hz => by cases hz; omega)⟩
  rw [if_neg h1]
  by_cases h2 : a = 4
  · subst h2
    rw [if_pos rfl]
    have hc : ¬ c = 4 := fun h => h1 (.inl ⟨rfl, h⟩)
    have hcb : (c == 4) = false := by simpa using hc
    have CY2 := Lib.hid (CY.out 2)
    generalize fitB (c, d) 2 = q at *
    clear h1 hc
    cases b
    · clear CX CY
      go_enter Tryd.func92, Tryd.ntmps92
      go_wp2_with fail
      refine (CY2.out _).mono ?_
      rintro e v0 ⟨rfl, hb0⟩
      have HL0 := Lib.hid (hb0.mono (by rw [HSZ.out]; exact Nat.le_refl _))
      obtain ⟨⟨c00, c01, c02, c03⟩, hx0, hB0⟩ := KEEP.out v0 HL0.out
      have HX0 := Lib.hid hx0
      have HBB0 := Lib.hid hB0
      clear hb0 hx0 hB0
      go_wp2_with (with_reducible refine wpList_store_row (o := Oper.mk none (Op.store 97 (.tmp 4) (.tmp 36)) _ _ _ none) rfl 97 (.tmp 4) (.tmp 36) rfl (w.heap.size + 2) #[.int .i64 4, .bool true] ?h4qx ?h4qy 97 _ HX0.out ?h4qi ?h4qo ?h4q1 ?h4qk)
      case h4qx => rfl
      case h4qy => rfl
      case h4qi => kernel_rfl
      case h4qo => rfl
      case h4q1 => simp [Value.oneCell']
      go_wp2_with fail
      have hld := box_kt (setRow_heap _ _ _ #[.int .i64 4, .bool true] _ _ HX0.out)
      exact bodyPost_ret (v := .tuple #[.agg #[.int .i64 4, .bool true], .bool q]) (by simp [results, Tryd.results92, Act.put, asAddr, hld]) rfl ⟨rfl, (HBB0.out).grown (grown_rowT _ _ _) (HBB0.out).size (fun z hz => by cases hz; omega)⟩
    · clear CX CY
      go_enter Tryd.func92, Tryd.ntmps92
      go_wp2_with fail
      refine (CY2.out _).mono ?_
      rintro e v0 ⟨rfl, hb0⟩
      have HL0 := Lib.hid (hb0.mono (by rw [HSZ.out]; exact Nat.le_refl _))
      obtain ⟨⟨c00, c01, c02, c03⟩, hx0, hB0⟩ := KEEP.out v0 HL0.out
      have HX0 := Lib.hid hx0
      have HBB0 := Lib.hid hB0
      clear hb0 hx0 hB0
      go_wp2_with (with_reducible refine wpList_store_row (o := Oper.mk none (Op.store 97 (.tmp 4) (.tmp 36)) _ _ _ none) rfl 97 (.tmp 4) (.tmp 36) rfl (w.heap.size + 2) #[.int .i64 4, .bool true] ?h5qx ?h5qy 97 _ HX0.out ?h5qi ?h5qo ?h5q1 ?h5qk)
      case h5qx => rfl
      case h5qy => rfl
      case h5qi => kernel_rfl
      case h5qo => rfl
      case h5q1 => simp [Value.oneCell']
      go_wp2_with fail
      have hld := box_kt (setRow_heap _ _ _ #[.int .i64 4, .bool true] _ _ HX0.out)
      exact bodyPost_ret (v := .tuple #[.agg #[.int .i64 4, .bool true], .bool q]) (by simp [results, Tryd.results92, Act.put, asAddr, hld]) rfl ⟨rfl, (HBB0.out).grown (grown_rowT _ _ _) (HBB0.out).size (fun z hz => by cases hz; omega)⟩
  rw [if_neg h2]
  have h2b : (a == 4) = false := by simpa using h2
  have hcc : ((a == 0) = true ∧ (c == 4) = false) ∨ (a == 0) = false := by
    by_cases h : a = 0
    · refine .inl ⟨by simpa using h, ?_⟩
      have : ¬ c = 4 := fun h' => h1 (.inr ⟨h, h'⟩)
      simpa using this
    · exact .inr (by simpa using h)
  have CX2 := Lib.hid (CX.out 2)
  have CY2 := Lib.hid (CY.out 2)
  generalize fitB (a, b) 2 = q1 at *
  generalize fitB (c, d) 2 = q2 at *
  clear h1 h2 CX CY
  rcases hcc with ⟨ha0, hc4⟩ | ha0
  all_goals cases q1
  all_goals cases b
  · simp only [Bool.false_and, Bool.true_and]
    go_enter Tryd.func92, Tryd.ntmps92
    go_wp2_with fail
    refine (CX2.out _).mono ?_
    rintro e v0 ⟨rfl, hb0⟩
    have HL0 := Lib.hid (hb0.mono (by rw [HSZ.out]; exact Nat.le_refl _))
    obtain ⟨⟨c00, c01, c02, c03⟩, hx0, hB0⟩ := KEEP.out v0 HL0.out
    have HX0 := Lib.hid hx0
    have HBB0 := Lib.hid hB0
    clear hb0 hx0 hB0
    go_wp2_with (with_reducible refine wpList_store_row (o := Oper.mk none (Op.store 97 (.tmp 4) (.tmp 39)) _ _ _ none) rfl 97 (.tmp 4) (.tmp 39) rfl (w.heap.size + 2) #[.int .i64 2, .bool true] ?h6qx ?h6qy 97 _ HX0.out ?h6qi ?h6qo ?h6q1 ?h6qk)
    case h6qx => rfl
    case h6qy => rfl
    case h6qi => kernel_rfl
    case h6qo => rfl
    case h6q1 => simp [Value.oneCell']
    go_wp2_with fail
    have hld := box_kt (setRow_heap _ _ _ #[.int .i64 2, .bool true] _ _ HX0.out)
    exact bodyPost_ret (v := .tuple #[.agg #[.int .i64 2, .bool true], .bool false]) (by simp [results, Tryd.results92, Act.put, asAddr, hld]) rfl ⟨rfl, (HBB0.out).grown (grown_rowT _ _ _) (HBB0.out).size (fun z hz => by cases hz; omega)⟩
  · simp only [Bool.false_and, Bool.true_and]
    go_enter Tryd.func92, Tryd.ntmps92
    go_wp2_with fail
    refine (CX2.out _).mono ?_
    rintro e v0 ⟨rfl, hb0⟩
    have HL0 := Lib.hid (hb0.mono (by rw [HSZ.out]; exact Nat.le_refl _))
    obtain ⟨⟨c00, c01, c02, c03⟩, hx0, hB0⟩ := KEEP.out v0 HL0.out
    have HX0 := Lib.hid hx0
    have HBB0 := Lib.hid hB0
    clear hb0 hx0 hB0
    go_wp2_with (with_reducible refine wpList_store_row (o := Oper.mk none (Op.store 97 (.tmp 4) (.tmp 39)) _ _ _ none) rfl 97 (.tmp 4) (.tmp 39) rfl (w.heap.size + 2) #[.int .i64 2, .bool true] ?h7qx ?h7qy 97 _ HX0.out ?h7qi ?h7qo ?h7q1 ?h7qk)
    case h7qx => rfl
    case h7qy => rfl
    case h7qi => kernel_rfl
    case h7qo => rfl
    case h7q1 => simp [Value.oneCell']
    go_wp2_with fail
    have hld := box_kt (setRow_heap _ _ _ #[.int .i64 2, .bool true] _ _ HX0.out)
    exact bodyPost_ret (v := .tuple #[.agg #[.int .i64 2, .bool true], .bool false]) (by simp [results, Tryd.results92, Act.put, asAddr, hld]) rfl ⟨rfl, (HBB0.out).grown (grown_rowT _ _ _) (HBB0.out).size (fun z hz => by cases hz; omega)⟩
  · simp only [Bool.false_and, Bool.true_and]
    go_enter Tryd.func92, Tryd.ntmps92
    go_wp2_with fail
    refine (CX2.out _).mono ?_
    rintro e v0 ⟨rfl, hb0⟩
    have HL0 := Lib.hid (hb0.mono (by rw [HSZ.out]; exact Nat.le_refl _))
    obtain ⟨⟨c00, c01, c02, c03⟩, hx0, hB0⟩ := KEEP.out v0 HL0.out
    have HX0 := Lib.hid hx0
    have HBB0 := Lib.hid hB0
    clear hb0 hx0 hB0
    go_wp2_with fail
    refine (CY2.out _).mono ?_
    rintro e v1 ⟨rfl, hb1⟩
    have HL1 := Lib.hid (HL0.out.trans (hb1.mono (by have := HL0.out.size; rw [HSZ.out] at this; omega)))
    obtain ⟨⟨c10, c11, c12, c13⟩, hx1, hB1⟩ := KEEP.out v1 HL1.out
    have HX1 := Lib.hid hx1
    have HBB1 := Lib.hid hB1
    clear hb1 hx1 hB1
    go_wp2_with (with_reducible refine wpList_store_row (o := Oper.mk none (Op.store 97 (.tmp 4) (.tmp 39)) _ _ _ none) rfl 97 (.tmp 4) (.tmp 39) rfl (w.heap.size + 2) #[.int .i64 2, .bool true] ?h8qx ?h8qy 97 _ HX1.out ?h8qi ?h8qo ?h8q1 ?h8qk)
    case h8qx => rfl
    case h8qy => rfl
    case h8qi => kernel_rfl
    case h8qo => rfl
    case h8q1 => simp [Value.oneCell']
    go_wp2_with fail
    have hld := box_kt (setRow_heap _ _ _ #[.int .i64 2, .bool true] _ _ HX1.out)
    exact bodyPost_ret (v := .tuple #[.agg #[.int .i64 2, .bool true], .bool q2]) (by simp [results, Tryd.results92, Act.put, asAddr, hld]) rfl ⟨rfl, (HBB1.out).grown (grown_rowT _ _ _) (HBB1.out).size (fun z hz => by cases hz; omega)⟩
  · simp only [Bool.false_and, Bool.true_and]
    go_enter Tryd.func92, Tryd.ntmps92
    go_wp2_with fail
    refine (CX2.out _).mono ?_
    rintro e v0 ⟨rfl, hb0⟩
    have HL0 := Lib.hid (hb0.mono (by rw [HSZ.out]; exact Nat.le_refl _))
    obtain ⟨⟨c00, c01, c02, c03⟩, hx0, hB0⟩ := KEEP.out v0 HL0.out
    have HX0 := Lib.hid hx0
    have HBB0 := Lib.hid hB0
    clear hb0 hx0 hB0
    go_wp2_with fail
    refine (CY2.out _).mono ?_
    rintro e v1 ⟨rfl, hb1⟩
    have HL1 := Lib.hid (HL0.out.trans (hb1.mono (by have := HL0.out.size; rw [HSZ.out] at this; omega)))
    obtain ⟨⟨c10, c11, c12, c13⟩, hx1, hB1⟩ := KEEP.out v1 HL1.out
    have HX1 := Lib.hid hx1
    have HBB1 := Lib.hid hB1
    clear hb1 hx1 hB1
    go_wp2_with (with_reducible refine wpList_store_row (o := Oper.mk none (Op.store 97 (.tmp 4) (.tmp 39)) _ _ _ none) rfl 97 (.tmp 4) (.tmp 39) rfl (w.heap.size + 2) #[.int .i64 2, .bool true] ?h9qx ?h9qy 97 _ HX1.out ?h9qi ?h9qo ?h9q1 ?h9qk)
    case h9qx => rfl
    case h9qy => rfl
    case h9qi => kernel_rfl
    case h9qo => rfl
    case h9q1 => simp [Value.oneCell']
    go_wp2_with fail
    have hld := box_kt (setRow_heap _ _ _ #[.int .i64 2, .bool true] _ _ HX1.out)
    exact bodyPost_ret (v := .tuple #[.agg #[.int .i64 2, .bool true], .bool q2]) (by simp [results, Tryd.results92, Act.put, asAddr, hld]) rfl ⟨rfl, (HBB1.out).grown (grown_rowT _ _ _) (HBB1.out).size (fun z hz => by cases hz; omega)⟩
  · simp only [Bool.false_and, Bool.true_and]
    go_enter Tryd.func92, Tryd.ntmps92
    go_wp2_with fail
    refine (CX2.out _).mono ?_
    rintro e v0 ⟨rfl, hb0⟩
    have HL0 := Lib.hid (hb0.mono (by rw [HSZ.out]; exact Nat.le_refl _))
    obtain ⟨⟨c00, c01, c02, c03⟩, hx0, hB0⟩ := KEEP.out v0 HL0.out
    have HX0 := Lib.hid hx0
    have HBB0 := Lib.hid hB0
    clear hb0 hx0 hB0
    go_wp2_with (with_reducible refine wpList_store_row (o := Oper.mk none (Op.store 97 (.tmp 4) (.tmp 39)) _ _ _ none) rfl 97 (.tmp 4) (.tmp 39) rfl (w.heap.size + 2) #[.int .i64 2, .bool true] ?h10qx ?h10qy 97 _ HX0.out ?h10qi ?h10qo ?h10q1 ?h10qk)
    case h10qx => rfl
    case h10qy => rfl
    case h10qi => kernel_rfl
    case h10qo => rfl
    case h10q1 => simp [Value.oneCell']
    go_wp2_with fail
    have hld := box_kt (setRow_heap _ _ _ #[.int .i64 2, .bool true] _ _ HX0.out)
    exact bodyPost_ret (v := .tuple #[.agg #[.int .i64 2, .bool true], .bool false]) (by simp [results, Tryd.results92, Act.put, asAddr, hld]) rfl ⟨rfl, (HBB0.out).grown (grown_rowT _ _ _) (HBB0.out).size (fun z hz => by cases hz; omega)⟩
  · simp only [Bool.false_and, Bool.true_and]
    go_enter Tryd.func92, Tryd.ntmps92
    go_wp2_with fail
    refine (CX2.out _).mono ?_
    rintro e v0 ⟨rfl, hb0⟩
    have HL0 := Lib.hid (hb0.mono (by rw [HSZ.out]; exact Nat.le_refl _))
    obtain ⟨⟨c00, c01, c02, c03⟩, hx0, hB0⟩ := KEEP.out v0 HL0.out
    have HX0 := Lib.hid hx0
    have HBB0 := Lib.hid hB0
    clear hb0 hx0 hB0
    go_wp2_with (with_reducible refine wpList_store_row (o := Oper.mk none (Op.store 97 (.tmp 4) (.tmp 39)) _ _ _ none) rfl 97 (.tmp 4) (.tmp 39) rfl (w.heap.size + 2) #[.int .i64 2, .bool true] ?h11qx ?h11qy 97 _ HX0.out ?h11qi ?h11qo ?h11q1 ?h11qk)
    case h11qx => rfl
    case h11qy => rfl
    case h11qi => kernel_rfl
    case h11qo => rfl
    case h11q1 => simp [Value.oneCell']
    go_wp2_with fail
    have hld := box_kt (setRow_heap _ _ _ #[.int .i64 2, .bool true] _ _ HX0.out)
    exact bodyPost_ret (v := .tuple #[.agg #[.int .i64 2, .bool true], .bool false]) (by simp [results, Tryd.results92, Act.put, asAddr, hld]) rfl ⟨rfl, (HBB0.out).grown (grown_rowT _ _ _) (HBB0.out).size (fun z hz => by cases hz; omega)⟩
  · simp only [Bool.false_and, Bool.true_and]
    go_enter Tryd.func92, Tryd.ntmps92
    go_wp2_with fail
    refine (CX2.out _).mono ?_
    rintro e v0 ⟨rfl, hb0⟩
    have HL0 := Lib.hid (hb0.mono (by rw [HSZ.out]; exact Nat.le_refl _))
    obtain ⟨⟨c00, c01, c02, c03⟩, hx0, hB0⟩ := KEEP.out v0 HL0.out
    have HX0 := Lib.hid hx0
    have HBB0 := Lib.hid hB0
    clear hb0 hx0 hB0
    go_wp2_with fail
    refine (CY2.out _).mono ?_
    rintro e v1 ⟨rfl, hb1⟩
    have HL1 := Lib.hid (HL0.out.trans (hb1.mono (by have := HL0.out.size; rw [HSZ.out] at this; omega)))
    obtain ⟨⟨c10, c11, c12, c13⟩, hx1, hB1⟩ := KEEP.out v1 HL1.out
    have HX1 := Lib.hid hx1
    have HBB1 := Lib.hid hB1
    clear hb1 hx1 hB1
    go_wp2_with (with_reducible refine wpList_store_row (o := Oper.mk none (Op.store 97 (.tmp 4) (.tmp 39)) _ _ _ none) rfl 97 (.tmp 4) (.tmp 39) rfl (w.heap.size + 2) #[.int .i64 2, .bool true] ?h12qx ?h12qy 97 _ HX1.out ?h12qi ?h12qo ?h12q1 ?h12qk)
    case h12qx => rfl
    case h12qy => rfl
    case h12qi => kernel_rfl
    case h12qo => rfl
    case h12q1 => simp [Value.oneCell']
    go_wp2_with fail
    have hld := box_kt (setRow_heap _ _ _ #[.int .i64 2, .bool true] _ _ HX1.out)
    exact bodyPost_ret (v := .tuple #[.agg #[.int .i64 2, .bool true], .bool q2]) (by simp [results, Tryd.results92, Act.put, asAddr, hld]) rfl ⟨rfl, (HBB1.out).grown (grown_rowT _ _ _) (HBB1.out).size (fun z hz => by cases hz; omega)⟩
  · simp only [Bool.false_and, Bool.true_and]
    go_enter Tryd.func92, Tryd.ntmps92
    go_wp2_with fail
    refine (CX2.out _).mono ?_
    rintro e v0 ⟨rfl, hb0⟩
    have HL0 := Lib.hid (hb0.mono (by rw [HSZ.out]; exact Nat.le_refl _))
    obtain ⟨⟨c00, c01, c02, c03⟩, hx0, hB0⟩ := KEEP.out v0 HL0.out
    have HX0 := Lib.hid hx0
    have HBB0 := Lib.hid hB0
    clear hb0 hx0 hB0
    go_wp2_with fail
    refine (CY2.out _).mono ?_
    rintro e v1 ⟨rfl, hb1⟩
    have HL1 := Lib.hid (HL0.out.trans (hb1.mono (by have := HL0.out.size; rw [HSZ.out] at this; omega)))
    obtain ⟨⟨c10, c11, c12, c13⟩, hx1, hB1⟩ := KEEP.out v1 HL1.out
    have HX1 := Lib.hid hx1
    have HBB1 := Lib.hid hB1
    clear hb1 hx1 hB1
    go_wp2_with (with_reducible refine wpList_store_row (o := Oper.mk none (Op.store 97 (.tmp 4) (.tmp 39)) _ _ _ none) rfl 97 (.tmp 4) (.tmp 39) rfl (w.heap.size + 2) #[.int .i64 2, .bool true] ?h13qx ?h13qy 97 _ HX1.out ?h13qi ?h13qo ?h13q1 ?h13qk)
    case h13qx => rfl
    case h13qy => rfl
    case h13qi => kernel_rfl
    case h13qo => rfl
    case h13q1 => simp [Value.oneCell']
    go_wp2_with fail
    have hld := box_kt (setRow_heap _ _ _ #[.int .i64 2, .bool true] _ _ HX1.out)
    exact bodyPost_ret (v := .tuple #[.agg #[.int .i64 2, .bool true], .bool q2]) (by simp [results, Tryd.results92, Act.put, asAddr, hld]) rfl ⟨rfl, (HBB1.out).grown (grown_rowT _ _ _) (HBB1.out).size (fun z hz => by cases hz; omega)⟩
end Go.Proofs.YtmdpjahhhfajaaaDoor
