/-
  The reference's pieces of text; at, literal.
-/
import Derived.Test.YtmdpjahhhfajaaaGreatDoorJC29
import Derived.Test.YtmdpjahhhfajaaaGreatDoorJC14
set_option linter.unusedVariables false
set_option linter.unusedSimpArgs false
set_option maxRecDepth 100000
namespace Go.Proofs.YtmdpjahhhfajaaaGreatDoor
open Go.RowKit Go.Joins Wh
theorem info_pr : (Tryz.prog.info? 55).map (fun i => (i.zero, i.size, i.bytes)) = some (some (.agg #[.string ⟨#[]⟩, .int .i64 0, .bool false]), 3, 32) := by kernel_rfl
theorem own_prs {w : World} {base n : Nat} {v : Value} {xs : List Pc} (h : w.ownsRow base 55 3 v n (pcsL xs)) (hn : xs.length = n) :
  ∃ (a : Option Addr) (cap : Nat), v = .slice a n cap ∧ IsPcs w a n xs ∧ n ≤ cap ∧ cap ≤ maxLen ∧ (a = none → cap = 0) ∧ (∀ x, a = some x → ∃ g, x = ⟨g, 0, none⟩ ∧ base ≤ g ∧ g < w.heap.size) := by
 rcases h.2 with ⟨rfl, rfl⟩ | ⟨g, cap, cur, rfl, hg, hh, hnc, hmc, _, ht⟩
 ·exact ⟨none, 0, rfl, ⟨hn, .inl (List.eq_nil_of_length_eq_zero hn)⟩, Nat.le_refl _, Nat.zero_le _, fun _ => rfl, fun x hx => by cases hx⟩
 ·have hlt : g < w.heap.size := (Array.getElem?_eq_some_iff.1 hh).1
  refine ⟨_, cap, rfl, ⟨hn, .inr ⟨g, 0, rfl, hlt, fun i t hi => ?_⟩⟩, hnc, hmc, fun hx => (by cases hx), by rintro x ⟨⟩; exact ⟨g, rfl, hg, hlt⟩⟩
  obtain ⟨f0, f1, f2⟩ := pcsL_at xs i t hi
  have hk := (List.getElem?_eq_some_iff.1 hi).1
  simp only [Nat.zero_add]
  exact ⟨(h.cellAt (i * 3) (by omega)).trans f0, (h.cellAt (i * 3 + 1) (by omega)).trans f1, (h.cellAt (i * 3 + 2) (by omega)).trans f2⟩
theorem box_pr {w : World} {B : Nat} {x y z : Value} (h : w.heap[B]? = some (.cells #[x, y, z] 55 (0, 0))) : (loadVar 55 ⟨B, 0, none⟩).run Tryz.prog w = .ok (.agg #[x, y, z]) w := by
 refine run_loadVar_mid w B 0 _ [x, y, z] _ (fun j q hv => ?_) Tryz.underlying55 rfl (by kernel_rfl)
 rw [Nat.zero_add]
 exact (cell_of_row _ _ j _ _ _ h).trans (by rw [← Array.getElem?_toList]; exact hv)
theorem pr_zero (w : World) (o : Obj) : ((w.alloc o).alloc (.cells #[.string ⟨#[]⟩, .int .i64 0, .bool false] 55)).heap[w.heap.size + 1]? = some (.cells #[.string ⟨#[]⟩, .int .i64 0, .bool false] 55 (0, 0)) := by
 have h := heap_alloc_new (w.alloc o) (.cells #[.string ⟨#[]⟩, .int .i64 0, .bool false] 55)
 rw [show (w.alloc o).heap.size = w.heap.size + 1 by simp] at h
 exact h
set_option maxHeartbeats 1000000 in
theorem rat_any (s : ByteArray) (lv : Int) (ig : Bool) (l : Int) (w : World) (hs : s.size ≤ 1000000) : Calls Tryz.prog 43 #[.agg #[.string s, .int .i64 lv, .bool ig], .int .i64 l] w fun e w' => e = .returned (.string (encS s lv l)) ∧ Below w.heap.size w w' := by
 unfold encS
 have s1 : ¬ (9223372036854775807 < (⟨#[40]⟩ : ByteArray).size + s.size) := by show ¬ (9223372036854775807 < 1 + s.size); omega
 have s2 : ¬ (9223372036854775807 < ((⟨#[40]⟩ : ByteArray) ++ s).size + (⟨#[41]⟩ : ByteArray).size) := by
  rw [ByteArray.size_append]
  show ¬ (9223372036854775807 < 1 + s.size + 1)
  omega
 by_cases h : lv < l
 ·rw [if_pos h]
  go_enter Tryz.func43, Tryz.ntmps43
  go_wp2_with fail
  go_ret
  exact ⟨rfl, (Below.refl _ _).alloc (Nat.le_refl _) _⟩
 ·rw [if_neg h]
  go_enter Tryz.func43, Tryz.ntmps43
  go_wp2_with fail
  go_ret
  exact ⟨rfl, (Below.refl _ _).alloc (Nat.le_refl _) _⟩
set_option maxHeartbeats 8000000 in
theorem rlit_any (v : V) (hv : validB v.k v.n v.s = true) (w : World) : Calls Tryz.prog 42 #[.agg #[.int .i64 v.k, .int .i64 v.n, .string v.s]] w fun e w' => e = .returned (pcV (cstP v)) ∧ Below w.heap.size w w' := by
 obtain ⟨k, n, s⟩ := v
 have hc := valid_cases8 hv
 simp only at hc ⊢
 clear hv
 have HZ := Lib.hid (pr_zero w (.cells #[.int .i64 k, .int .i64 n, .string s] 51))
 have hbel : Below w.heap.size w ((w.alloc (.cells #[.int .i64 k, .int .i64 n, .string s] 51)).alloc (.cells #[.string ⟨#[]⟩, .int .i64 0, .bool false] 55)) := ((Below.refl _ _).alloc (Nat.le_refl _) _).alloc (by simp) _
 have hsz : ((w.alloc (.cells #[.int .i64 k, .int .i64 n, .string s] 51)).alloc (.cells #[.string ⟨#[]⟩, .int .i64 0, .bool false] 55)).heap.size = w.heap.size + 2 := by simp
 have KEEP : Hid (∀ W, Below (w.heap.size + 2) ((w.alloc (.cells #[.int .i64 k, .int .i64 n, .string s] 51)).alloc (.cells #[.string ⟨#[]⟩, .int .i64 0, .bool false] 55)) W → W.heap[w.heap.size + 1]? = some (.cells #[.string ⟨#[]⟩, .int .i64 0, .bool false] 55 (0, 0)) ∧ Below w.heap.size w W) := fun W hb =>
  ⟨by rw [hb.block _ (by omega)]; exact HZ.out, hbel.trans (hb.mono (by omega))⟩
 have HBEL := Lib.hid hbel
 have HSZ := Lib.hid hsz
 clear hbel hsz HZ
 rcases hc with ⟨rfl, rfl, rfl⟩ | ⟨rfl, hn, rfl⟩ | ⟨rfl, h0, h1, rfl⟩ | ⟨rfl, rfl, hs⟩ | ⟨rfl, h0, h1, rfl⟩
 ·have hE : pcV (cstP ⟨0, 0, ⟨#[]⟩⟩) = .agg #[.string ⟨#[110, 117, 108, 108]⟩, .int .i64 8, .bool false] := rfl
  rw [hE]
  go_enter Tryz.func42, Tryz.ntmps42
  obtain ⟨HX, hB5⟩ := KEEP.out _ (Below.refl _ _)
  have HX := Lib.hid HX
  have HB5 := Lib.hid hB5
  clear hB5 KEEP HBEL HSZ
  go_wp2_with (with_reducible refine wpList_store_row (o := Oper.mk none (Op.store 55 (.tmp 2) (.tmp 40)) _ _ _ none) rfl 55 (.tmp 2) (.tmp 40) rfl (w.heap.size + 1) #[.string ⟨#[110, 117, 108, 108]⟩, .int .i64 8, .bool false] ?h0qx ?h0qy 55 _ HX.out ?h0qi ?h0qo ?h0q1 ?h0qk)
  case h0qx => rfl
  case h0qy => rfl
  case h0qi => kernel_rfl
  case h0qo => rfl
  case h0q1 => simp [Value.oneCell']
  go_wp2_with fail
  have hld := box_pr (setRow_heap _ _ _ #[.string ⟨#[110, 117, 108, 108]⟩, .int .i64 8, .bool false] _ _ HX.out)
  exact bodyPost_ret (v := .agg #[.string ⟨#[110, 117, 108, 108]⟩, .int .i64 8, .bool false]) (by simp [results, Tryz.results42, Act.put, asAddr, hld]) rfl ⟨rfl, HB5.out.grown (grown_setRow _ _ _) HB5.out.size (fun z hz => by cases hz; omega)⟩
 ·rcases hn with rfl | rfl
  ·have hE : pcV (cstP ⟨1, 0, ⟨#[]⟩⟩) = .agg #[.string ⟨#[102, 97, 108, 115, 101]⟩, .int .i64 8, .bool false] := by unfold pcV cstP; simp; decide +kernel
   rw [hE]
   go_enter Tryz.func42, Tryz.ntmps42
   obtain ⟨HX, hB5⟩ := KEEP.out _ ((Below.refl _ ((w.alloc (.cells #[.int .i64 1, .int .i64 0, .string ⟨#[]⟩] 51)).alloc (.cells #[.string ⟨#[]⟩, .int .i64 0, .bool false] 55))).alloc (by simp) (.cells #[.string ⟨#[102, 97, 108, 115, 101]⟩, .string ⟨#[116, 114, 117, 101]⟩] 9))
   have HX := Lib.hid HX
   have HB5 := Lib.hid hB5
   clear hB5 KEEP HBEL HSZ
   go_wp2_with (with_reducible refine wpList_store_row (o := Oper.mk none (Op.store 55 (.tmp 2) (.tmp 12)) _ _ _ none) rfl 55 (.tmp 2) (.tmp 12) rfl (w.heap.size + 1) #[.string ⟨#[102, 97, 108, 115, 101]⟩, .int .i64 8, .bool false] ?h1qx ?h1qy 55 _ HX.out ?h1qi ?h1qo ?h1q1 ?h1qk)
   case h1qx => rfl
   case h1qy => rfl
   case h1qi => kernel_rfl
   case h1qo => rfl
   case h1q1 => simp [Value.oneCell']
   go_wp2_with fail
   have hld := box_pr (setRow_heap _ _ _ #[.string ⟨#[102, 97, 108, 115, 101]⟩, .int .i64 8, .bool false] _ _ HX.out)
   exact bodyPost_ret (v := .agg #[.string ⟨#[102, 97, 108, 115, 101]⟩, .int .i64 8, .bool false]) (by simp [results, Tryz.results42, Act.put, asAddr, hld]) rfl ⟨rfl, HB5.out.grown (grown_setRow _ _ _) HB5.out.size (fun z hz => by cases hz; omega)⟩
  ·have hE : pcV (cstP ⟨1, 1, ⟨#[]⟩⟩) = .agg #[.string ⟨#[116, 114, 117, 101]⟩, .int .i64 8, .bool false] := by unfold pcV cstP; simp; decide +kernel
   rw [hE]
   go_enter Tryz.func42, Tryz.ntmps42
   obtain ⟨HX, hB5⟩ := KEEP.out _ ((Below.refl _ ((w.alloc (.cells #[.int .i64 1, .int .i64 1, .string ⟨#[]⟩] 51)).alloc (.cells #[.string ⟨#[]⟩, .int .i64 0, .bool false] 55))).alloc (by simp) (.cells #[.string ⟨#[102, 97, 108, 115, 101]⟩, .string ⟨#[116, 114, 117, 101]⟩] 9))
   have HX := Lib.hid HX
   have HB5 := Lib.hid hB5
   clear hB5 KEEP HBEL HSZ
   go_wp2_with (with_reducible refine wpList_store_row (o := Oper.mk none (Op.store 55 (.tmp 2) (.tmp 12)) _ _ _ none) rfl 55 (.tmp 2) (.tmp 12) rfl (w.heap.size + 1) #[.string ⟨#[116, 114, 117, 101]⟩, .int .i64 8, .bool false] ?h2qx ?h2qy 55 _ HX.out ?h2qi ?h2qo ?h2q1 ?h2qk)
   case h2qx => rfl
   case h2qy => rfl
   case h2qi => kernel_rfl
   case h2qo => rfl
   case h2q1 => simp [Value.oneCell']
   go_wp2_with fail
   have hld := box_pr (setRow_heap _ _ _ #[.string ⟨#[116, 114, 117, 101]⟩, .int .i64 8, .bool false] _ _ HX.out)
   exact bodyPost_ret (v := .agg #[.string ⟨#[116, 114, 117, 101]⟩, .int .i64 8, .bool false]) (by simp [results, Tryz.results42, Act.put, asAddr, hld]) rfl ⟨rfl, HB5.out.grown (grown_setRow _ _ _) HB5.out.size (fun z hz => by cases hz; omega)⟩
 ·by_cases hn : n < 0
  ·obtain ⟨m, hm⟩ : ∃ m : Nat, -n = (m : Int) := ⟨(-n).toNat, by omega⟩
   have hE : pcV (cstP ⟨2, n, ⟨#[]⟩⟩) = .agg #[.string (⟨#[45]⟩ ++ ⟨(Lib.decDigits m).toArray⟩), .int .i64 7, .bool true] := by
    have e : (⟨#[45]⟩ ++ ⟨(Lib.decDigits m).toArray⟩ : ByteArray) = ⟨(45 :: Lib.decDigits m).toArray⟩ := ba_append [45] _
    rw [e]
    unfold pcV cstP
    simp [hn, hm]
   rw [hE]
   have C := Lib.hid (fun W => number7_any m (by omega) W)
   unfold IsStr at C
   have hos : (⟨(Lib.decDigits m).toArray⟩ : ByteArray).size ≤ 100 := by rw [size_mk]; have := dec_le11 m (by omega); omega
   generalize (⟨(Lib.decDigits m).toArray⟩ : ByteArray) = o at *
   have s1 : ¬ (9223372036854775807 < (⟨#[45]⟩ : ByteArray).size + o.size) := by show ¬ (9223372036854775807 < 1 + o.size); omega
   have hneg : -n = (m : Int) := hm
   have hwr : IntKind.i64.wrap (-n) = (m : Int) := by rw [IntKind.wrap_i64]; omega
   clear hE hm hos
   go_enter Tryz.func42, Tryz.ntmps42
   go_wp2_with fail
   refine (C.out _ ).mono ?_
   rintro e w5 ⟨rfl, hb5⟩
   obtain ⟨HX, hB5⟩ := KEEP.out w5 (hb5.mono (by rw [HSZ.out]; exact Nat.le_refl _))
   have HX := Lib.hid HX
   have HB5 := Lib.hid hB5
   clear hb5 hB5 C KEEP HBEL HSZ
   go_wp2_with (with_reducible refine wpList_store_row (o := Oper.mk none (Op.store 55 (.tmp 2) (.tmp 23)) _ _ _ none) rfl 55 (.tmp 2) (.tmp 23) rfl (w.heap.size + 1) #[.string (⟨#[45]⟩ ++ o), .int .i64 7, .bool true] ?h3qx ?h3qy 55 _ HX.out ?h3qi ?h3qo ?h3q1 ?h3qk)
   case h3qx => rfl
   case h3qy => rfl
   case h3qi => kernel_rfl
   case h3qo => rfl
   case h3q1 => simp [Value.oneCell']
   go_wp2_with fail
   have hld := box_pr (setRow_heap _ _ _ #[.string (⟨#[45]⟩ ++ o), .int .i64 7, .bool true] _ _ HX.out)
   exact bodyPost_ret (v := .agg #[.string (⟨#[45]⟩ ++ o), .int .i64 7, .bool true]) (by simp [results, Tryz.results42, Act.put, asAddr, hld]) rfl ⟨rfl, HB5.out.grown (grown_setRow _ _ _) HB5.out.size (fun z hz => by cases hz; omega)⟩
  ·obtain ⟨m, rfl⟩ : ∃ m : Nat, n = (m : Int) := ⟨n.toNat, by omega⟩
   have hE : pcV (cstP ⟨2, (m : Int), ⟨#[]⟩⟩) = .agg #[.string ⟨(Lib.decDigits m).toArray⟩, .int .i64 8, .bool true] := by
    unfold pcV cstP
    rw [if_neg (by show ¬ (2 : Int) = 1; decide), if_pos rfl, if_neg hn]
    rfl
   rw [hE]
   have C := Lib.hid (fun W => number7_any m (by omega) W)
   unfold IsStr at C
   generalize (⟨(Lib.decDigits m).toArray⟩ : ByteArray) = o at *
   clear hE
   go_enter Tryz.func42, Tryz.ntmps42
   go_wp2_with fail
   refine (C.out _ ).mono ?_
   rintro e w5 ⟨rfl, hb5⟩
   obtain ⟨HX, hB5⟩ := KEEP.out w5 (hb5.mono (by rw [HSZ.out]; exact Nat.le_refl _))
   have HX := Lib.hid HX
   have HB5 := Lib.hid hB5
   clear hb5 hB5 C KEEP HBEL HSZ
   go_wp2_with (with_reducible refine wpList_store_row (o := Oper.mk none (Op.store 55 (.tmp 2) (.tmp 27)) _ _ _ none) rfl 55 (.tmp 2) (.tmp 27) rfl (w.heap.size + 1) #[.string o, .int .i64 8, .bool true] ?h4qx ?h4qy 55 _ HX.out ?h4qi ?h4qo ?h4q1 ?h4qk)
   case h4qx => rfl
   case h4qy => rfl
   case h4qi => kernel_rfl
   case h4qo => rfl
   case h4q1 => simp [Value.oneCell']
   go_wp2_with fail
   have hld := box_pr (setRow_heap _ _ _ #[.string o, .int .i64 8, .bool true] _ _ HX.out)
   exact bodyPost_ret (v := .agg #[.string o, .int .i64 8, .bool true]) (by simp [results, Tryz.results42, Act.put, asAddr, hld]) rfl ⟨rfl, HB5.out.grown (grown_setRow _ _ _) HB5.out.size (fun z hz => by cases hz; omega)⟩
 ·have hE : pcV (cstP ⟨3, 0, s⟩) = .agg #[.string ⟨(39 :: (dbl (bts s) ++ [39])).toArray⟩, .int .i64 8, .bool false] := rfl
  rw [hE]
  have C := Lib.hid (fun W => quote_any s (by omega) W)
  unfold IsStr at C
  generalize (⟨(39 :: (dbl (bts s) ++ [39])).toArray⟩ : ByteArray) = o at *
  clear hE
  go_enter Tryz.func42, Tryz.ntmps42
  go_wp2_with fail
  refine (C.out _ ).mono ?_
  rintro e w5 ⟨rfl, hb5⟩
  obtain ⟨HX, hB5⟩ := KEEP.out w5 (hb5.mono (by rw [HSZ.out]; exact Nat.le_refl _))
  have HX := Lib.hid HX
  have HB5 := Lib.hid hB5
  clear hb5 hB5 C KEEP HBEL HSZ
  go_wp2_with (with_reducible refine wpList_store_row (o := Oper.mk none (Op.store 55 (.tmp 2) (.tmp 33)) _ _ _ none) rfl 55 (.tmp 2) (.tmp 33) rfl (w.heap.size + 1) #[.string o, .int .i64 8, .bool false] ?h5qx ?h5qy 55 _ HX.out ?h5qi ?h5qo ?h5q1 ?h5qk)
  case h5qx => rfl
  case h5qy => rfl
  case h5qi => kernel_rfl
  case h5qo => rfl
  case h5q1 => simp [Value.oneCell']
  go_wp2_with fail
  have hld := box_pr (setRow_heap _ _ _ #[.string o, .int .i64 8, .bool false] _ _ HX.out)
  exact bodyPost_ret (v := .agg #[.string o, .int .i64 8, .bool false]) (by simp [results, Tryz.results42, Act.put, asAddr, hld]) rfl ⟨rfl, HB5.out.grown (grown_setRow _ _ _) HB5.out.size (fun z hz => by cases hz; omega)⟩
 ·obtain ⟨y, kk, d, t, hd, ht, hn, he, hl⟩ := timL_of h0 h1
  have hE : pcV (cstP ⟨4, n, ⟨#[]⟩⟩) = .agg #[.string ⟨(64 :: timL n).toArray⟩, .int .i64 8, .bool false] := rfl
  rw [hE, hl]
  have C := Lib.hid (fun W => moment7_any y kk d t hd ht hn W)
  rw [← he] at C
  unfold IsStr at C
  generalize (⟨(64 :: fmtL y kk d t).toArray⟩ : ByteArray) = o at *
  clear hE hl he
  go_enter Tryz.func42, Tryz.ntmps42
  go_wp2_with fail
  refine (C.out _ ).mono ?_
  rintro e w5 ⟨rfl, hb5⟩
  obtain ⟨HX, hB5⟩ := KEEP.out w5 (hb5.mono (by rw [HSZ.out]; exact Nat.le_refl _))
  have HX := Lib.hid HX
  have HB5 := Lib.hid hB5
  clear hb5 hB5 C KEEP HBEL HSZ
  go_wp2_with (with_reducible refine wpList_store_row (o := Oper.mk none (Op.store 55 (.tmp 2) (.tmp 39)) _ _ _ none) rfl 55 (.tmp 2) (.tmp 39) rfl (w.heap.size + 1) #[.string o, .int .i64 8, .bool false] ?h6qx ?h6qy 55 _ HX.out ?h6qi ?h6qo ?h6q1 ?h6qk)
  case h6qx => rfl
  case h6qy => rfl
  case h6qi => kernel_rfl
  case h6qo => rfl
  case h6q1 => simp [Value.oneCell']
  go_wp2_with fail
  have hld := box_pr (setRow_heap _ _ _ #[.string o, .int .i64 8, .bool false] _ _ HX.out)
  exact bodyPost_ret (v := .agg #[.string o, .int .i64 8, .bool false]) (by simp [results, Tryz.results42, Act.put, asAddr, hld]) rfl ⟨rfl, HB5.out.grown (grown_setRow _ _ _) HB5.out.size (fun z hz => by cases hz; omega)⟩
end Go.Proofs.YtmdpjahhhfajaaaGreatDoor
