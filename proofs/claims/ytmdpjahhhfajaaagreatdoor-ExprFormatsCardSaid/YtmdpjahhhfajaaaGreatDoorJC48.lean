/-
  The reference: written.
-/
import Derived.Test.YtmdpjahhhfajaaaGreatDoorJC47
import Derived.Test.YtmdpjahhhfajaaaGreatDoorJC31
import Derived.StillTailTactics
set_option linter.unusedVariables false
set_option linter.unusedSimpArgs false
set_option maxRecDepth 100000
namespace Wh
open Go Go.Proofs.YtmdpjahhhfajaaaGreatDoor
theorem comL_push (ls : List (List UInt8)) (x : List UInt8) : comL (ls ++ [x]) = if ls = [] then x else comL ls ++ 44 :: 32 :: x := by
 unfold comL
 cases ls with
 | nil => rw [if_pos rfl]; exact Lib.join_one x _
 | cons y ls =>
  rw [if_neg (by simp), List.cons_append, Lib.join_cons, Lib.join_cons]
  unfold Lib.joinTail
  simp
theorem comL_take {ls : List (List UInt8)} {k : Nat} {x : List UInt8} (h : ls[k]? = some x) : comL (ls.take (k + 1)) = if k = 0 then x else comL (ls.take k) ++ 44 :: 32 :: x := by
 rw [List.take_add_one, h]
 show comL (ls.take k ++ [x]) = _
 rw [comL_push]
 have hk : k < ls.length := (List.getElem?_eq_some_iff.1 h).1
 by_cases h0 : k = 0
 ·subst h0; rw [if_pos (by simp), if_pos rfl]
 ·rw [if_neg h0, if_neg]
  intro hc
  have := congrArg List.length hc
  rw [List.length_take, List.length_nil] at this
  omega
theorem comL_take_le (ls : List (List UInt8)) (k : Nat) (xs : List Pc) (h : ls = xs.map (·.tx)) : (comL (ls.take k)).length ≤ totP xs + 2 * xs.length := by
 have h1 := comL_len (ls.take k)
 have h2 : ((ls.take k).map List.length).sum ≤ totP xs := by
  have e : (ls.map List.length).sum = totP xs := by rw [h]; unfold totP; rw [List.map_map]; rfl
  have : ls.map List.length = (ls.take k).map List.length ++ (ls.drop k).map List.length := by rw [← List.map_append, List.take_append_drop]
  rw [this, List.sum_append] at e
  omega
 have h3 : (ls.take k).length ≤ xs.length := by rw [List.length_take, h, List.length_map]; omega
 omega
end Wh
namespace Go.Proofs.YtmdpjahhhfajaaaGreatDoor
open Go.RowKit Go.Joins Wh
theorem keepRw {w W0 w1 w2 : World} {b0 o0 : Nat} {sx sy : ByteArray} {op xl yl : Int} {xi yi : Bool} (h0 : w.heap.size + 1 < w1.heap.size ∧ b0 < w.heap.size) (h : w1.cell? ⟨b0, o0, none⟩ = some (.string sx) ∧ w1.cell? ⟨b0, o0 + 1, none⟩ = some (.int .i64 xl) ∧ w1.cell? ⟨b0, o0 + 2, none⟩ = some (.bool xi) ∧ w1.cell? ⟨b0, o0 + 3, none⟩ = some (.string sy) ∧ w1.cell? ⟨b0, o0 + 3 + 1, none⟩ = some (.int .i64 yl) ∧ w1.cell? ⟨b0, o0 + 3 + 2, none⟩ = some (.bool yi) ∧ w1.cell? ⟨w.heap.size, 0, none⟩ = some (.int .i64 op) ∧ Below (w.heap.size + 1) W0 w1) (hb : Below w1.heap.size w1 w2) : w2.cell? ⟨b0, o0, none⟩ = some (.string sx) ∧ w2.cell? ⟨b0, o0 + 1, none⟩ = some (.int .i64 xl) ∧ w2.cell? ⟨b0, o0 + 2, none⟩ = some (.bool xi) ∧ w2.cell? ⟨b0, o0 + 3, none⟩ = some (.string sy) ∧ w2.cell? ⟨b0, o0 + 3 + 1, none⟩ = some (.int .i64 yl) ∧ w2.cell? ⟨b0, o0 + 3 + 2, none⟩ = some (.bool yi) ∧ w2.cell? ⟨w.heap.size, 0, none⟩ = some (.int .i64 op) ∧ Below (w.heap.size + 1) W0 w2 := by
 obtain ⟨a0, a1, a2, c0, c1, c2, d0, hB⟩ := h
 have e : ∀ o, w2.cell? ⟨b0, o, none⟩ = w1.cell? ⟨b0, o, none⟩ := fun o => hb.cell (p := ⟨b0, o, none⟩) (by show b0 < _; omega)
 have e2 : ∀ o, w2.cell? ⟨w.heap.size, o, none⟩ = w1.cell? ⟨w.heap.size, o, none⟩ := fun o => hb.cell (p := ⟨w.heap.size, o, none⟩) (by show w.heap.size < _; omega)
 exact ⟨(e _).trans a0, (e _).trans a1, (e _).trans a2, (e _).trans c0, (e _).trans c1, (e _).trans c2, (e2 _).trans d0, hB.trans (hb.mono (by omega))⟩
theorem keepRwSt {w W0 w1 : World} {b0 o0 : Nat} {sx sy : ByteArray} {op xl yl : Int} {xi yi : Bool} {u0 u1 u2 : Value} (h0 : w.heap.size + 1 < w1.heap.size ∧ b0 < w.heap.size) (h : w1.cell? ⟨b0, o0, none⟩ = some (.string sx) ∧ w1.cell? ⟨b0, o0 + 1, none⟩ = some (.int .i64 xl) ∧ w1.cell? ⟨b0, o0 + 2, none⟩ = some (.bool xi) ∧ w1.cell? ⟨b0, o0 + 3, none⟩ = some (.string sy) ∧ w1.cell? ⟨b0, o0 + 3 + 1, none⟩ = some (.int .i64 yl) ∧ w1.cell? ⟨b0, o0 + 3 + 2, none⟩ = some (.bool yi) ∧ w1.cell? ⟨w.heap.size, 0, none⟩ = some (.int .i64 op) ∧ Below (w.heap.size + 1) W0 w1) : (((w1.setCell ⟨w.heap.size + 1, 0, none⟩ u0).setCell ⟨w.heap.size + 1, 1, none⟩ u1).setCell ⟨w.heap.size + 1, 2, none⟩ u2).cell? ⟨b0, o0, none⟩ = some (.string sx) ∧ (((w1.setCell ⟨w.heap.size + 1, 0, none⟩ u0).setCell ⟨w.heap.size + 1, 1, none⟩ u1).setCell ⟨w.heap.size + 1, 2, none⟩ u2).cell? ⟨b0, o0 + 1, none⟩ = some (.int .i64 xl) ∧ (((w1.setCell ⟨w.heap.size + 1, 0, none⟩ u0).setCell ⟨w.heap.size + 1, 1, none⟩ u1).setCell ⟨w.heap.size + 1, 2, none⟩ u2).cell? ⟨b0, o0 + 2, none⟩ = some (.bool xi) ∧ (((w1.setCell ⟨w.heap.size + 1, 0, none⟩ u0).setCell ⟨w.heap.size + 1, 1, none⟩ u1).setCell ⟨w.heap.size + 1, 2, none⟩ u2).cell? ⟨b0, o0 + 3, none⟩ = some (.string sy) ∧ (((w1.setCell ⟨w.heap.size + 1, 0, none⟩ u0).setCell ⟨w.heap.size + 1, 1, none⟩ u1).setCell ⟨w.heap.size + 1, 2, none⟩ u2).cell? ⟨b0, o0 + 3 + 1, none⟩ = some (.int .i64 yl) ∧ (((w1.setCell ⟨w.heap.size + 1, 0, none⟩ u0).setCell ⟨w.heap.size + 1, 1, none⟩ u1).setCell ⟨w.heap.size + 1, 2, none⟩ u2).cell? ⟨b0, o0 + 3 + 2, none⟩ = some (.bool yi) ∧ (((w1.setCell ⟨w.heap.size + 1, 0, none⟩ u0).setCell ⟨w.heap.size + 1, 1, none⟩ u1).setCell ⟨w.heap.size + 1, 2, none⟩ u2).cell? ⟨w.heap.size, 0, none⟩ = some (.int .i64 op) ∧ Below (w.heap.size + 1) W0 (((w1.setCell ⟨w.heap.size + 1, 0, none⟩ u0).setCell ⟨w.heap.size + 1, 1, none⟩ u1).setCell ⟨w.heap.size + 1, 2, none⟩ u2) := by
 obtain ⟨a0, a1, a2, c0, c1, c2, d0, hB⟩ := h
 have hb := below_st (w := w) (w1 := w1) (u0 := u0) (u1 := u1) (u2 := u2)
 have e : ∀ o, (((w1.setCell ⟨w.heap.size + 1, 0, none⟩ u0).setCell ⟨w.heap.size + 1, 1, none⟩ u1).setCell ⟨w.heap.size + 1, 2, none⟩ u2).cell? ⟨b0, o, none⟩ = w1.cell? ⟨b0, o, none⟩ := fun o => hb.cell (p := ⟨b0, o, none⟩) (by show b0 < _; omega)
 have e2 : ∀ o, (((w1.setCell ⟨w.heap.size + 1, 0, none⟩ u0).setCell ⟨w.heap.size + 1, 1, none⟩ u1).setCell ⟨w.heap.size + 1, 2, none⟩ u2).cell? ⟨w.heap.size, o, none⟩ = w1.cell? ⟨w.heap.size, o, none⟩ := fun o => hb.cell (p := ⟨w.heap.size, o, none⟩) (by show w.heap.size < _; omega)
 exact ⟨(e _).trans a0, (e _).trans a1, (e _).trans a2, (e _).trans c0, (e _).trans c1, (e _).trans c2, (e2 _).trans d0, hB.trans hb⟩
set_option maxHeartbeats 16000000 in
theorem rwrite8_any (t : Nd) (hnod : nodB t = true) (a : Option Addr) (len cap : Nat) (xs : List Pc) (w : World) (hs : IsPcs w a len xs) (hln : (len : Int) = arN t) (htot : totP xs ≤ 900000) (hlv : ∀ x ∈ xs, x.lv ≤ 8) :
  Calls Tryz.prog 25 #[ndV t, .slice a len cap] w fun e w' => e = .returned (pcV (nodP t xs)) ∧ Below w.heap.size w w' := by
 have hl8 := (nodB_ar hnod).2
 have hops := nod_ops hnod
 have hnmz : t.nm.size ≤ 1000000 := by
  unfold nodB at hnod
  by_cases h0 : t.op = 0
  ·rw [if_pos h0, Bool.and_eq_true, Bool.and_eq_true] at hnod
   have := hnod.2.1; unfold empB at this; have := of_decide_eq_true this; omega
  rw [if_neg h0] at hnod
  by_cases h1 : t.op = 1
  ·rw [if_pos h1] at hnod
   simp only [Bool.and_eq_true, colB] at hnod
   have := (nameB_all hnod.2.2.1).2.1; omega
  rw [if_neg h1] at hnod
  by_cases h20 : t.op = 20
  ·rw [if_pos h20] at hnod
   simp only [Bool.and_eq_true, refB] at hnod
   have := qual_sz hnod.2.2.1; omega
  rw [if_neg h20] at hnod
  by_cases h21 : t.op = 21
  ·rw [if_pos h21] at hnod
   simp only [Bool.and_eq_true, refB] at hnod
   have := qual_sz hnod.2.2.2.1.1; omega
  rw [if_neg h21] at hnod
  simp only [Bool.and_eq_true] at hnod
  have := hnod.2.2.1; unfold empB at this; have := of_decide_eq_true this; omega
 have htx : ∀ i, (xs.getD i noPc).tx.length ≤ 900000 := fun i => Nat.le_trans (totP_getD xs i) htot
 have hxl := hs.1
 have HCST := Lib.hid (fun (h0 : t.op = 0) W (hb : Below w.heap.size w W) => rlit_any t.v (by unfold nodB at hnod; rw [if_pos h0, Bool.and_eq_true] at hnod; exact hnod.1) W)
 obtain ⟨R, hR⟩ : ∃ R, nodP t xs = R := ⟨_, rfl⟩
 rw [hR]
 unfold nodP at hR
 obtain ⟨op, ⟨vk, vn, vs⟩, nm, ar⟩ := t
 simp only at hops hnmz HCST hR hln
 unfold ndV
 simp only
 have hk0 : ((w.alloc (.cells #[.int .i64 op, .int .i64 vk, .int .i64 vn, .string vs, .string nm, .int .i64 ar] 53)).alloc (.cells #[.string ⟨#[]⟩, .int .i64 0, .bool false] 55)).heap[w.heap.size]? = some (.cells #[.int .i64 op, .int .i64 vk, .int .i64 vn, .string vs, .string nm, .int .i64 ar] 53 (0, 0)) := by
  rw [Below.heap_alloc _ _ _ (by simp)]
  exact heap_alloc_new w _
 have hk1 := pr_zero w (.cells #[.int .i64 op, .int .i64 vk, .int .i64 vn, .string vs, .string nm, .int .i64 ar] 53)
 have hbel : Below w.heap.size w ((w.alloc (.cells #[.int .i64 op, .int .i64 vk, .int .i64 vn, .string vs, .string nm, .int .i64 ar] 53)).alloc (.cells #[.string ⟨#[]⟩, .int .i64 0, .bool false] 55)) := ((Below.refl _ _).alloc (Nat.le_refl _) _).alloc (by simp) _
 have hsz : ((w.alloc (.cells #[.int .i64 op, .int .i64 vk, .int .i64 vn, .string vs, .string nm, .int .i64 ar] 53)).alloc (.cells #[.string ⟨#[]⟩, .int .i64 0, .bool false] 55)).heap.size = w.heap.size + 2 := by simp
 have KEEP : Hid (∀ W, Below (w.heap.size + 2) ((w.alloc (.cells #[.int .i64 op, .int .i64 vk, .int .i64 vn, .string vs, .string nm, .int .i64 ar] 53)).alloc (.cells #[.string ⟨#[]⟩, .int .i64 0, .bool false] 55)) W → ((W.cell? ⟨w.heap.size, 0, none⟩ = some (.int .i64 op) ∧ W.cell? ⟨w.heap.size, 1, none⟩ = some (.int .i64 vk) ∧ W.cell? ⟨w.heap.size, 2, none⟩ = some (.int .i64 vn) ∧ W.cell? ⟨w.heap.size, 3, none⟩ = some (.string vs) ∧ W.cell? ⟨w.heap.size, 4, none⟩ = some (.string nm) ∧ W.cell? ⟨w.heap.size, 5, none⟩ = some (.int .i64 ar)) ∧ W.heap[w.heap.size + 1]? = some (.cells #[.string ⟨#[]⟩, .int .i64 0, .bool false] 55 (0, 0)) ∧ Below w.heap.size w W ∧ IsPcs W a len xs)) := fun W hb => by
  have h0 : W.heap[w.heap.size]? = some (.cells #[.int .i64 op, .int .i64 vk, .int .i64 vn, .string vs, .string nm, .int .i64 ar] 53 (0, 0)) := by rw [hb.block _ (by omega)]; exact hk0
  have hB := hbel.trans (hb.mono (by omega))
  exact ⟨node_cells h0, by rw [hb.block _ (by omega)]; exact hk1, hB, hs.below hB (Nat.le_refl _)⟩
 have HSZ := Lib.hid hsz
 have HA := Lib.hid (fun (b o : Nat) (x : Pc) (h : a = some ⟨b, o, none⟩) (hx : xs[0]? = some x) => show b < w.heap.size from by
  rcases hs.2 with h2 | ⟨b', o', h2, h3, _⟩
  ·rw [h2] at hx; cases hx
  ·rw [h] at h2; cases h2; exact h3)
 clear hk0 hk1 hbel hsz hs hnod
 by_cases h0 : op = 0
 ·subst h0
  rw [if_pos rfl] at hR
  have C := Lib.hid (HCST.out rfl)
  rw [hR] at C
  unfold pcV at C ⊢
  obtain ⟨rt, rl, ri⟩ := R
  simp only at C ⊢
  generalize (⟨rt.toArray⟩ : ByteArray) = o at *
  obtain ⟨_, _, hB0, _⟩ := KEEP.out _ (Below.refl _ _)
  have HB0 := Lib.hid hB0
  clear HCST hR hB0 htx hlv hln
  go_enter Tryz.func25, Tryz.ntmps25
  go_wp2_with fail
  refine (C.out _ HB0.out).mono ?_
  rintro e w5 ⟨rfl, hb5⟩
  obtain ⟨_, hx5, hB5, _⟩ := KEEP.out w5 (hb5.mono (by rw [HSZ.out]; exact Nat.le_refl _))
  have HX := Lib.hid hx5
  have HB5 := Lib.hid hB5
  clear hb5 hx5 hB5 C KEEP HSZ HB0
  go_wp2_with (with_reducible refine wpList_store_row (o := Oper.mk none (Op.store 55 (.tmp 4) (.tmp 14)) _ _ _ none) rfl 55 (.tmp 4) (.tmp 14) rfl (w.heap.size + 1) #[.string o, .int .i64 rl, .bool ri] ?h0qx ?h0qy 55 _ HX.out ?h0qi ?h0qo ?h0q1 ?h0qk)
  (try case h0qx => rfl)
  (try case h0qy => rfl)
  (try case h0qi => first | kernel_rfl | (obtain ⟨i0, hi, _, h1, _⟩ := info_parts info_pr; exact ⟨i0, hi, h1⟩))
  (try case h0qo => rfl)
  (try case h0q1 => simp [Value.oneCell'])
  go_wp2_with fail
  have hld := box_pr (setRow_heap _ _ _ #[.string o, .int .i64 rl, .bool ri] _ _ HX.out)
  exact bodyPost_ret (v := .agg #[.string o, .int .i64 rl, .bool ri]) (by simp [results, Tryz.results25, Act.put, asAddr, hld]) rfl ⟨rfl, (HB5.out).grown (grown_setRow _ _ _) (HB5.out).size (fun z hz => by cases hz; omega)⟩
 rw [if_neg h0] at hR
 by_cases h1 : op = 1
 ·subst h1
  rw [if_pos rfl] at hR
  have hRR : pcV R = .agg #[.string nm, .int .i64 8, .bool false] := by rw [← hR]; unfold pcV; simp only; rw [mk_eq]
  rw [hRR]
  obtain ⟨_, hx5, hB5, _⟩ := KEEP.out _ (Below.refl _ _)
  have HX := Lib.hid hx5
  have HB5 := Lib.hid hB5
  clear HCST hR hB5 hx5 htx hlv hln KEEP HSZ hRR
  go_enter Tryz.func25, Tryz.ntmps25
  go_wp2_with (with_reducible refine wpList_store_row (o := Oper.mk none (Op.store 55 (.tmp 4) (.tmp 19)) _ _ _ none) rfl 55 (.tmp 4) (.tmp 19) rfl (w.heap.size + 1) #[.string nm, .int .i64 8, .bool false] ?h1qx ?h1qy 55 _ HX.out ?h1qi ?h1qo ?h1q1 ?h1qk)
  (try case h1qx => rfl)
  (try case h1qy => rfl)
  (try case h1qi => first | kernel_rfl | (obtain ⟨i0, hi, _, h1, _⟩ := info_parts info_pr; exact ⟨i0, hi, h1⟩))
  (try case h1qo => rfl)
  (try case h1q1 => simp [Value.oneCell'])
  go_wp2_with fail
  have hld := box_pr (setRow_heap _ _ _ #[.string nm, .int .i64 8, .bool false] _ _ HX.out)
  exact bodyPost_ret (v := .agg #[.string nm, .int .i64 8, .bool false]) (by simp [results, Tryz.results25, Act.put, asAddr, hld]) rfl ⟨rfl, (HB5.out).grown (grown_setRow _ _ _) (HB5.out).size (fun z hz => by cases hz; omega)⟩
 rw [if_neg h1] at hR
 have s32 : ∀ (o : ByteArray) (p : ByteArray), p.size ≤ 4 → o.size ≤ 900002 → ¬ (9223372036854775807 < p.size + o.size) := fun o p h1 h2 => by omega
 by_cases h2 : op = 2
 ·subst h2
  rw [if_pos rfl] at hR
  have hl1 : len = 1 := by unfold arN at hln; simp at hln; omega
  obtain ⟨_, hz0, hB0, hP0⟩ := KEEP.out _ (Below.refl _ _)
  obtain ⟨x, b0, o0, hx, rfl, hbl, c0, c1, c2⟩ := hP0.at (k := 0) (by omega)
  rw [List.getD_eq_getElem?_getD, hx, Option.getD_some] at hR
  have htx0 := htx 0
  rw [List.getD_eq_getElem?_getD, hx, Option.getD_some] at htx0
  simp only [Nat.zero_mul, Nat.add_zero] at c0 c1 c2
  have CE := Lib.hid (fun W => rat_any ⟨x.tx.toArray⟩ x.lv x.ig 2 W (by rw [size_mk]; omega))
  have hez : (encS ⟨x.tx.toArray⟩ x.lv 2).size ≤ 900002 := by rw [encS_bts, size_mk]; have := encL_len x 2; omega
  have hRR : pcV R = .agg #[.string (⟨#[110, 111, 116, 32]⟩ ++ encS ⟨x.tx.toArray⟩ x.lv 2), .int .i64 2, .bool false] := by
   have : (⟨#[110, 111, 116, 32]⟩ ++ encS ⟨x.tx.toArray⟩ x.lv 2 : ByteArray) = ⟨(bts notS ++ 32 :: encL x 2).toArray⟩ := by
    apply ext_bts
    rw [encS_bts, bts_app]
    rfl
   rw [← hR, this]
   rfl
  rw [hRR]
  generalize encS ⟨x.tx.toArray⟩ x.lv 2 = ex at *
  generalize (⟨x.tx.toArray⟩ : ByteArray) = sx at *
  obtain ⟨xt, xl, xi⟩ := x
  simp only at c1 c2 CE
  have s1 := s32 ex ⟨#[110, 111, 116, 32]⟩ (by decide) hez
  have hl1i : (0 : Int) < (len : Int) := by omega
  have HB0 := Lib.hid hB0
  clear HA HCST hR hRR htx hlv hln hP0 hx s32 hB0 htx0 hz0
  go_enter Tryz.func25, Tryz.ntmps25
  go_wp2_with fail
  refine (CE.out _).mono ?_
  rintro e w5 ⟨rfl, hb5⟩
  obtain ⟨_, hx5, hB5, _⟩ := KEEP.out w5 (hb5.mono (by rw [HSZ.out]; exact Nat.le_refl _))
  have HX := Lib.hid hx5
  have HB5 := Lib.hid hB5
  clear hb5 hx5 hB5 CE KEEP HSZ HB0 c0 c1 c2
  go_wp2_with (with_reducible refine wpList_store_row (o := Oper.mk none (Op.store 55 (.tmp 4) (.tmp 27)) _ _ _ none) rfl 55 (.tmp 4) (.tmp 27) rfl (w.heap.size + 1) #[.string (⟨#[110, 111, 116, 32]⟩ ++ ex), .int .i64 2, .bool false] ?h2qx ?h2qy 55 _ HX.out ?h2qi ?h2qo ?h2q1 ?h2qk)
  (try case h2qx => rfl)
  (try case h2qy => rfl)
  (try case h2qi => first | kernel_rfl | (obtain ⟨i0, hi, _, h1, _⟩ := info_parts info_pr; exact ⟨i0, hi, h1⟩))
  (try case h2qo => rfl)
  (try case h2q1 => simp [Value.oneCell'])
  go_wp2_with fail
  have hld := box_pr (setRow_heap _ _ _ #[.string (⟨#[110, 111, 116, 32]⟩ ++ ex), .int .i64 2, .bool false] _ _ HX.out)
  exact bodyPost_ret (v := .agg #[.string (⟨#[110, 111, 116, 32]⟩ ++ ex), .int .i64 2, .bool false]) (by simp [results, Tryz.results25, Act.put, asAddr, hld]) rfl ⟨rfl, (HB5.out).grown (grown_setRow _ _ _) (HB5.out).size (fun z hz => by cases hz; omega)⟩
 rw [if_neg h2] at hR
 by_cases h3 : op = 3
 ·subst h3
  rw [if_pos rfl] at hR
  have hl1 : len = 1 := by unfold arN at hln; simp at hln; omega
  obtain ⟨_, hz0, hB0, hP0⟩ := KEEP.out _ (Below.refl _ _)
  obtain ⟨x, b0, o0, hx, rfl, hbl, c0, c1, c2⟩ := hP0.at (k := 0) (by omega)
  rw [List.getD_eq_getElem?_getD, hx, Option.getD_some] at hR
  have htx0 := htx 0
  rw [List.getD_eq_getElem?_getD, hx, Option.getD_some] at htx0
  simp only [Nat.zero_mul, Nat.add_zero] at c0 c1 c2
  have hl1i : (0 : Int) < (len : Int) := by omega
  have HB0 := Lib.hid hB0
  have HX0 := Lib.hid hz0
  clear HA HCST htx hlv hln hP0 hx hB0 hz0
  cases hig : x.ig with
  | true =>
   rw [hig, if_pos rfl] at hR
   rw [hig] at c2
   have hRR : pcV R = .agg #[.string ((⟨#[45, 40]⟩ ++ ⟨x.tx.toArray⟩) ++ ⟨#[41]⟩), .int .i64 7, .bool false] := by
    have : ((⟨#[45, 40]⟩ ++ ⟨x.tx.toArray⟩) ++ ⟨#[41]⟩ : ByteArray) = ⟨(45 :: 40 :: (x.tx ++ [41])).toArray⟩ := by
     apply ext_bts
     rw [bts_app, bts_app]
     rfl
    rw [← hR, this]
    rfl
   rw [hRR]
   have hsx : (⟨x.tx.toArray⟩ : ByteArray).size ≤ 900000 := by rw [size_mk]; exact htx0
   generalize (⟨x.tx.toArray⟩ : ByteArray) = sx at *
   generalize x.lv = xl at *
   have s1 := s32 sx ⟨#[45, 40]⟩ (by decide) (by omega)
   have s2 : ¬ (9223372036854775807 < ((⟨#[45, 40]⟩ : ByteArray) ++ sx).size + (⟨#[41]⟩ : ByteArray).size) := by
    rw [ByteArray.size_append]
    show ¬ (9223372036854775807 < 2 + sx.size + 1)
    omega
   clear hR hRR s32 KEEP HSZ htx0 hig
   go_enter Tryz.func25, Tryz.ntmps25
   go_wp2_with (with_reducible refine wpList_store_row (o := Oper.mk none (Op.store 55 (.tmp 4) (.tmp 40)) _ _ _ none) rfl 55 (.tmp 4) (.tmp 40) rfl (w.heap.size + 1) #[.string ((⟨#[45, 40]⟩ ++ sx) ++ ⟨#[41]⟩), .int .i64 7, .bool false] ?h3qx ?h3qy 55 _ HX0.out ?h3qi ?h3qo ?h3q1 ?h3qk)
   (try case h3qx => rfl)
   (try case h3qy => rfl)
   (try case h3qi => first | kernel_rfl | (obtain ⟨i0, hi, _, h1, _⟩ := info_parts info_pr; exact ⟨i0, hi, h1⟩))
   (try case h3qo => rfl)
   (try case h3q1 => simp [Value.oneCell'])
   go_wp2_with fail
   have hld := box_pr (setRow_heap _ _ _ #[.string ((⟨#[45, 40]⟩ ++ sx) ++ ⟨#[41]⟩), .int .i64 7, .bool false] _ _ HX0.out)
   exact bodyPost_ret (v := .agg #[.string ((⟨#[45, 40]⟩ ++ sx) ++ ⟨#[41]⟩), .int .i64 7, .bool false]) (by simp [results, Tryz.results25, Act.put, asAddr, hld]) rfl ⟨rfl, (HB0.out).grown (grown_setRow _ _ _) (HB0.out).size (fun z hz => by cases hz; omega)⟩
  | false =>
   rw [hig, if_neg (by simp)] at hR
   have CE := Lib.hid (fun W => rat_any ⟨x.tx.toArray⟩ x.lv x.ig 7 W (by rw [size_mk]; omega))
   rw [hig] at c2 CE
   have hez : (encS ⟨x.tx.toArray⟩ x.lv 7).size ≤ 900002 := by rw [encS_bts, size_mk]; have := encL_len x 7; omega
   have hRR : pcV R = .agg #[.string (⟨#[45]⟩ ++ encS ⟨x.tx.toArray⟩ x.lv 7), .int .i64 7, .bool false] := by
    have : (⟨#[45]⟩ ++ encS ⟨x.tx.toArray⟩ x.lv 7 : ByteArray) = ⟨(45 :: encL x 7).toArray⟩ := by
     apply ext_bts
     rw [encS_bts, bts_app]
     rfl
    rw [← hR, this]
    rfl
   rw [hRR]
   generalize encS ⟨x.tx.toArray⟩ x.lv 7 = ex at *
   generalize (⟨x.tx.toArray⟩ : ByteArray) = sx at *
   generalize x.lv = xl at *
   have s1 := s32 ex ⟨#[45]⟩ (by decide) hez
   clear hR hRR s32 htx0 hig
   go_enter Tryz.func25, Tryz.ntmps25
   go_wp2_with fail
   refine (CE.out _).mono ?_
   rintro e w5 ⟨rfl, hb5⟩
   obtain ⟨_, hx5, hB5, _⟩ := KEEP.out w5 (hb5.mono (by rw [HSZ.out]; exact Nat.le_refl _))
   have HX := Lib.hid hx5
   have HB5 := Lib.hid hB5
   clear hb5 hx5 hB5 CE KEEP HSZ HB0 c0 c1 c2 HX0
   go_wp2_with (with_reducible refine wpList_store_row (o := Oper.mk none (Op.store 55 (.tmp 4) (.tmp 46)) _ _ _ none) rfl 55 (.tmp 4) (.tmp 46) rfl (w.heap.size + 1) #[.string (⟨#[45]⟩ ++ ex), .int .i64 7, .bool false] ?h4qx ?h4qy 55 _ HX.out ?h4qi ?h4qo ?h4q1 ?h4qk)
   (try case h4qx => rfl)
   (try case h4qy => rfl)
   (try case h4qi => first | kernel_rfl | (obtain ⟨i0, hi, _, h1, _⟩ := info_parts info_pr; exact ⟨i0, hi, h1⟩))
   (try case h4qo => rfl)
   (try case h4q1 => simp [Value.oneCell'])
   go_wp2_with fail
   have hld := box_pr (setRow_heap _ _ _ #[.string (⟨#[45]⟩ ++ ex), .int .i64 7, .bool false] _ _ HX.out)
   exact bodyPost_ret (v := .agg #[.string (⟨#[45]⟩ ++ ex), .int .i64 7, .bool false]) (by simp [results, Tryz.results25, Act.put, asAddr, hld]) rfl ⟨rfl, (HB5.out).grown (grown_setRow _ _ _) (HB5.out).size (fun z hz => by cases hz; omega)⟩
 rw [if_neg h3] at hR
 by_cases hbin : 4 ≤ op ∧ op ≤ 15
 ·rw [if_pos hbin] at hR
  have hl2 : len = 2 := by
   unfold arN at hln
   simp only at hln
   rw [if_neg (by omega), if_neg (by omega), if_neg (by omega), if_neg (by omega), if_pos (by omega)] at hln
   omega
  obtain ⟨⟨k0, _, _, _, _, _⟩, hz0, hB0, hP0⟩ := KEEP.out _ (Below.refl _ _)
  obtain ⟨x, b0, o0, hx, rfl, hbl, c0, c1, c2⟩ := hP0.at (k := 0) (by omega)
  obtain ⟨y, b1, o1, hy, hb1, _, d0, d1, d2⟩ := hP0.at (k := 1) (by omega)
  cases hb1
  have hbw : b0 < w.heap.size := HA.out _ _ _ rfl hx
  have htx0 := htx 0
  have htx1 := htx 1
  rw [List.getD_eq_getElem?_getD, hx, Option.getD_some] at htx0
  rw [List.getD_eq_getElem?_getD, hy, Option.getD_some] at htx1
  rw [List.getD_eq_getElem?_getD, hx, Option.getD_some, List.getD_eq_getElem?_getD, hy, Option.getD_some] at hR
  simp only [Nat.zero_mul, Nat.add_zero, Nat.one_mul] at c0 c1 c2 d0 d1 d2
  have CI := Lib.hid (fun W => rbinary_any op hbin x y W (by omega) (by omega))
  rw [hR] at CI
  unfold pcV at CI ⊢
  obtain ⟨rt, rl, ri⟩ := R
  simp only at CI ⊢
  generalize (⟨rt.toArray⟩ : ByteArray) = o at *
  generalize (⟨x.tx.toArray⟩ : ByteArray) = sx at *
  generalize (⟨y.tx.toArray⟩ : ByteArray) = sy at *
  obtain ⟨xt, xl, xi⟩ := x
  obtain ⟨yt, yl, yi⟩ := y
  simp only at c1 c2 d1 d2 CI
  have i0 : (0 : Int) < (len : Int) := by omega
  have i1 : (1 : Int) < (len : Int) := by omega
  have i2 : 0 < len := by omega
  have i3 : 1 < len := by omega
  have HB0 := Lib.hid hB0
  have q0 : (op == 0) = false := by simpa using h0
  have q1 : (op == 1) = false := by simpa using h1
  have q2 : (op == 2) = false := by simpa using h2
  have q3 : (op == 3) = false := by simpa using h3
  have q16 : (op == 16) = false := by simpa using (by omega : ¬ op = 16)
  have q17 : (op == 17) = false := by simpa using (by omega : ¬ op = 17)
  have q18 : (op == 18) = false := by simpa using (by omega : ¬ op = 18)
  have q19 : (op == 19) = false := by simpa using (by omega : ¬ op = 19)
  have q20 : (op == 20) = false := by simpa using (by omega : ¬ op = 20)
  have q21 : (op == 21) = false := by simpa using (by omega : ¬ op = 21)
  have HS := Lib.hid (show ((w.alloc (.cells #[.int .i64 op, .int .i64 vk, .int .i64 vn, .string vs, .string nm, .int .i64 ar] 53)).alloc (.cells #[.string ⟨#[]⟩, .int .i64 0, .bool false] 55)).drew.cell? ⟨b0, o0, none⟩ = some (.string sx) ∧ ((w.alloc (.cells #[.int .i64 op, .int .i64 vk, .int .i64 vn, .string vs, .string nm, .int .i64 ar] 53)).alloc (.cells #[.string ⟨#[]⟩, .int .i64 0, .bool false] 55)).drew.cell? ⟨b0, o0 + 1, none⟩ = some (.int .i64 xl) ∧ ((w.alloc (.cells #[.int .i64 op, .int .i64 vk, .int .i64 vn, .string vs, .string nm, .int .i64 ar] 53)).alloc (.cells #[.string ⟨#[]⟩, .int .i64 0, .bool false] 55)).drew.cell? ⟨b0, o0 + 2, none⟩ = some (.bool xi) ∧ ((w.alloc (.cells #[.int .i64 op, .int .i64 vk, .int .i64 vn, .string vs, .string nm, .int .i64 ar] 53)).alloc (.cells #[.string ⟨#[]⟩, .int .i64 0, .bool false] 55)).drew.cell? ⟨b0, o0 + 3, none⟩ = some (.string sy) ∧ ((w.alloc (.cells #[.int .i64 op, .int .i64 vk, .int .i64 vn, .string vs, .string nm, .int .i64 ar] 53)).alloc (.cells #[.string ⟨#[]⟩, .int .i64 0, .bool false] 55)).drew.cell? ⟨b0, o0 + 3 + 1, none⟩ = some (.int .i64 yl) ∧ ((w.alloc (.cells #[.int .i64 op, .int .i64 vk, .int .i64 vn, .string vs, .string nm, .int .i64 ar] 53)).alloc (.cells #[.string ⟨#[]⟩, .int .i64 0, .bool false] 55)).drew.cell? ⟨b0, o0 + 3 + 2, none⟩ = some (.bool yi) ∧ ((w.alloc (.cells #[.int .i64 op, .int .i64 vk, .int .i64 vn, .string vs, .string nm, .int .i64 ar] 53)).alloc (.cells #[.string ⟨#[]⟩, .int .i64 0, .bool false] 55)).drew.cell? ⟨w.heap.size, 0, none⟩ = some (.int .i64 op) ∧ Below (w.heap.size + 1) ((w.alloc (.cells #[.int .i64 op, .int .i64 vk, .int .i64 vn, .string vs, .string nm, .int .i64 ar] 53)).alloc (.cells #[.string ⟨#[]⟩, .int .i64 0, .bool false] 55)) ((w.alloc (.cells #[.int .i64 op, .int .i64 vk, .int .i64 vn, .string vs, .string nm, .int .i64 ar] 53)).alloc (.cells #[.string ⟨#[]⟩, .int .i64 0, .bool false] 55)).drew from ⟨c0, c1, c2, d0, d1, d2, k0, (Below.refl _ _).drew⟩)
  have HZB := Lib.hid (show Box3 ((w.alloc (.cells #[.int .i64 op, .int .i64 vk, .int .i64 vn, .string vs, .string nm, .int .i64 ar] 53)).alloc (.cells #[.string ⟨#[]⟩, .int .i64 0, .bool false] 55)).drew (w.heap.size + 1) (.string ⟨#[]⟩) (.int .i64 0) (.bool false) 55 from ⟨hz0⟩)
  clear HA HCST hR htx hlv hln hP0 hx hy s32 hB0 htx0 htx1 KEEP hbl h0 h1 h2 h3 hz0 k0
  go_enter Tryz.func25, Tryz.ntmps25
  go_wp2_with fail
  generalize hW0 : ((w.alloc (.cells #[.int .i64 op, .int .i64 vk, .int .i64 vn, .string vs, .string nm, .int .i64 ar] 53)).alloc (.cells #[.string ⟨#[]⟩, .int .i64 0, .bool false] 55)) = W0 at *
  have hsz : w.heap.size + 1 < W0.drew.heap.size ∧ b0 < w.heap.size := ⟨by show _ < W0.heap.size; rw [HSZ.out]; omega, hbw⟩
  have hS0 := HS.out
  have hzb := HZB.out
  have z0 := hzb.c0
  have z1 := hzb.c1
  have z2 := hzb.c2
  have zf := hzb.free
  clear HS HZB hW0 HSZ c0 c1 c2 d0 d1 d2
  go_region_held3 (fun w' => w'.cell? ⟨b0, o0, none⟩ = some (.string sx) ∧ w'.cell? ⟨b0, o0 + 1, none⟩ = some (.int .i64 xl) ∧ w'.cell? ⟨b0, o0 + 2, none⟩ = some (.bool xi) ∧ w'.cell? ⟨b0, o0 + 3, none⟩ = some (.string sy) ∧ w'.cell? ⟨b0, o0 + 3 + 1, none⟩ = some (.int .i64 yl) ∧ w'.cell? ⟨b0, o0 + 3 + 2, none⟩ = some (.bool yi) ∧ w'.cell? ⟨w.heap.size, 0, none⟩ = some (.int .i64 op) ∧ Below (w.heap.size + 1) W0 w')
   (first | with_reducible exact hS0 | exact keepRw (by assumption) (by assumption) hcall | exact keepRwSt (by assumption) (by assumption))
   (first
    | (go_at_call 44; refine (CI.out _).mono ?_; rintro e w' ⟨rfl, hcall⟩; have hsz := And.intro (Nat.lt_of_lt_of_le hsz.1 hcall.size) hsz.2; have hzb := Box3.keep (by assumption) hcall; have z0 := hzb.c0; have z1 := hzb.c1; have z2 := hzb.c2; have zf := hzb.free))
  all_goals
   obtain ⟨_, _, _, _, _, _, _, hB⟩ := ‹_ ∧ _ ∧ _ ∧ _ ∧ _ ∧ _ ∧ _ ∧ Below _ _ _›
   have HF := Lib.hid (HB0.out.trans (hB.mono (by omega)))
   have hld := box_pr (Box3.store (x' := .string o) (y' := .int .i64 rl) (z' := .bool ri) hzb).block
   clear hB
   go_wp2_with fail
   exact bodyPost_ret (v := .agg #[.string o, .int .i64 rl, .bool ri]) (by simp [results, Tryz.results25, Act.put, asAddr, hld]) rfl ⟨rfl, HF.out⟩
 rw [if_neg hbin] at hR
 by_cases h20 : op = 20
 ·subst h20
  rw [if_pos rfl] at hR
  have hl1 : len = 1 := by unfold arN at hln; simp at hln; omega
  obtain ⟨⟨_, _, _, _, k4, _⟩, hz0, hB0, hP0⟩ := KEEP.out _ (Below.refl _ _)
  obtain ⟨x, b0, o0, hx, rfl, hbl, c0, c1, c2⟩ := hP0.at (k := 0) (by omega)
  have hbw : b0 < w.heap.size := HA.out _ _ _ rfl hx
  have hxs : xs = [x] := by
   obtain ⟨z, hz⟩ : ∃ z, xs = [z] := List.length_eq_one_iff.1 (by omega)
   rw [hz] at hx ⊢
   simpa using hx
  rw [hxs] at hR
  have htx0 := htx 0
  rw [List.getD_eq_getElem?_getD, hx, Option.getD_some] at htx0
  simp only [Nat.zero_mul, Nat.add_zero] at c0 c1 c2
  have hRR : pcV R = .agg #[.string ((((⟨#[100, 97, 121, 40]⟩ ++ ⟨x.tx.toArray⟩) ++ ⟨#[44, 32]⟩) ++ nm) ++ ⟨#[41]⟩), .int .i64 8, .bool false] := by
   have : ((((⟨#[100, 97, 121, 40]⟩ ++ ⟨x.tx.toArray⟩) ++ ⟨#[44, 32]⟩) ++ nm) ++ ⟨#[41]⟩ : ByteArray) = ⟨(bts dayS ++ 40 :: (comL [x.tx, bts nm] ++ [41])).toArray⟩ := by
    apply ext_bts
    rw [bts_app, bts_app, bts_app, bts_app]
    have e : comL [x.tx, bts nm] = x.tx ++ 44 :: 32 :: bts nm := by
     have h := comL_push [x.tx] (bts nm)
     rw [if_neg (by simp)] at h
     refine h.trans ?_
     rw [show comL [x.tx] = x.tx from Lib.join_one x.tx _]
    rw [e]
    show [100, 97, 121, 40] ++ x.tx ++ [44, 32] ++ bts nm ++ [41] = [100, 97, 121] ++ 40 :: ((x.tx ++ 44 :: 32 :: bts nm) ++ [41])
    simp
   rw [← hR, this]
   rfl
  rw [hRR]
  have hsx : (⟨x.tx.toArray⟩ : ByteArray).size ≤ 900000 := by rw [size_mk]; exact htx0
  generalize (⟨x.tx.toArray⟩ : ByteArray) = sx at *
  have r1 : 4 + sx.size ≤ 9223372036854775807 := by omega
  have r2 : 4 + sx.size + 2 ≤ 9223372036854775807 := by omega
  have r3 : 4 + sx.size + 2 + nm.size ≤ 9223372036854775807 := by omega
  have r4 : 4 + sx.size + 2 + nm.size + 1 ≤ 9223372036854775807 := by omega
  have t1 : ¬ (9223372036854775807 < 4 + sx.size) := by omega
  have t2 : ¬ (9223372036854775807 < 4 + sx.size + 2) := by omega
  have t3 : ¬ (9223372036854775807 < 4 + sx.size + 2 + nm.size) := by omega
  have t4 : ¬ (9223372036854775807 < 4 + sx.size + 2 + nm.size + 1) := by omega
  have s1 : ¬ (9223372036854775807 < (⟨#[100, 97, 121, 40]⟩ : ByteArray).size + sx.size) := by show ¬ (9223372036854775807 < 4 + sx.size); omega
  have s2 : ¬ (9223372036854775807 < ((⟨#[100, 97, 121, 40]⟩ : ByteArray) ++ sx).size + (⟨#[44, 32]⟩ : ByteArray).size) := by
   rw [ByteArray.size_append]
   show ¬ (9223372036854775807 < 4 + sx.size + 2)
   omega
  have s3 : ¬ (9223372036854775807 < (((⟨#[100, 97, 121, 40]⟩ : ByteArray) ++ sx) ++ (⟨#[44, 32]⟩ : ByteArray)).size + nm.size) := by
   rw [ByteArray.size_append, ByteArray.size_append]
   show ¬ (9223372036854775807 < 4 + sx.size + 2 + nm.size)
   omega
  have s4 : ¬ (9223372036854775807 < ((((⟨#[100, 97, 121, 40]⟩ : ByteArray) ++ sx) ++ (⟨#[44, 32]⟩ : ByteArray)) ++ nm).size + (⟨#[41]⟩ : ByteArray).size) := by
   rw [ByteArray.size_append, ByteArray.size_append, ByteArray.size_append]
   show ¬ (9223372036854775807 < 4 + sx.size + 2 + nm.size + 1)
   omega
  have hl1i : (0 : Int) < (len : Int) := by omega
  have hl1n : 0 < len := by omega
  have HB0 := Lib.hid hB0
  have HS := Lib.hid (show ((w.alloc (.cells #[.int .i64 20, .int .i64 vk, .int .i64 vn, .string vs, .string nm, .int .i64 ar] 53)).alloc (.cells #[.string ⟨#[]⟩, .int .i64 0, .bool false] 55)).drew.cell? ⟨b0, o0, none⟩ = some (.string sx) ∧ ((w.alloc (.cells #[.int .i64 20, .int .i64 vk, .int .i64 vn, .string vs, .string nm, .int .i64 ar] 53)).alloc (.cells #[.string ⟨#[]⟩, .int .i64 0, .bool false] 55)).drew.cell? ⟨w.heap.size, 4, none⟩ = some (.string nm) ∧ Below (w.heap.size + 1) ((w.alloc (.cells #[.int .i64 20, .int .i64 vk, .int .i64 vn, .string vs, .string nm, .int .i64 ar] 53)).alloc (.cells #[.string ⟨#[]⟩, .int .i64 0, .bool false] 55)) ((w.alloc (.cells #[.int .i64 20, .int .i64 vk, .int .i64 vn, .string vs, .string nm, .int .i64 ar] 53)).alloc (.cells #[.string ⟨#[]⟩, .int .i64 0, .bool false] 55)).drew from ⟨c0, k4, (Below.refl _ _).drew⟩)
  have HZB := Lib.hid (show Box3 ((w.alloc (.cells #[.int .i64 20, .int .i64 vk, .int .i64 vn, .string vs, .string nm, .int .i64 ar] 53)).alloc (.cells #[.string ⟨#[]⟩, .int .i64 0, .bool false] 55)).drew (w.heap.size + 1) (.string ⟨#[]⟩) (.int .i64 0) (.bool false) 55 from ⟨hz0⟩)
  clear HA HCST hR hRR htx hlv hln hP0 hx s32 hB0 htx0 hz0 KEEP hbl hxs c1 c2 k4 hsx
  go_enter Tryz.func25, Tryz.ntmps25
  go_wp2_with fail
  generalize hW0 : ((w.alloc (.cells #[.int .i64 20, .int .i64 vk, .int .i64 vn, .string vs, .string nm, .int .i64 ar] 53)).alloc (.cells #[.string ⟨#[]⟩, .int .i64 0, .bool false] 55)) = W0 at *
  obtain ⟨hS0, hS1, _⟩ := HS.out
  have HX5 := Lib.hid HZB.out.block
  have HB5 := Lib.hid (show Below w.heap.size w W0.drew from HB0.out.drew)
  clear HS HZB hW0 c0 HSZ HB0
  go_still_tail 11, (by kernel_rfl)
  change wpList _ _ _ _ _ W0.drew
  go_wp2_with (with_reducible refine wpList_store_row (o := Oper.mk none (Op.store 55 (.tmp 4) (.tmp 59)) _ _ _ none) rfl 55 (.tmp 4) (.tmp 59) rfl (w.heap.size + 1) #[.string ((((⟨#[100, 97, 121, 40]⟩ ++ sx) ++ ⟨#[44, 32]⟩) ++ nm) ++ ⟨#[41]⟩), .int .i64 8, .bool false] ?h5qx ?h5qy 55 _ HX5.out ?h5qi ?h5qo ?h5q1 ?h5qk)
  (try case h5qx => rfl)
  (try case h5qy => rfl)
  (try case h5qi => first | kernel_rfl | (obtain ⟨i0, hi, _, h1, _⟩ := info_parts info_pr; exact ⟨i0, hi, h1⟩))
  (try case h5qo => rfl)
  (try case h5q1 => simp [Value.oneCell'])
  go_wp2_with fail
  have hld := box_pr (setRow_heap _ _ _ #[.string ((((⟨#[100, 97, 121, 40]⟩ ++ sx) ++ ⟨#[44, 32]⟩) ++ nm) ++ ⟨#[41]⟩), .int .i64 8, .bool false] _ _ HX5.out)
  exact bodyPost_ret (v := .agg #[.string ((((⟨#[100, 97, 121, 40]⟩ ++ sx) ++ ⟨#[44, 32]⟩) ++ nm) ++ ⟨#[41]⟩), .int .i64 8, .bool false]) (by simp [results, Tryz.results25, Act.put, asAddr, hld]) rfl ⟨rfl, (HB5.out).grown (grown_setRow _ _ _) (HB5.out).size (fun z hz => by cases hz; omega)⟩
 rw [if_neg h20] at hR
 rw [List.append_nil] at hR
 obtain ⟨_, hz0, hB0, hP0⟩ := KEEP.out _ (Below.refl _ _)
 obtain ⟨ls, hls⟩ : ∃ ls, xs.map (·.tx) = ls := ⟨_, rfl⟩
 have hll : ls.length = len := by rw [← hls, List.length_map]; exact hxl
 have HCT := Lib.hid (fun (k : Nat) (x : List UInt8) (h : ls[k]? = some x) => comL_take h)
 have HCL := Lib.hid (fun k => show (comL (ls.take k)).length ≤ 900100 from by have := comL_take_le ls k xs hls.symm; omega)
 have HXS := Lib.hid (fun (k : Nat) (x : Pc) (h : xs[k]? = some x) => show ls[k]? = some x.tx from by rw [← hls, List.getElem?_map, h]; rfl)
 rw [hls] at hR
 have hcl : comL (ls.take len) = comL ls := by rw [List.take_of_length_le (by omega)]
 rw [← hcl] at hR
 have hlen8 : len ≤ 8 := by omega
 have HP0 := Lib.hid hP0
 have HB0 := Lib.hid hB0
 have HX0 := Lib.hid hz0
 have hc : op = 16 ∨ op = 17 ∨ op = 18 ∨ op = 19 ∨ op = 21 := by omega
 clear HA HCST htx hlv hln hP0 hB0 hz0 s32 KEEP HSZ hcl hls h0 h1 h2 h3 hbin h20 hops
 rcases hc with rfl | rfl | rfl | rfl | rfl
 ·have hfn : fnS ⟨16, ⟨vk, vn, vs⟩, nm, ar⟩ = ⟨#[105, 115, 110, 117, 108, 108]⟩ := rfl
  rw [hfn] at hR
  have hfz : (⟨#[105, 115, 110, 117, 108, 108]⟩ : ByteArray).size ≤ 1000000 := by decide
  obtain ⟨fb, hfb⟩ : ∃ fb : ByteArray, ⟨#[105, 115, 110, 117, 108, 108]⟩ = fb := ⟨_, rfl⟩
  have HFB := Lib.hid hfb
  rw [hfb] at hR hfz
  have HR := Lib.hid hR
  have s0 : ¬ (9223372036854775807 < fb.size + (⟨#[40]⟩ : ByteArray).size) := by show ¬ (9223372036854775807 < fb.size + 1); omega
  rw [← hfb] at s0
  clear hR hfn
  go_enter Tryz.func25, Tryz.ntmps25
  go_wp2_with fail
  generalize hW0 : ((w.alloc (.cells #[.int .i64 16, .int .i64 vk, .int .i64 vn, .string vs, .string nm, .int .i64 ar] 53)).alloc (.cells #[.string ⟨#[]⟩, .int .i64 0, .bool false] 55)) = W0 at *
  go_loopw [6, 7] (fun sv iv wr => ∃ (k : Nat) (s : ByteArray), k ≤ len ∧ iv = .int .i64 k ∧ sv = .string s ∧ Hid (bts s = bts fb ++ 40 :: comL (ls.take k)) ∧ wr = W0) (fun _ iv _ => len - (intOf iv).toNat)
  case atStart => exact ⟨0, _, Nat.zero_le _, rfl, rfl, (by show _ = _; rw [bts_app]; first | rfl | (rw [HFB.out]; rfl) | (rw [← HFB.out]; rfl)), rfl⟩
  case round =>
   obtain ⟨k, s, hk, rfl, rfl, HSX, rfl⟩ := hrel
   have hss : s.size ≤ 2000000 := by
    have h1 := congrArg List.length HSX.out
    have h2 := HCL.out k
    rw [bts_length] at h1
    simp only [List.length_append, List.length_cons, bts_length] at h1
    omega
   by_cases hlt : k < len
   ·obtain ⟨x, b, off, hx, rfl, hbl, c0, c1, c2⟩ := HP0.out.at hlt
    have hxk := HXS.out k x hx
    have hct := HCT.out k x.tx hxk
    have hxz := HCL.out (k + 1)
    have hki : (k : Int) < (len : Int) := by omega
    have htz : (⟨x.tx.toArray⟩ : ByteArray).size ≤ 900100 := by
     rw [size_mk]
     have h3 := congrArg List.length hct
     by_cases hk0 : k = 0
     ·rw [if_pos hk0] at h3; omega
     ·rw [if_neg hk0] at h3; simp only [List.length_append, List.length_cons] at h3; omega
    have HNX : Hid (∀ t : ByteArray, t = ⟨x.tx.toArray⟩ → (k = 0 → bts (s ++ t) = bts fb ++ 40 :: comL (ls.take (k + 1))) ∧ (¬ k = 0 → bts ((s ++ ⟨#[44, 32]⟩) ++ t) = bts fb ++ 40 :: comL (ls.take (k + 1)))) := fun t ht => by
     refine ⟨fun hk0 => ?_, fun hk0 => ?_⟩
     ·rw [bts_app, HSX.out, hct, if_pos hk0, ht, hk0]
      show _ ++ x.tx = _
      simp [comL, Lib.join_nil]
     ·rw [bts_app, bts_app, HSX.out, hct, if_neg hk0, ht]
      show bts fb ++ 40 :: comL (ls.take k) ++ [44, 32] ++ x.tx = _
      simp
    obtain ⟨t, ht⟩ : ∃ t : ByteArray, t = ⟨x.tx.toArray⟩ := ⟨_, rfl⟩
    rw [← ht] at c0 htz
    have HNX2 := Lib.hid (HNX.out t ht)
    clear HNX hct hx hxk hxz ht c1 c2
    by_cases hk0 : k = 0
    ·have HN := Lib.hid (HNX2.out.1 hk0)
     subst hk0
     simp only [Nat.zero_mul, Nat.add_zero] at c0
     have s1 : ¬ (9223372036854775807 < s.size + t.size) := by omega
     clear HNX2 HSX
     go_wp2_with fail
     go_roundw
     case rel => exact ⟨1, _, by omega, by go_num, rfl, HN, by first | rfl | trivial⟩
     case measure => simp [intOf]; omega
    ·have HN := Lib.hid (HNX2.out.2 hk0)
     have hk0i : (0 : Int) < (k : Int) := by omega
     have s1 : ¬ (9223372036854775807 < s.size + (⟨#[44, 32]⟩ : ByteArray).size) := by show ¬ (9223372036854775807 < s.size + 2); omega
     have s2 : ¬ (9223372036854775807 < (s ++ (⟨#[44, 32]⟩ : ByteArray)).size + t.size) := by
      rw [ByteArray.size_append]
      show ¬ (9223372036854775807 < s.size + 2 + t.size)
      omega
     clear HNX2 HSX
     go_wp2_with fail
     go_roundw
     case rel => exact ⟨k + 1, _, by omega, by go_num, rfl, HN, by first | rfl | trivial⟩
     case measure => simp [intOf]; omega
   ·obtain rfl : k = len := by omega
    have hki : ¬ (k : Int) < (k : Int) := by omega
    have s1 : ¬ (9223372036854775807 < s.size + (⟨#[41]⟩ : ByteArray).size) := by show ¬ (9223372036854775807 < s.size + 1); omega
    have hRR : pcV R = .agg #[.string (s ++ ⟨#[41]⟩), .int .i64 8, .bool false] := by
     have : (s ++ ⟨#[41]⟩ : ByteArray) = ⟨(bts fb ++ 40 :: (comL (ls.take k) ++ [41])).toArray⟩ := by
      apply ext_bts
      rw [bts_app, HSX.out]
      show bts fb ++ 40 :: comL (ls.take k) ++ [41] = _
      simp
      rfl
     rw [← HR.out, this]
     rfl
    have HRR := Lib.hid hRR
    clear hRR HSX
    go_wp2_with (with_reducible refine wpList_store_row (o := Oper.mk none (Op.store 55 (.tmp 4) (.tmp 104)) _ _ _ none) rfl 55 (.tmp 4) (.tmp 104) rfl (w.heap.size + 1) #[.string (s ++ ⟨#[41]⟩), .int .i64 8, .bool false] ?h6qx ?h6qy 55 _ HX0.out ?h6qi ?h6qo ?h6q1 ?h6qk)
    (try case h6qx => rfl)
    (try case h6qy => rfl)
    (try case h6qi => first | kernel_rfl | (obtain ⟨i0, hi, _, h1, _⟩ := info_parts info_pr; exact ⟨i0, hi, h1⟩))
    (try case h6qo => rfl)
    (try case h6q1 => simp [Value.oneCell'])
    go_wp2_with fail
    have hld := box_pr (setRow_heap _ _ _ #[.string (s ++ ⟨#[41]⟩), .int .i64 8, .bool false] _ _ HX0.out)
    (try simp only [Exit.inBlock, Exit.then])
    exact bodyPost_ret (v := pcV R) (by rw [HRR.out]; simp [results, Tryz.results25, Act.put, asAddr, hld]) rfl ⟨rfl, (HB0.out).grown (grown_setRow _ _ _) (HB0.out).size (fun z hz => by cases hz; omega)⟩
 ·have hfn : fnS ⟨17, ⟨vk, vn, vs⟩, nm, ar⟩ = ⟨#[105, 102]⟩ := rfl
  rw [hfn] at hR
  have hfz : (⟨#[105, 102]⟩ : ByteArray).size ≤ 1000000 := by decide
  obtain ⟨fb, hfb⟩ : ∃ fb : ByteArray, ⟨#[105, 102]⟩ = fb := ⟨_, rfl⟩
  have HFB := Lib.hid hfb
  rw [hfb] at hR hfz
  have HR := Lib.hid hR
  have s0 : ¬ (9223372036854775807 < fb.size + (⟨#[40]⟩ : ByteArray).size) := by show ¬ (9223372036854775807 < fb.size + 1); omega
  rw [← hfb] at s0
  clear hR hfn
  go_enter Tryz.func25, Tryz.ntmps25
  go_wp2_with fail
  generalize hW0 : ((w.alloc (.cells #[.int .i64 17, .int .i64 vk, .int .i64 vn, .string vs, .string nm, .int .i64 ar] 53)).alloc (.cells #[.string ⟨#[]⟩, .int .i64 0, .bool false] 55)) = W0 at *
  go_loopw [6, 7] (fun sv iv wr => ∃ (k : Nat) (s : ByteArray), k ≤ len ∧ iv = .int .i64 k ∧ sv = .string s ∧ Hid (bts s = bts fb ++ 40 :: comL (ls.take k)) ∧ wr = W0) (fun _ iv _ => len - (intOf iv).toNat)
  case atStart => exact ⟨0, _, Nat.zero_le _, rfl, rfl, (by show _ = _; rw [bts_app]; first | rfl | (rw [HFB.out]; rfl) | (rw [← HFB.out]; rfl)), rfl⟩
  case round =>
   obtain ⟨k, s, hk, rfl, rfl, HSX, rfl⟩ := hrel
   have hss : s.size ≤ 2000000 := by
    have h1 := congrArg List.length HSX.out
    have h2 := HCL.out k
    rw [bts_length] at h1
    simp only [List.length_append, List.length_cons, bts_length] at h1
    omega
   by_cases hlt : k < len
   ·obtain ⟨x, b, off, hx, rfl, hbl, c0, c1, c2⟩ := HP0.out.at hlt
    have hxk := HXS.out k x hx
    have hct := HCT.out k x.tx hxk
    have hxz := HCL.out (k + 1)
    have hki : (k : Int) < (len : Int) := by omega
    have htz : (⟨x.tx.toArray⟩ : ByteArray).size ≤ 900100 := by
     rw [size_mk]
     have h3 := congrArg List.length hct
     by_cases hk0 : k = 0
     ·rw [if_pos hk0] at h3; omega
     ·rw [if_neg hk0] at h3; simp only [List.length_append, List.length_cons] at h3; omega
    have HNX : Hid (∀ t : ByteArray, t = ⟨x.tx.toArray⟩ → (k = 0 → bts (s ++ t) = bts fb ++ 40 :: comL (ls.take (k + 1))) ∧ (¬ k = 0 → bts ((s ++ ⟨#[44, 32]⟩) ++ t) = bts fb ++ 40 :: comL (ls.take (k + 1)))) := fun t ht => by
     refine ⟨fun hk0 => ?_, fun hk0 => ?_⟩
     ·rw [bts_app, HSX.out, hct, if_pos hk0, ht, hk0]
      show _ ++ x.tx = _
      simp [comL, Lib.join_nil]
     ·rw [bts_app, bts_app, HSX.out, hct, if_neg hk0, ht]
      show bts fb ++ 40 :: comL (ls.take k) ++ [44, 32] ++ x.tx = _
      simp
    obtain ⟨t, ht⟩ : ∃ t : ByteArray, t = ⟨x.tx.toArray⟩ := ⟨_, rfl⟩
    rw [← ht] at c0 htz
    have HNX2 := Lib.hid (HNX.out t ht)
    clear HNX hct hx hxk hxz ht c1 c2
    by_cases hk0 : k = 0
    ·have HN := Lib.hid (HNX2.out.1 hk0)
     subst hk0
     simp only [Nat.zero_mul, Nat.add_zero] at c0
     have s1 : ¬ (9223372036854775807 < s.size + t.size) := by omega
     clear HNX2 HSX
     go_wp2_with fail
     go_roundw
     case rel => exact ⟨1, _, by omega, by go_num, rfl, HN, by first | rfl | trivial⟩
     case measure => simp [intOf]; omega
    ·have HN := Lib.hid (HNX2.out.2 hk0)
     have hk0i : (0 : Int) < (k : Int) := by omega
     have s1 : ¬ (9223372036854775807 < s.size + (⟨#[44, 32]⟩ : ByteArray).size) := by show ¬ (9223372036854775807 < s.size + 2); omega
     have s2 : ¬ (9223372036854775807 < (s ++ (⟨#[44, 32]⟩ : ByteArray)).size + t.size) := by
      rw [ByteArray.size_append]
      show ¬ (9223372036854775807 < s.size + 2 + t.size)
      omega
     clear HNX2 HSX
     go_wp2_with fail
     go_roundw
     case rel => exact ⟨k + 1, _, by omega, by go_num, rfl, HN, by first | rfl | trivial⟩
     case measure => simp [intOf]; omega
   ·obtain rfl : k = len := by omega
    have hki : ¬ (k : Int) < (k : Int) := by omega
    have s1 : ¬ (9223372036854775807 < s.size + (⟨#[41]⟩ : ByteArray).size) := by show ¬ (9223372036854775807 < s.size + 1); omega
    have hRR : pcV R = .agg #[.string (s ++ ⟨#[41]⟩), .int .i64 8, .bool false] := by
     have : (s ++ ⟨#[41]⟩ : ByteArray) = ⟨(bts fb ++ 40 :: (comL (ls.take k) ++ [41])).toArray⟩ := by
      apply ext_bts
      rw [bts_app, HSX.out]
      show bts fb ++ 40 :: comL (ls.take k) ++ [41] = _
      simp
      rfl
     rw [← HR.out, this]
     rfl
    have HRR := Lib.hid hRR
    clear hRR HSX
    go_wp2_with (with_reducible refine wpList_store_row (o := Oper.mk none (Op.store 55 (.tmp 4) (.tmp 104)) _ _ _ none) rfl 55 (.tmp 4) (.tmp 104) rfl (w.heap.size + 1) #[.string (s ++ ⟨#[41]⟩), .int .i64 8, .bool false] ?h7qx ?h7qy 55 _ HX0.out ?h7qi ?h7qo ?h7q1 ?h7qk)
    (try case h7qx => rfl)
    (try case h7qy => rfl)
    (try case h7qi => first | kernel_rfl | (obtain ⟨i0, hi, _, h1, _⟩ := info_parts info_pr; exact ⟨i0, hi, h1⟩))
    (try case h7qo => rfl)
    (try case h7q1 => simp [Value.oneCell'])
    go_wp2_with fail
    have hld := box_pr (setRow_heap _ _ _ #[.string (s ++ ⟨#[41]⟩), .int .i64 8, .bool false] _ _ HX0.out)
    (try simp only [Exit.inBlock, Exit.then])
    exact bodyPost_ret (v := pcV R) (by rw [HRR.out]; simp [results, Tryz.results25, Act.put, asAddr, hld]) rfl ⟨rfl, (HB0.out).grown (grown_setRow _ _ _) (HB0.out).size (fun z hz => by cases hz; omega)⟩
 ·have hfn : fnS ⟨18, ⟨vk, vn, vs⟩, nm, ar⟩ = ⟨#[99, 111, 97, 108, 101, 115, 99, 101]⟩ := rfl
  rw [hfn] at hR
  have hfz : (⟨#[99, 111, 97, 108, 101, 115, 99, 101]⟩ : ByteArray).size ≤ 1000000 := by decide
  obtain ⟨fb, hfb⟩ : ∃ fb : ByteArray, ⟨#[99, 111, 97, 108, 101, 115, 99, 101]⟩ = fb := ⟨_, rfl⟩
  have HFB := Lib.hid hfb
  rw [hfb] at hR hfz
  have HR := Lib.hid hR
  have s0 : ¬ (9223372036854775807 < fb.size + (⟨#[40]⟩ : ByteArray).size) := by show ¬ (9223372036854775807 < fb.size + 1); omega
  rw [← hfb] at s0
  clear hR hfn
  go_enter Tryz.func25, Tryz.ntmps25
  go_wp2_with fail
  generalize hW0 : ((w.alloc (.cells #[.int .i64 18, .int .i64 vk, .int .i64 vn, .string vs, .string nm, .int .i64 ar] 53)).alloc (.cells #[.string ⟨#[]⟩, .int .i64 0, .bool false] 55)) = W0 at *
  go_loopw [6, 7] (fun sv iv wr => ∃ (k : Nat) (s : ByteArray), k ≤ len ∧ iv = .int .i64 k ∧ sv = .string s ∧ Hid (bts s = bts fb ++ 40 :: comL (ls.take k)) ∧ wr = W0) (fun _ iv _ => len - (intOf iv).toNat)
  case atStart => exact ⟨0, _, Nat.zero_le _, rfl, rfl, (by show _ = _; rw [bts_app]; first | rfl | (rw [HFB.out]; rfl) | (rw [← HFB.out]; rfl)), rfl⟩
  case round =>
   obtain ⟨k, s, hk, rfl, rfl, HSX, rfl⟩ := hrel
   have hss : s.size ≤ 2000000 := by
    have h1 := congrArg List.length HSX.out
    have h2 := HCL.out k
    rw [bts_length] at h1
    simp only [List.length_append, List.length_cons, bts_length] at h1
    omega
   by_cases hlt : k < len
   ·obtain ⟨x, b, off, hx, rfl, hbl, c0, c1, c2⟩ := HP0.out.at hlt
    have hxk := HXS.out k x hx
    have hct := HCT.out k x.tx hxk
    have hxz := HCL.out (k + 1)
    have hki : (k : Int) < (len : Int) := by omega
    have htz : (⟨x.tx.toArray⟩ : ByteArray).size ≤ 900100 := by
     rw [size_mk]
     have h3 := congrArg List.length hct
     by_cases hk0 : k = 0
     ·rw [if_pos hk0] at h3; omega
     ·rw [if_neg hk0] at h3; simp only [List.length_append, List.length_cons] at h3; omega
    have HNX : Hid (∀ t : ByteArray, t = ⟨x.tx.toArray⟩ → (k = 0 → bts (s ++ t) = bts fb ++ 40 :: comL (ls.take (k + 1))) ∧ (¬ k = 0 → bts ((s ++ ⟨#[44, 32]⟩) ++ t) = bts fb ++ 40 :: comL (ls.take (k + 1)))) := fun t ht => by
     refine ⟨fun hk0 => ?_, fun hk0 => ?_⟩
     ·rw [bts_app, HSX.out, hct, if_pos hk0, ht, hk0]
      show _ ++ x.tx = _
      simp [comL, Lib.join_nil]
     ·rw [bts_app, bts_app, HSX.out, hct, if_neg hk0, ht]
      show bts fb ++ 40 :: comL (ls.take k) ++ [44, 32] ++ x.tx = _
      simp
    obtain ⟨t, ht⟩ : ∃ t : ByteArray, t = ⟨x.tx.toArray⟩ := ⟨_, rfl⟩
    rw [← ht] at c0 htz
    have HNX2 := Lib.hid (HNX.out t ht)
    clear HNX hct hx hxk hxz ht c1 c2
    by_cases hk0 : k = 0
    ·have HN := Lib.hid (HNX2.out.1 hk0)
     subst hk0
     simp only [Nat.zero_mul, Nat.add_zero] at c0
     have s1 : ¬ (9223372036854775807 < s.size + t.size) := by omega
     clear HNX2 HSX
     go_wp2_with fail
     go_roundw
     case rel => exact ⟨1, _, by omega, by go_num, rfl, HN, by first | rfl | trivial⟩
     case measure => simp [intOf]; omega
    ·have HN := Lib.hid (HNX2.out.2 hk0)
     have hk0i : (0 : Int) < (k : Int) := by omega
     have s1 : ¬ (9223372036854775807 < s.size + (⟨#[44, 32]⟩ : ByteArray).size) := by show ¬ (9223372036854775807 < s.size + 2); omega
     have s2 : ¬ (9223372036854775807 < (s ++ (⟨#[44, 32]⟩ : ByteArray)).size + t.size) := by
      rw [ByteArray.size_append]
      show ¬ (9223372036854775807 < s.size + 2 + t.size)
      omega
     clear HNX2 HSX
     go_wp2_with fail
     go_roundw
     case rel => exact ⟨k + 1, _, by omega, by go_num, rfl, HN, by first | rfl | trivial⟩
     case measure => simp [intOf]; omega
   ·obtain rfl : k = len := by omega
    have hki : ¬ (k : Int) < (k : Int) := by omega
    have s1 : ¬ (9223372036854775807 < s.size + (⟨#[41]⟩ : ByteArray).size) := by show ¬ (9223372036854775807 < s.size + 1); omega
    have hRR : pcV R = .agg #[.string (s ++ ⟨#[41]⟩), .int .i64 8, .bool false] := by
     have : (s ++ ⟨#[41]⟩ : ByteArray) = ⟨(bts fb ++ 40 :: (comL (ls.take k) ++ [41])).toArray⟩ := by
      apply ext_bts
      rw [bts_app, HSX.out]
      show bts fb ++ 40 :: comL (ls.take k) ++ [41] = _
      simp
      rfl
     rw [← HR.out, this]
     rfl
    have HRR := Lib.hid hRR
    clear hRR HSX
    go_wp2_with (with_reducible refine wpList_store_row (o := Oper.mk none (Op.store 55 (.tmp 4) (.tmp 104)) _ _ _ none) rfl 55 (.tmp 4) (.tmp 104) rfl (w.heap.size + 1) #[.string (s ++ ⟨#[41]⟩), .int .i64 8, .bool false] ?h8qx ?h8qy 55 _ HX0.out ?h8qi ?h8qo ?h8q1 ?h8qk)
    (try case h8qx => rfl)
    (try case h8qy => rfl)
    (try case h8qi => first | kernel_rfl | (obtain ⟨i0, hi, _, h1, _⟩ := info_parts info_pr; exact ⟨i0, hi, h1⟩))
    (try case h8qo => rfl)
    (try case h8q1 => simp [Value.oneCell'])
    go_wp2_with fail
    have hld := box_pr (setRow_heap _ _ _ #[.string (s ++ ⟨#[41]⟩), .int .i64 8, .bool false] _ _ HX0.out)
    (try simp only [Exit.inBlock, Exit.then])
    exact bodyPost_ret (v := pcV R) (by rw [HRR.out]; simp [results, Tryz.results25, Act.put, asAddr, hld]) rfl ⟨rfl, (HB0.out).grown (grown_setRow _ _ _) (HB0.out).size (fun z hz => by cases hz; omega)⟩
 ·have hfn : fnS ⟨19, ⟨vk, vn, vs⟩, nm, ar⟩ = ⟨#[108, 101, 110, 103, 116, 104]⟩ := rfl
  rw [hfn] at hR
  have hfz : (⟨#[108, 101, 110, 103, 116, 104]⟩ : ByteArray).size ≤ 1000000 := by decide
  obtain ⟨fb, hfb⟩ : ∃ fb : ByteArray, ⟨#[108, 101, 110, 103, 116, 104]⟩ = fb := ⟨_, rfl⟩
  have HFB := Lib.hid hfb
  rw [hfb] at hR hfz
  have HR := Lib.hid hR
  have s0 : ¬ (9223372036854775807 < fb.size + (⟨#[40]⟩ : ByteArray).size) := by show ¬ (9223372036854775807 < fb.size + 1); omega
  rw [← hfb] at s0
  clear hR hfn
  go_enter Tryz.func25, Tryz.ntmps25
  go_wp2_with fail
  generalize hW0 : ((w.alloc (.cells #[.int .i64 19, .int .i64 vk, .int .i64 vn, .string vs, .string nm, .int .i64 ar] 53)).alloc (.cells #[.string ⟨#[]⟩, .int .i64 0, .bool false] 55)) = W0 at *
  go_loopw [6, 7] (fun sv iv wr => ∃ (k : Nat) (s : ByteArray), k ≤ len ∧ iv = .int .i64 k ∧ sv = .string s ∧ Hid (bts s = bts fb ++ 40 :: comL (ls.take k)) ∧ wr = W0) (fun _ iv _ => len - (intOf iv).toNat)
  case atStart => exact ⟨0, _, Nat.zero_le _, rfl, rfl, (by show _ = _; rw [bts_app]; first | rfl | (rw [HFB.out]; rfl) | (rw [← HFB.out]; rfl)), rfl⟩
  case round =>
   obtain ⟨k, s, hk, rfl, rfl, HSX, rfl⟩ := hrel
   have hss : s.size ≤ 2000000 := by
    have h1 := congrArg List.length HSX.out
    have h2 := HCL.out k
    rw [bts_length] at h1
    simp only [List.length_append, List.length_cons, bts_length] at h1
    omega
   by_cases hlt : k < len
   ·obtain ⟨x, b, off, hx, rfl, hbl, c0, c1, c2⟩ := HP0.out.at hlt
    have hxk := HXS.out k x hx
    have hct := HCT.out k x.tx hxk
    have hxz := HCL.out (k + 1)
    have hki : (k : Int) < (len : Int) := by omega
    have htz : (⟨x.tx.toArray⟩ : ByteArray).size ≤ 900100 := by
     rw [size_mk]
     have h3 := congrArg List.length hct
     by_cases hk0 : k = 0
     ·rw [if_pos hk0] at h3; omega
     ·rw [if_neg hk0] at h3; simp only [List.length_append, List.length_cons] at h3; omega
    have HNX : Hid (∀ t : ByteArray, t = ⟨x.tx.toArray⟩ → (k = 0 → bts (s ++ t) = bts fb ++ 40 :: comL (ls.take (k + 1))) ∧ (¬ k = 0 → bts ((s ++ ⟨#[44, 32]⟩) ++ t) = bts fb ++ 40 :: comL (ls.take (k + 1)))) := fun t ht => by
     refine ⟨fun hk0 => ?_, fun hk0 => ?_⟩
     ·rw [bts_app, HSX.out, hct, if_pos hk0, ht, hk0]
      show _ ++ x.tx = _
      simp [comL, Lib.join_nil]
     ·rw [bts_app, bts_app, HSX.out, hct, if_neg hk0, ht]
      show bts fb ++ 40 :: comL (ls.take k) ++ [44, 32] ++ x.tx = _
      simp
    obtain ⟨t, ht⟩ : ∃ t : ByteArray, t = ⟨x.tx.toArray⟩ := ⟨_, rfl⟩
    rw [← ht] at c0 htz
    have HNX2 := Lib.hid (HNX.out t ht)
    clear HNX hct hx hxk hxz ht c1 c2
    by_cases hk0 : k = 0
    ·have HN := Lib.hid (HNX2.out.1 hk0)
     subst hk0
     simp only [Nat.zero_mul, Nat.add_zero] at c0
     have s1 : ¬ (9223372036854775807 < s.size + t.size) := by omega
     clear HNX2 HSX
     go_wp2_with fail
     go_roundw
     case rel => exact ⟨1, _, by omega, by go_num, rfl, HN, by first | rfl | trivial⟩
     case measure => simp [intOf]; omega
    ·have HN := Lib.hid (HNX2.out.2 hk0)
     have hk0i : (0 : Int) < (k : Int) := by omega
     have s1 : ¬ (9223372036854775807 < s.size + (⟨#[44, 32]⟩ : ByteArray).size) := by show ¬ (9223372036854775807 < s.size + 2); omega
     have s2 : ¬ (9223372036854775807 < (s ++ (⟨#[44, 32]⟩ : ByteArray)).size + t.size) := by
      rw [ByteArray.size_append]
      show ¬ (9223372036854775807 < s.size + 2 + t.size)
      omega
     clear HNX2 HSX
     go_wp2_with fail
     go_roundw
     case rel => exact ⟨k + 1, _, by omega, by go_num, rfl, HN, by first | rfl | trivial⟩
     case measure => simp [intOf]; omega
   ·obtain rfl : k = len := by omega
    have hki : ¬ (k : Int) < (k : Int) := by omega
    have s1 : ¬ (9223372036854775807 < s.size + (⟨#[41]⟩ : ByteArray).size) := by show ¬ (9223372036854775807 < s.size + 1); omega
    have hRR : pcV R = .agg #[.string (s ++ ⟨#[41]⟩), .int .i64 8, .bool false] := by
     have : (s ++ ⟨#[41]⟩ : ByteArray) = ⟨(bts fb ++ 40 :: (comL (ls.take k) ++ [41])).toArray⟩ := by
      apply ext_bts
      rw [bts_app, HSX.out]
      show bts fb ++ 40 :: comL (ls.take k) ++ [41] = _
      simp
      rfl
     rw [← HR.out, this]
     rfl
    have HRR := Lib.hid hRR
    clear hRR HSX
    go_wp2_with (with_reducible refine wpList_store_row (o := Oper.mk none (Op.store 55 (.tmp 4) (.tmp 104)) _ _ _ none) rfl 55 (.tmp 4) (.tmp 104) rfl (w.heap.size + 1) #[.string (s ++ ⟨#[41]⟩), .int .i64 8, .bool false] ?h9qx ?h9qy 55 _ HX0.out ?h9qi ?h9qo ?h9q1 ?h9qk)
    (try case h9qx => rfl)
    (try case h9qy => rfl)
    (try case h9qi => first | kernel_rfl | (obtain ⟨i0, hi, _, h1, _⟩ := info_parts info_pr; exact ⟨i0, hi, h1⟩))
    (try case h9qo => rfl)
    (try case h9q1 => simp [Value.oneCell'])
    go_wp2_with fail
    have hld := box_pr (setRow_heap _ _ _ #[.string (s ++ ⟨#[41]⟩), .int .i64 8, .bool false] _ _ HX0.out)
    (try simp only [Exit.inBlock, Exit.then])
    exact bodyPost_ret (v := pcV R) (by rw [HRR.out]; simp [results, Tryz.results25, Act.put, asAddr, hld]) rfl ⟨rfl, (HB0.out).grown (grown_setRow _ _ _) (HB0.out).size (fun z hz => by cases hz; omega)⟩
 ·have hfn : fnS ⟨21, ⟨vk, vn, vs⟩, nm, ar⟩ = nm := rfl
  rw [hfn] at hR
  have hfz : (nm : ByteArray).size ≤ 1000000 := hnmz
  obtain ⟨fb, hfb⟩ : ∃ fb : ByteArray, nm = fb := ⟨_, rfl⟩
  have HFB := Lib.hid hfb
  rw [hfb] at hR hfz
  have HR := Lib.hid hR
  have s0 : ¬ (9223372036854775807 < fb.size + (⟨#[40]⟩ : ByteArray).size) := by show ¬ (9223372036854775807 < fb.size + 1); omega
  rw [← hfb] at s0
  clear hfb
  clear hR hfn
  go_enter Tryz.func25, Tryz.ntmps25
  go_wp2_with fail
  generalize hW0 : ((w.alloc (.cells #[.int .i64 21, .int .i64 vk, .int .i64 vn, .string vs, .string nm, .int .i64 ar] 53)).alloc (.cells #[.string ⟨#[]⟩, .int .i64 0, .bool false] 55)) = W0 at *
  go_loopw [6, 7] (fun sv iv wr => ∃ (k : Nat) (s : ByteArray), k ≤ len ∧ iv = .int .i64 k ∧ sv = .string s ∧ Hid (bts s = bts fb ++ 40 :: comL (ls.take k)) ∧ wr = W0) (fun _ iv _ => len - (intOf iv).toNat)
  case atStart => exact ⟨0, _, Nat.zero_le _, rfl, rfl, (by show _ = _; rw [bts_app]; first | rfl | (rw [HFB.out]; rfl) | (rw [← HFB.out]; rfl)), rfl⟩
  case round =>
   obtain ⟨k, s, hk, rfl, rfl, HSX, rfl⟩ := hrel
   have hss : s.size ≤ 2000000 := by
    have h1 := congrArg List.length HSX.out
    have h2 := HCL.out k
    rw [bts_length] at h1
    simp only [List.length_append, List.length_cons, bts_length] at h1
    omega
   by_cases hlt : k < len
   ·obtain ⟨x, b, off, hx, rfl, hbl, c0, c1, c2⟩ := HP0.out.at hlt
    have hxk := HXS.out k x hx
    have hct := HCT.out k x.tx hxk
    have hxz := HCL.out (k + 1)
    have hki : (k : Int) < (len : Int) := by omega
    have htz : (⟨x.tx.toArray⟩ : ByteArray).size ≤ 900100 := by
     rw [size_mk]
     have h3 := congrArg List.length hct
     by_cases hk0 : k = 0
     ·rw [if_pos hk0] at h3; omega
     ·rw [if_neg hk0] at h3; simp only [List.length_append, List.length_cons] at h3; omega
    have HNX : Hid (∀ t : ByteArray, t = ⟨x.tx.toArray⟩ → (k = 0 → bts (s ++ t) = bts fb ++ 40 :: comL (ls.take (k + 1))) ∧ (¬ k = 0 → bts ((s ++ ⟨#[44, 32]⟩) ++ t) = bts fb ++ 40 :: comL (ls.take (k + 1)))) := fun t ht => by
     refine ⟨fun hk0 => ?_, fun hk0 => ?_⟩
     ·rw [bts_app, HSX.out, hct, if_pos hk0, ht, hk0]
      show _ ++ x.tx = _
      simp [comL, Lib.join_nil]
     ·rw [bts_app, bts_app, HSX.out, hct, if_neg hk0, ht]
      show bts fb ++ 40 :: comL (ls.take k) ++ [44, 32] ++ x.tx = _
      simp
    obtain ⟨t, ht⟩ : ∃ t : ByteArray, t = ⟨x.tx.toArray⟩ := ⟨_, rfl⟩
    rw [← ht] at c0 htz
    have HNX2 := Lib.hid (HNX.out t ht)
    clear HNX hct hx hxk hxz ht c1 c2
    by_cases hk0 : k = 0
    ·have HN := Lib.hid (HNX2.out.1 hk0)
     subst hk0
     simp only [Nat.zero_mul, Nat.add_zero] at c0
     have s1 : ¬ (9223372036854775807 < s.size + t.size) := by omega
     clear HNX2 HSX
     go_wp2_with fail
     go_roundw
     case rel => exact ⟨1, _, by omega, by go_num, rfl, HN, by first | rfl | trivial⟩
     case measure => simp [intOf]; omega
    ·have HN := Lib.hid (HNX2.out.2 hk0)
     have hk0i : (0 : Int) < (k : Int) := by omega
     have s1 : ¬ (9223372036854775807 < s.size + (⟨#[44, 32]⟩ : ByteArray).size) := by show ¬ (9223372036854775807 < s.size + 2); omega
     have s2 : ¬ (9223372036854775807 < (s ++ (⟨#[44, 32]⟩ : ByteArray)).size + t.size) := by
      rw [ByteArray.size_append]
      show ¬ (9223372036854775807 < s.size + 2 + t.size)
      omega
     clear HNX2 HSX
     go_wp2_with fail
     go_roundw
     case rel => exact ⟨k + 1, _, by omega, by go_num, rfl, HN, by first | rfl | trivial⟩
     case measure => simp [intOf]; omega
   ·obtain rfl : k = len := by omega
    have hki : ¬ (k : Int) < (k : Int) := by omega
    have s1 : ¬ (9223372036854775807 < s.size + (⟨#[41]⟩ : ByteArray).size) := by show ¬ (9223372036854775807 < s.size + 1); omega
    have hRR : pcV R = .agg #[.string (s ++ ⟨#[41]⟩), .int .i64 8, .bool false] := by
     have : (s ++ ⟨#[41]⟩ : ByteArray) = ⟨(bts fb ++ 40 :: (comL (ls.take k) ++ [41])).toArray⟩ := by
      apply ext_bts
      rw [bts_app, HSX.out]
      show bts fb ++ 40 :: comL (ls.take k) ++ [41] = _
      simp
      rfl
     rw [← HR.out, this]
     rfl
    have HRR := Lib.hid hRR
    clear hRR HSX
    go_wp2_with (with_reducible refine wpList_store_row (o := Oper.mk none (Op.store 55 (.tmp 4) (.tmp 104)) _ _ _ none) rfl 55 (.tmp 4) (.tmp 104) rfl (w.heap.size + 1) #[.string (s ++ ⟨#[41]⟩), .int .i64 8, .bool false] ?h10qx ?h10qy 55 _ HX0.out ?h10qi ?h10qo ?h10q1 ?h10qk)
    (try case h10qx => rfl)
    (try case h10qy => rfl)
    (try case h10qi => first | kernel_rfl | (obtain ⟨i0, hi, _, h1, _⟩ := info_parts info_pr; exact ⟨i0, hi, h1⟩))
    (try case h10qo => rfl)
    (try case h10q1 => simp [Value.oneCell'])
    go_wp2_with fail
    have hld := box_pr (setRow_heap _ _ _ #[.string (s ++ ⟨#[41]⟩), .int .i64 8, .bool false] _ _ HX0.out)
    (try simp only [Exit.inBlock, Exit.then])
    exact bodyPost_ret (v := pcV R) (by rw [HRR.out]; simp [results, Tryz.results25, Act.put, asAddr, hld]) rfl ⟨rfl, (HB0.out).grown (grown_setRow _ _ _) (HB0.out).size (fun z hz => by cases hz; omega)⟩
end Go.Proofs.YtmdpjahhhfajaaaGreatDoor
