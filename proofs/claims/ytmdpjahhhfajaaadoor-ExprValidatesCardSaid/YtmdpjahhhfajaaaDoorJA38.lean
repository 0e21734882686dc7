/-
  ExprValidates: its walk.
-/
import Derived.Test.YtmdpjahhhfajaaaDoorJA32
import Derived.Test.YtmdpjahhhfajaaaDoorJA36
import Derived.Test.YtmdpjahhhfajaaaDoorJA37
import Derived.Test.YtmdpjahhhfajaaaDoorJA12
import Derived.Test.YtmdpjahhhfajaaaDoorJA08
import Derived.Test.YtmdpjahhhfajaaaDoorJA10
import Derived.Deep.RegionHeld
set_option linter.unusedVariables false
set_option linter.unusedSimpArgs false
set_option maxRecDepth 100000
namespace Go.Proofs.YtmdpjahhhfajaaaDoor
open Go.RowKit Go.Joins Wh
theorem light8_any (a : Option Addr) (len cap : Nat) (w : World) : Calls Tryd.prog 5 #[.slice a len cap] w fun e w' => e = .returned (.bool (decide (len ≤ 400))) ∧ Below w.heap.size w w' := by
  by_cases h : len ≤ 400
  · have hi : (len : Int) ≤ 400 := by omega
    rw [decide_eq_true h]
    go_enter Tryd.func5, Tryd.ntmps5
    go_wp2_with fail
    go_ret
    exact ⟨rfl, Below.refl _ _⟩
  · have hi : ¬ (len : Int) ≤ 400 := by omega
    rw [decide_eq_false h]
    go_enter Tryd.func5, Tryd.ntmps5
    go_wp2_with fail
    go_ret
    exact ⟨rfl, Below.refl _ _⟩
theorem keepVa {W0 w1 w2 : World} {B : Nat} {op vk vn ar : Int} {vs nm : ByteArray} (h0 : B < W0.heap.size) (h : w1.cell? ⟨B, 0, none⟩ = some (.int .i64 op) ∧ w1.cell? ⟨B, 1, none⟩ = some (.int .i64 vk) ∧ w1.cell? ⟨B, 2, none⟩ = some (.int .i64 vn) ∧ w1.cell? ⟨B, 3, none⟩ = some (.string vs) ∧ w1.cell? ⟨B, 4, none⟩ = some (.string nm) ∧ w1.cell? ⟨B, 5, none⟩ = some (.int .i64 ar) ∧ Below W0.heap.size W0 w1) (hb : Below w1.heap.size w1 w2) : w2.cell? ⟨B, 0, none⟩ = some (.int .i64 op) ∧ w2.cell? ⟨B, 1, none⟩ = some (.int .i64 vk) ∧ w2.cell? ⟨B, 2, none⟩ = some (.int .i64 vn) ∧ w2.cell? ⟨B, 3, none⟩ = some (.string vs) ∧ w2.cell? ⟨B, 4, none⟩ = some (.string nm) ∧ w2.cell? ⟨B, 5, none⟩ = some (.int .i64 ar) ∧ Below W0.heap.size W0 w2 := by
  obtain ⟨a0, a1, a2, a3, a4, a5, hB⟩ := h
  have hs := hB.size
  have e : ∀ o, w2.cell? ⟨B, o, none⟩ = w1.cell? ⟨B, o, none⟩ := fun o => hb.cell (p := ⟨B, o, none⟩) (by show B < _; omega)
  exact ⟨(e _).trans a0, (e _).trans a1, (e _).trans a2, (e _).trans a3, (e _).trans a4, (e _).trans a5, hB.trans (hb.mono hs)⟩
set_option maxHeartbeats 16000000 in
theorem evalidates_walk (w : World) (ra : Option Addr) (rl rc : Nat) (rs : List Nd) (hr : IsNodes w ra rl rs) (hrc : rl ≤ rc) (hrm : rc ≤ maxLen) (hrn : ra = none → rc = 0) (hrz : ∀ t ∈ rs, t.nm.size ≤ 9223372036854775800) (t : Nd)
    (la : Option Addr) (ll lc : Nat) (zs : List Int) (hz : IsInts w la ll zs) (hc : ll ≤ lc) (hm : lc ≤ maxLen) (n : Int) (hn1 : -9223372036854775808 ≤ n) (hn2 : n ≤ 9223372036854775807) (hT : TabB w) :
    Calls Tryd.prog 3 #[.slice ra rl rc, ndV t, .slice la ll lc, .int .i64 n] w fun e w' => e = .returned (.bool true) ∧ Below w.heap.size w w' := by
  have mm : maxLen = 9223372036854775807 := rfl
  have CK := Lib.hid (fun W (h : Below w.heap.size w W) => plain_any W (hT.below h (Nat.le_refl _)))
  have CL := Lib.hid (fun W => light8_any ra rl rc W)
  have CAp := Lib.hid (fun W => parity_any t W)
  have CAr := Lib.hid (fun W => rarity_any t W)
  generalize arN t = A at *
  obtain ⟨op, ⟨vk, vn, vs⟩, nm, ar⟩ := t
  unfold ndV at CAp CAr ⊢
  simp only at CAp CAr ⊢
  have hB0 : Below w.heap.size w (w.alloc (.cells #[.int .i64 op, .int .i64 vk, .int .i64 vn, .string vs, .string nm, .int .i64 ar] 26)) := (Below.refl _ _).alloc (Nat.le_refl _) _
  have HB0 := Lib.hid hB0
  by_cases hl : rl ≤ 400
  rotate_left
  · rw [decide_eq_false hl] at CL
    clear hr hz hrz hB0 hT CAp CAr
    go_enter Tryd.func3, Tryd.ntmps3
    go_wp2_with fail
    refine (CL.out _).mono ?_
    rintro e w1 ⟨rfl, hb1⟩
    have HB1 := Lib.hid (HB0.out.trans (hb1.mono HB0.out.size))
    clear hb1 CL
    go_wp2_with fail
    refine (CK.out _ HB1.out).mono ?_
    rintro e w2 ⟨rfl, hb2⟩
    have HB2 := Lib.hid (HB1.out.trans (hb2.mono HB1.out.size))
    clear hb2
    go_wp2_with fail
    go_ret
    exact ⟨rfl, HB2.out⟩
  rw [decide_eq_true hl] at CL
  obtain ⟨es1, g1, C1⟩ := made_any la ll lc zs (by omega) (n / 8)
  obtain ⟨es2, g2, C2⟩ := made_any la ll lc zs (by omega) n
  obtain ⟨hv1, hel1⟩ := g1.valN (by omega)
  obtain ⟨hv2, hel2⟩ := g2.valN (by omega)
  have hg1 := g1.nms
  have hg2 := g2.nms
  have CM1 := Lib.hid (fun W (h : Below w.heap.size w W) => C1 W (hz.below h (Nat.le_refl _)))
  have CM2 := Lib.hid (fun W (h : Below w.heap.size w W) => C2 W (hz.below h (Nat.le_refl _)))
  have PV := Lib.hid (fun a len c ts W (hi : IsNodes W a len ts) (hle : len ≤ 9223372036854775807) (htz : ∀ t ∈ ts, t.nm.size ≤ 9223372036854775800) (h : Below w.heap.size w W) => pvalidN_any a len c ts W (hT.below h (Nat.le_refl _)) hi hle htz)
  have RV := Lib.hid (fun a len c ts W (hi : IsNodes W a len ts) (hle : len ≤ 9223372036854775807) (htz : ∀ t ∈ ts, t.nm.size ≤ 9223372036854775800) => rvalidN_any a len c ts W hi hle htz)
  have b7 := and_7
  obtain ⟨N, hN⟩ : ∃ N : Nat, n % 8 = (N : Int) := ⟨(n % 8).toNat, by omega⟩
  have CN := Lib.hid (fun W (h : Below w.heap.size w W) => nodes_any la ll lc zs (by omega) N (by omega) W (hz.below h (Nat.le_refl _)))
  have hN8 : N < 8 := by omega
  have HR := Lib.hid hr
  have HRZ := Lib.hid hrz
  have hbx : (w.alloc (.cells #[.int .i64 op, .int .i64 vk, .int .i64 vn, .string vs, .string nm, .int .i64 ar] 26)).heap[w.heap.size]? = some (.cells #[.int .i64 op, .int .i64 vk, .int .i64 vn, .string vs, .string nm, .int .i64 ar] 26 (0, 0)) := heap_alloc_new _ _
  have HBX := Lib.hid hbx
  clear hr hz hrz hT g1 g2 C1 C2 hv1 hbx
  go_enter Tryd.func3, Tryd.ntmps3
  go_wp2_with fail
  refine (CL.out _).mono ?_
  rintro e w1 ⟨rfl, hb1⟩
  have HB1 := Lib.hid (HB0.out.trans (hb1.mono HB0.out.size))
  have HX1 := Lib.hid ((hb1.block w.heap.size (by simp)).trans HBX.out)
  clear hb1 CL hB0 HB0 HBX
  go_wp2_with fail
  refine (CN.out _ HB1.out).mono ?_
  rintro e w2 ⟨ts, htl, htz, hmd⟩
  obtain ⟨a2, k2, rfl, hi2, hn2', hb2⟩ := hmd.nodes
  have HB2 := Lib.hid (HB1.out.trans (hb2.mono HB1.out.size))
  have HX2 := Lib.hid ((hb2.block w.heap.size (by have := HB1.out; have := (Array.getElem?_eq_some_iff.1 HX1.out).1; exact this)).trans HX1.out)
  have HI2 := Lib.hid hi2
  have HN2 := Lib.hid hn2'
  have HTZ := Lib.hid htz
  have htl8 : ts.length < 8 := by omega
  clear hmd hi2 hn2' hb2 htz CN htl HX1
  go_wp2_with fail
  refine (CM1.out _ HB2.out).mono ?_
  intro e w3 hmd
  obtain ⟨v3, rfl, hown3, hb3⟩ := hmd
  obtain ⟨a3, k3, rfl, _, _, _, _, _⟩ := own_nodes hown3 rfl
  have hB3 := HB2.out.trans (hb3.mono HB2.out.size)
  have HX3 := Lib.hid ((hb3.block w.heap.size (by exact (Array.getElem?_eq_some_iff.1 HX2.out).1)).trans HX2.out)
  have HI3 := Lib.hid (HI2.out.below hb3 (Nat.le_refl _))
  have hs3 := hb3.size
  have HB23 := Lib.hid hb3
  clear CM1
  go_wp2_with (at_builtin; refine wpList_app rfl (.tmp 22) (.tmp 23) rfl rfl rfl hown3 hs3 HI3.out HN2.out (by omega) (by omega) ?_)
  intro v4 w4 ho4 hg4
  have hB4 := (HB23.out).grown hg4 hs3 (fun j hj => (hown3.lt j hj).1)
  have HB4 := Lib.hid (HB2.out.trans (hB4.mono HB2.out.size))
  have HI4 := Lib.hid (HI2.out.below hB4 (Nat.le_refl _))
  have HX4 := Lib.hid ((hB4.block w.heap.size (by exact (Array.getElem?_eq_some_iff.1 HX2.out).1)).trans HX2.out)
  obtain ⟨a4, k4, rfl, hf4, _, _, _, _⟩ := own_nodes ho4 (by rw [List.length_append])
  have HF4 := Lib.hid hf4
  have hfz : ∀ t ∈ es1 ++ ts, t.nm.size ≤ 9223372036854775800 := fun t ht => by
    rcases List.mem_append.1 ht with h | h
    · have := hg1 t h; omega
    · have := HTZ.out t h; omega
  have htz2 : ∀ t ∈ ts, t.nm.size ≤ 9223372036854775800 := fun t h => by have := HTZ.out t h; omega
  have hez2 : ∀ t ∈ es2, t.nm.size ≤ 9223372036854775800 := fun t h => by have := hg2 t h; omega
  have HRI := Lib.hid (HR.out.below HB4.out (Nat.le_refl _))
  have hBlt : w.heap.size < w4.heap.size := (Array.getElem?_eq_some_iff.1 HX4.out).1
  have hBX4 := HX4.out
  have P0 := Lib.hid (fun W (h : Below w4.heap.size w4 W) => PV.out ra rl rc rs W (HRI.out.below h (Nat.le_refl _)) (by omega) HRZ.out (HB4.out.trans (h.mono HB4.out.size)))
  have R0 := Lib.hid (fun W (h : Below w4.heap.size w4 W) => RV.out ra rl rc rs W (HRI.out.below h (Nat.le_refl _)) (by omega) HRZ.out)
  have P1 := Lib.hid (fun W (h : Below w4.heap.size w4 W) => PV.out a2 ts.length k2 ts W (HI4.out.below h (Nat.le_refl _)) (by omega) htz2 (HB4.out.trans (h.mono HB4.out.size)))
  have R1 := Lib.hid (fun W (h : Below w4.heap.size w4 W) => RV.out a2 ts.length k2 ts W (HI4.out.below h (Nat.le_refl _)) (by omega) htz2)
  have P2 := Lib.hid (fun W (h : Below w4.heap.size w4 W) => PV.out a4 (es1.length + ts.length) k4 (es1 ++ ts) W (HF4.out.below h (Nat.le_refl _)) (by omega) hfz (HB4.out.trans (h.mono HB4.out.size)))
  have R2 := Lib.hid (fun W (h : Below w4.heap.size w4 W) => RV.out a4 (es1.length + ts.length) k4 (es1 ++ ts) W (HF4.out.below h (Nat.le_refl _)) (by omega) hfz)
  have M0 := Lib.hid (fun W (h : Below w4.heap.size w4 W) => CM2.out W (HB4.out.trans (h.mono HB4.out.size)))
  have P3 := Lib.hid (fun a c W (hi : IsNodes W a es2.length es2) (h : Below w4.heap.size w4 W) => PV.out a es2.length c es2 W hi (by omega) hez2 (HB4.out.trans (h.mono HB4.out.size)))
  have K0 := Lib.hid (fun W (h : Below w4.heap.size w4 W) => CK.out W (HB4.out.trans (h.mono HB4.out.size)))
  rw [hv2] at P3
  have hS0 : w4.drew.cell? ⟨w.heap.size, 0, none⟩ = some (.int .i64 op) ∧ w4.drew.cell? ⟨w.heap.size, 1, none⟩ = some (.int .i64 vk) ∧ w4.drew.cell? ⟨w.heap.size, 2, none⟩ = some (.int .i64 vn) ∧ w4.drew.cell? ⟨w.heap.size, 3, none⟩ = some (.string vs) ∧ w4.drew.cell? ⟨w.heap.size, 4, none⟩ = some (.string nm) ∧ w4.drew.cell? ⟨w.heap.size, 5, none⟩ = some (.int .i64 ar) ∧ Below w4.heap.size w4 w4.drew := ⟨cell_of_row _ _ 0 _ _ _ hBX4, cell_of_row _ _ 1 _ _ _ hBX4, cell_of_row _ _ 2 _ _ _ hBX4, cell_of_row _ _ 3 _ _ _ hBX4, cell_of_row _ _ 4 _ _ _ hBX4, cell_of_row _ _ 5 _ _ _ hBX4, (Below.refl _ _).drew⟩
  generalize valN rs = E0 at *
  generalize valN ts = E1 at *
  generalize valN (es1 ++ ts) = E2 at *
  obtain ⟨fl, hfl⟩ : ∃ fl, es1.length + ts.length = fl := ⟨_, rfl⟩
  rw [hfl] at P2 R2
  rw [hfl]
  have HS0 := Lib.hid hS0
  have HBL := Lib.hid hBlt
  clear hS0 hBX4 hB4 hg4 ho4 hown3 hb3 hB3 hf4 hfz htz2 hez2 hv2 hg1 hg2 PV RV CM2 CK hfl hBlt
  go_wp2_with fail
  have hS0 := HS0.out
  have hBlt := HBL.out
  clear HS0
  go_region_held3 (fun w' => w'.cell? ⟨w.heap.size, 0, none⟩ = some (.int .i64 op) ∧ w'.cell? ⟨w.heap.size, 1, none⟩ = some (.int .i64 vk) ∧ w'.cell? ⟨w.heap.size, 2, none⟩ = some (.int .i64 vn) ∧ w'.cell? ⟨w.heap.size, 3, none⟩ = some (.string vs) ∧ w'.cell? ⟨w.heap.size, 4, none⟩ = some (.string nm) ∧ w'.cell? ⟨w.heap.size, 5, none⟩ = some (.int .i64 ar) ∧ Below w4.heap.size w4 w')
    (first | with_reducible exact hS0 | with_reducible exact hS1 | with_reducible exact hS2 | with_reducible exact hS3 | with_reducible exact hS4 | with_reducible exact hS5 | with_reducible exact hS6 | with_reducible exact hS7 | with_reducible exact hS8 | with_reducible exact hS9 | with_reducible exact hS10 | with_reducible exact hS11)
    (first
      | (go_at_call_of 9 (Value.slice ra rl rc); refine (P0.out _ hS0.2.2.2.2.2.2).mono ?_; rintro e u1 ⟨rfl, hcall⟩; have hS1 := keepVa hBlt hS0 hcall)
      | (go_at_call_of 10 (Value.slice ra rl rc); refine (R0.out _ hS1.2.2.2.2.2.2).mono ?_; rintro e u2 ⟨rfl, hcall⟩; have hS2 := keepVa hBlt hS1 hcall)
      | (go_at_call_of 9 (Value.slice a2 ts.length k2); refine (P1.out _ hS2.2.2.2.2.2.2).mono ?_; rintro e u3 ⟨rfl, hcall⟩; have hS3 := keepVa hBlt hS2 hcall)
      | (go_at_call_of 10 (Value.slice a2 ts.length k2); refine (R1.out _ hS3.2.2.2.2.2.2).mono ?_; rintro e u4 ⟨rfl, hcall⟩; have hS4 := keepVa hBlt hS3 hcall)
      | (go_at_call_of 9 (Value.slice a4 fl k4); refine (P2.out _ hS4.2.2.2.2.2.2).mono ?_; rintro e u5 ⟨rfl, hcall⟩; have hS5 := keepVa hBlt hS4 hcall)
      | (go_at_call_of 10 (Value.slice a4 fl k4); refine (R2.out _ hS5.2.2.2.2.2.2).mono ?_; rintro e u6 ⟨rfl, hcall⟩; have hS6 := keepVa hBlt hS5 hcall)
      | (go_at_call 8; refine (M0.out _ hS6.2.2.2.2.2.2).mono ?_; intro e u7 hmd; obtain ⟨a9, k9, rfl, hi9, _, hcall⟩ := hmd.nodes; have hS7 := keepVa hBlt hS6 hcall)
      | (go_at_call_of 9 (Value.slice a9 es2.length k9); refine (P3.out _ _ _ hi9 hS7.2.2.2.2.2.2).mono ?_; rintro e u8 ⟨rfl, hcall⟩; have hS8 := keepVa hBlt hS7 hcall)
      | (go_at_call 11; refine (CAp.out _).mono ?_; rintro e u9 ⟨rfl, hcall⟩; have hS9 := keepVa hBlt hS8 hcall)
      | (go_at_call 12; refine (CAr.out _).mono ?_; rintro e u10 ⟨rfl, hcall⟩; have hS10 := keepVa hBlt hS9 hcall)
      | (go_at_call 6; refine (K0.out _ hS10.2.2.2.2.2.2).mono ?_; rintro e u11 ⟨rfl, hcall⟩; have hS11 := keepVa hBlt hS10 hcall))
  all_goals
    have HE := Lib.hid (HB4.out.trans (hS11.2.2.2.2.2.2.mono HB4.out.size))
    go_wp2_with fail
    go_ret
    exact ⟨rfl, HE.out⟩
end Go.Proofs.YtmdpjahhhfajaaaDoor
