/-
  The program: write.
-/
import Derived.Test.YtmdpjahhhfajaaaGreatDoorJC30
import Derived.Test.YtmdpjahhhfajaaaGreatDoorJC11
set_option linter.unusedVariables false
set_option linter.unusedSimpArgs false
set_option maxRecDepth 100000
namespace Wh
open Go Go.Proofs.YtmdpjahhhfajaaaGreatDoor
theorem infO_bin {op : Int} (h : 4 ≤ op ∧ op ≤ 15) : ∃ wd lv, infO op = some (wd, lv, op, false) ∧ wd.size ≤ 3 ∧ (0 ≤ lv ∧ lv ≤ 8) ∧ binP op = (wd, lv, (if lv = 3 then 4 else lv), lv + 1) := by
 have hc : op = 4 ∨ op = 5 ∨ op = 6 ∨ op = 7 ∨ op = 8 ∨ op = 9 ∨ op = 10 ∨ op = 11 ∨ op = 12 ∨ op = 13 ∨ op = 14 ∨ op = 15 := by omega
 rcases hc with rfl | rfl | rfl | rfl | rfl | rfl | rfl | rfl | rfl | rfl | rfl | rfl
 ·exact ⟨⟨#[43]⟩, 5, by decide +kernel, by decide, by decide, by decide +kernel⟩
 ·exact ⟨minS, 5, by decide +kernel, by decide, by decide, by decide +kernel⟩
 ·exact ⟨⟨#[42]⟩, 6, by decide +kernel, by decide, by decide, by decide +kernel⟩
 ·exact ⟨⟨#[47]⟩, 6, by decide +kernel, by decide, by decide, by decide +kernel⟩
 ·exact ⟨⟨#[37]⟩, 6, by decide +kernel, by decide, by decide, by decide +kernel⟩
 ·exact ⟨⟨#[43, 43]⟩, 4, by decide +kernel, by decide, by decide, by decide +kernel⟩
 ·exact ⟨⟨#[61]⟩, 3, by decide +kernel, by decide, by decide, by decide +kernel⟩
 ·exact ⟨⟨#[33, 61]⟩, 3, by decide +kernel, by decide, by decide, by decide +kernel⟩
 ·exact ⟨⟨#[60]⟩, 3, by decide +kernel, by decide, by decide, by decide +kernel⟩
 ·exact ⟨⟨#[60, 61]⟩, 3, by decide +kernel, by decide, by decide, by decide +kernel⟩
 ·exact ⟨andS, 1, by decide +kernel, by decide, by decide, by decide +kernel⟩
 ·exact ⟨orS, 0, by decide +kernel, by decide, by decide, by decide +kernel⟩
theorem infO_none {op : Int} (h : op < 4 ∨ 15 < op) : infO op = none := by
 unfold infO
 rw [List.find?_eq_none]
 intro x hx
 unfold infL at hx
 simp only [List.mem_cons, List.mem_nil_iff, or_false] at hx
 rcases hx with rfl | rfl | rfl | rfl | rfl | rfl | rfl | rfl | rfl | rfl | rfl | rfl | rfl | rfl <;> simp <;> omega
theorem nod_ops {t : Nd} (h : nodB t = true) : 0 ≤ t.op ∧ t.op ≤ 21 := by
 have h1 := (nodB_ar h).1
 unfold arN at h1
 by_cases h21 : t.op = 21
 ·omega
 rw [if_neg h21] at h1
 by_cases c1 : 0 ≤ t.op ∧ t.op ≤ 21
 ·exact c1
 rw [if_neg (by omega), if_neg (by omega), if_neg (by omega), if_neg (by omega)] at h1
 omega
theorem fnS_eq {t : Nd} (h : 16 ≤ t.op ∧ t.op ≤ 21) : ((bltN t.op).map (·.1)).getD t.nm = fnS t := by
 obtain ⟨op, v, nm, ar⟩ := t
 simp only at h ⊢
 have hc : op = 16 ∨ op = 17 ∨ op = 18 ∨ op = 19 ∨ op = 20 ∨ op = 21 := by omega
 rcases hc with rfl | rfl | rfl | rfl | rfl | rfl <;> rfl
theorem enc_neg (x : Pc) (h : x.lv ≤ 8) : encL x (if x.ig = true then 9 else 7) = if x.ig = true then 40 :: (x.tx ++ [41]) else encL x 7 := by
 by_cases hi : x.ig = true
 ·rw [if_pos hi, if_pos hi]
  unfold encL
  rw [if_pos (by omega)]
 ·rw [if_neg hi, if_neg hi]
end Wh
namespace Go.Proofs.YtmdpjahhhfajaaaGreatDoor
open Go.RowKit Go.Joins Wh
theorem keepNeg {w W0 w1 w2 : World} {b0 o0 : Nat} {sx : ByteArray} {xl : Int} {xi : Bool} (h0 : w.heap.size + 1 < w1.heap.size ∧ b0 < w.heap.size) (h : w1.cell? ⟨b0, o0, none⟩ = some (.string sx) ∧ w1.cell? ⟨b0, o0 + 1, none⟩ = some (.int .i64 xl) ∧ w1.cell? ⟨b0, o0 + 2, none⟩ = some (.bool xi) ∧ Below (w.heap.size + 1) W0 w1) (hb : Below w1.heap.size w1 w2) : w2.cell? ⟨b0, o0, none⟩ = some (.string sx) ∧ w2.cell? ⟨b0, o0 + 1, none⟩ = some (.int .i64 xl) ∧ w2.cell? ⟨b0, o0 + 2, none⟩ = some (.bool xi) ∧ Below (w.heap.size + 1) W0 w2 := by
 obtain ⟨a0, a1, a2, hB⟩ := h
 have e : ∀ o, w2.cell? ⟨b0, o, none⟩ = w1.cell? ⟨b0, o, none⟩ := fun o => hb.cell (p := ⟨b0, o, none⟩) (by show b0 < _; omega)
 exact ⟨(e _).trans a0, (e _).trans a1, (e _).trans a2, hB.trans (hb.mono (by omega))⟩
theorem below_st {w w1 : World} {u0 u1 u2 : Value} : Below (w.heap.size + 1) w1 (((w1.setCell ⟨w.heap.size + 1, 0, none⟩ u0).setCell ⟨w.heap.size + 1, 1, none⟩ u1).setCell ⟨w.heap.size + 1, 2, none⟩ u2) :=
 (((Below.refl (w.heap.size + 1) w1).setCell (p := ⟨w.heap.size + 1, 0, none⟩) (Nat.le_refl _) u0).setCell (p := ⟨w.heap.size + 1, 1, none⟩) (Nat.le_refl _) u1).setCell (p := ⟨w.heap.size + 1, 2, none⟩) (Nat.le_refl _) u2
theorem keepNegSt {w W0 w1 : World} {b0 o0 : Nat} {sx : ByteArray} {xl : Int} {xi : Bool} {u0 u1 u2 : Value} (h0 : w.heap.size + 1 < w1.heap.size ∧ b0 < w.heap.size) (h : w1.cell? ⟨b0, o0, none⟩ = some (.string sx) ∧ w1.cell? ⟨b0, o0 + 1, none⟩ = some (.int .i64 xl) ∧ w1.cell? ⟨b0, o0 + 2, none⟩ = some (.bool xi) ∧ Below (w.heap.size + 1) W0 w1) : (((w1.setCell ⟨w.heap.size + 1, 0, none⟩ u0).setCell ⟨w.heap.size + 1, 1, none⟩ u1).setCell ⟨w.heap.size + 1, 2, none⟩ u2).cell? ⟨b0, o0, none⟩ = some (.string sx) ∧ (((w1.setCell ⟨w.heap.size + 1, 0, none⟩ u0).setCell ⟨w.heap.size + 1, 1, none⟩ u1).setCell ⟨w.heap.size + 1, 2, none⟩ u2).cell? ⟨b0, o0 + 1, none⟩ = some (.int .i64 xl) ∧ (((w1.setCell ⟨w.heap.size + 1, 0, none⟩ u0).setCell ⟨w.heap.size + 1, 1, none⟩ u1).setCell ⟨w.heap.size + 1, 2, none⟩ u2).cell? ⟨b0, o0 + 2, none⟩ = some (.bool xi) ∧ Below (w.heap.size + 1) W0 (((w1.setCell ⟨w.heap.size + 1, 0, none⟩ u0).setCell ⟨w.heap.size + 1, 1, none⟩ u1).setCell ⟨w.heap.size + 1, 2, none⟩ u2) := by
 obtain ⟨a0, a1, a2, hB⟩ := h
 have hb := below_st (w := w) (w1 := w1) (u0 := u0) (u1 := u1) (u2 := u2)
 have e : ∀ o, (((w1.setCell ⟨w.heap.size + 1, 0, none⟩ u0).setCell ⟨w.heap.size + 1, 1, none⟩ u1).setCell ⟨w.heap.size + 1, 2, none⟩ u2).cell? ⟨b0, o, none⟩ = w1.cell? ⟨b0, o, none⟩ := fun o => hb.cell (p := ⟨b0, o, none⟩) (by show b0 < _; omega)
 exact ⟨(e _).trans a0, (e _).trans a1, (e _).trans a2, hB.trans hb⟩
theorem keepIn {w W0 w1 w2 : World} {g b0 o0 : Nat} {wd sx sy : ByteArray} {lv op xl yl : Int} {xi yi : Bool} (h0 : w.heap.size + 1 < g ∧ g < w1.heap.size ∧ b0 < w.heap.size) (h : w1.cell? ⟨g, 0, none⟩ = some (.string wd) ∧ w1.cell? ⟨g, 1, none⟩ = some (.int .i64 lv) ∧ w1.cell? ⟨g, 2, none⟩ = some (.int .i64 op) ∧ w1.cell? ⟨g, 3, none⟩ = some (.bool false) ∧ w1.cell? ⟨b0, o0, none⟩ = some (.string sx) ∧ w1.cell? ⟨b0, o0 + 1, none⟩ = some (.int .i64 xl) ∧ w1.cell? ⟨b0, o0 + 2, none⟩ = some (.bool xi) ∧ w1.cell? ⟨b0, o0 + 3, none⟩ = some (.string sy) ∧ w1.cell? ⟨b0, o0 + 3 + 1, none⟩ = some (.int .i64 yl) ∧ w1.cell? ⟨b0, o0 + 3 + 2, none⟩ = some (.bool yi) ∧ Below (w.heap.size + 1) W0 w1) (hb : Below w1.heap.size w1 w2) : w2.cell? ⟨g, 0, none⟩ = some (.string wd) ∧ w2.cell? ⟨g, 1, none⟩ = some (.int .i64 lv) ∧ w2.cell? ⟨g, 2, none⟩ = some (.int .i64 op) ∧ w2.cell? ⟨g, 3, none⟩ = some (.bool false) ∧ w2.cell? ⟨b0, o0, none⟩ = some (.string sx) ∧ w2.cell? ⟨b0, o0 + 1, none⟩ = some (.int .i64 xl) ∧ w2.cell? ⟨b0, o0 + 2, none⟩ = some (.bool xi) ∧ w2.cell? ⟨b0, o0 + 3, none⟩ = some (.string sy) ∧ w2.cell? ⟨b0, o0 + 3 + 1, none⟩ = some (.int .i64 yl) ∧ w2.cell? ⟨b0, o0 + 3 + 2, none⟩ = some (.bool yi) ∧ Below (w.heap.size + 1) W0 w2 := by
 obtain ⟨g0, g1, g2, g3, a0, a1, a2, c0, c1, c2, hB⟩ := h
 have e : ∀ o, w2.cell? ⟨b0, o, none⟩ = w1.cell? ⟨b0, o, none⟩ := fun o => hb.cell (p := ⟨b0, o, none⟩) (by show b0 < _; omega)
 have e2 : ∀ o, w2.cell? ⟨g, o, none⟩ = w1.cell? ⟨g, o, none⟩ := fun o => hb.cell (p := ⟨g, o, none⟩) (by show g < _; omega)
 exact ⟨(e2 _).trans g0, (e2 _).trans g1, (e2 _).trans g2, (e2 _).trans g3, (e _).trans a0, (e _).trans a1, (e _).trans a2, (e _).trans c0, (e _).trans c1, (e _).trans c2, hB.trans (hb.mono (by omega))⟩
theorem cell_far3 {w w1 : World} {g o : Nat} {u0 u1 u2 : Value} (h : g ≠ w.heap.size + 1) : (((w1.setCell ⟨w.heap.size + 1, 0, none⟩ u0).setCell ⟨w.heap.size + 1, 1, none⟩ u1).setCell ⟨w.heap.size + 1, 2, none⟩ u2).cell? ⟨g, o, none⟩ = w1.cell? ⟨g, o, none⟩ := by
 refine World.cell?_of_block ?_
 show (((w1.setCell ⟨w.heap.size + 1, 0, none⟩ u0).setCell ⟨w.heap.size + 1, 1, none⟩ u1).setCell ⟨w.heap.size + 1, 2, none⟩ u2).heap[g]? = w1.heap[g]?
 rw [Below.heap_setCell _ _ _ _ (by show g ≠ _; exact h), Below.heap_setCell _ _ _ _ (by show g ≠ _; exact h), Below.heap_setCell _ _ _ _ (by show g ≠ _; exact h)]
theorem keepInSt {w W0 w1 : World} {g b0 o0 : Nat} {wd sx sy : ByteArray} {lv op xl yl : Int} {xi yi : Bool} {u0 u1 u2 : Value} (h0 : w.heap.size + 1 < g ∧ g < w1.heap.size ∧ b0 < w.heap.size) (h : w1.cell? ⟨g, 0, none⟩ = some (.string wd) ∧ w1.cell? ⟨g, 1, none⟩ = some (.int .i64 lv) ∧ w1.cell? ⟨g, 2, none⟩ = some (.int .i64 op) ∧ w1.cell? ⟨g, 3, none⟩ = some (.bool false) ∧ w1.cell? ⟨b0, o0, none⟩ = some (.string sx) ∧ w1.cell? ⟨b0, o0 + 1, none⟩ = some (.int .i64 xl) ∧ w1.cell? ⟨b0, o0 + 2, none⟩ = some (.bool xi) ∧ w1.cell? ⟨b0, o0 + 3, none⟩ = some (.string sy) ∧ w1.cell? ⟨b0, o0 + 3 + 1, none⟩ = some (.int .i64 yl) ∧ w1.cell? ⟨b0, o0 + 3 + 2, none⟩ = some (.bool yi) ∧ Below (w.heap.size + 1) W0 w1) : (((w1.setCell ⟨w.heap.size + 1, 0, none⟩ u0).setCell ⟨w.heap.size + 1, 1, none⟩ u1).setCell ⟨w.heap.size + 1, 2, none⟩ u2).cell? ⟨g, 0, none⟩ = some (.string wd) ∧ (((w1.setCell ⟨w.heap.size + 1, 0, none⟩ u0).setCell ⟨w.heap.size + 1, 1, none⟩ u1).setCell ⟨w.heap.size + 1, 2, none⟩ u2).cell? ⟨g, 1, none⟩ = some (.int .i64 lv) ∧ (((w1.setCell ⟨w.heap.size + 1, 0, none⟩ u0).setCell ⟨w.heap.size + 1, 1, none⟩ u1).setCell ⟨w.heap.size + 1, 2, none⟩ u2).cell? ⟨g, 2, none⟩ = some (.int .i64 op) ∧ (((w1.setCell ⟨w.heap.size + 1, 0, none⟩ u0).setCell ⟨w.heap.size + 1, 1, none⟩ u1).setCell ⟨w.heap.size + 1, 2, none⟩ u2).cell? ⟨g, 3, none⟩ = some (.bool false) ∧ (((w1.setCell ⟨w.heap.size + 1, 0, none⟩ u0).setCell ⟨w.heap.size + 1, 1, none⟩ u1).setCell ⟨w.heap.size + 1, 2, none⟩ u2).cell? ⟨b0, o0, none⟩ = some (.string sx) ∧ (((w1.setCell ⟨w.heap.size + 1, 0, none⟩ u0).setCell ⟨w.heap.size + 1, 1, none⟩ u1).setCell ⟨w.heap.size + 1, 2, none⟩ u2).cell? ⟨b0, o0 + 1, none⟩ = some (.int .i64 xl) ∧ (((w1.setCell ⟨w.heap.size + 1, 0, none⟩ u0).setCell ⟨w.heap.size + 1, 1, none⟩ u1).setCell ⟨w.heap.size + 1, 2, none⟩ u2).cell? ⟨b0, o0 + 2, none⟩ = some (.bool xi) ∧ (((w1.setCell ⟨w.heap.size + 1, 0, none⟩ u0).setCell ⟨w.heap.size + 1, 1, none⟩ u1).setCell ⟨w.heap.size + 1, 2, none⟩ u2).cell? ⟨b0, o0 + 3, none⟩ = some (.string sy) ∧ (((w1.setCell ⟨w.heap.size + 1, 0, none⟩ u0).setCell ⟨w.heap.size + 1, 1, none⟩ u1).setCell ⟨w.heap.size + 1, 2, none⟩ u2).cell? ⟨b0, o0 + 3 + 1, none⟩ = some (.int .i64 yl) ∧ (((w1.setCell ⟨w.heap.size + 1, 0, none⟩ u0).setCell ⟨w.heap.size + 1, 1, none⟩ u1).setCell ⟨w.heap.size + 1, 2, none⟩ u2).cell? ⟨b0, o0 + 3 + 2, none⟩ = some (.bool yi) ∧ Below (w.heap.size + 1) W0 (((w1.setCell ⟨w.heap.size + 1, 0, none⟩ u0).setCell ⟨w.heap.size + 1, 1, none⟩ u1).setCell ⟨w.heap.size + 1, 2, none⟩ u2) := by
 obtain ⟨g0, g1, g2, g3, a0, a1, a2, c0, c1, c2, hB⟩ := h
 have hb := below_st (w := w) (w1 := w1) (u0 := u0) (u1 := u1) (u2 := u2)
 have e : ∀ o, (((w1.setCell ⟨w.heap.size + 1, 0, none⟩ u0).setCell ⟨w.heap.size + 1, 1, none⟩ u1).setCell ⟨w.heap.size + 1, 2, none⟩ u2).cell? ⟨b0, o, none⟩ = w1.cell? ⟨b0, o, none⟩ := fun o => hb.cell (p := ⟨b0, o, none⟩) (by show b0 < _; omega)
 have e2 : ∀ o, (((w1.setCell ⟨w.heap.size + 1, 0, none⟩ u0).setCell ⟨w.heap.size + 1, 1, none⟩ u1).setCell ⟨w.heap.size + 1, 2, none⟩ u2).cell? ⟨g, o, none⟩ = w1.cell? ⟨g, o, none⟩ := fun o => cell_far3 (by omega)
 exact ⟨(e2 _).trans g0, (e2 _).trans g1, (e2 _).trans g2, (e2 _).trans g3, (e _).trans a0, (e _).trans a1, (e _).trans a2, (e _).trans c0, (e _).trans c1, (e _).trans c2, hB.trans hb⟩
set_option maxHeartbeats 16000000 in
theorem pwrite8_any (t : Nd) (hnod : nodB t = true) (a : Option Addr) (len cap : Nat) (xs : List Pc) (w : World) (hs : IsPcs w a len xs) (hln : (len : Int) = arN t) (htot : totP xs ≤ 900000) (hlv : ∀ x ∈ xs, x.lv ≤ 8) (hg : Glx w) :
  Calls Tryz.prog 36 #[ndV t, .slice a len cap] w fun e w' => e = .returned (pcV (nodP t xs)) ∧ Below w.heap.size w w' := by
 have hl8 := (nodB_ar hnod).2
 have hops := nod_ops hnod
 have hnmz : t.nm.size ≤ 1000000 := by
  unfold nodB at hnod
  by_cases h0 : t.op = 0
  ·rw [if_pos h0, Bool.and_eq_true, Bool.and_eq_true] at hnod
   have := hnod.2.1; unfold empB at this; have := of_decide_eq_true this; omega
  rw [if_neg h0] at hnod
  by_cases h1 : t.op = 1
  ·rw [if_pos h1] at hnod
   simp only [Bool.and_eq_true, colB] at hnod
   have := (nameB_all hnod.2.2.1).2.1; omega
  rw [if_neg h1] at hnod
  by_cases h20 : t.op = 20
  ·rw [if_pos h20] at hnod
   simp only [Bool.and_eq_true, refB] at hnod
   have := qual_sz hnod.2.2.1; omega
  rw [if_neg h20] at hnod
  by_cases h21 : t.op = 21
  ·rw [if_pos h21] at hnod
   simp only [Bool.and_eq_true, refB] at hnod
   have := qual_sz hnod.2.2.2.1.1; omega
  rw [if_neg h21] at hnod
  simp only [Bool.and_eq_true] at hnod
  have := hnod.2.2.1; unfold empB at this; have := of_decide_eq_true this; omega
 have htx : ∀ i, (xs.getD i noPc).tx.length ≤ 900000 := fun i => Nat.le_trans (totP_getD xs i) htot
 have hxl := hs.1
 have HFN := Lib.hid (fun (h : 16 ≤ t.op ∧ t.op ≤ 21) => fnS_eq h)
 have HWC := Lib.hid (fun W (hb : Below w.heap.size w W) => pwcall_any t a len cap xs W (hs.below hb (Nat.le_refl _)) (by omega) (by omega) hnmz (hg.tb.below hb (Nat.le_refl _)))
 have HCST := Lib.hid (fun (h0 : t.op = 0) W (hb : Below w.heap.size w W) => pwcst_any t.v (by unfold nodB at hnod; rw [if_pos h0, Bool.and_eq_true] at hnod; exact hnod.1) W (hg.glo.next hb))
 have HINF := Lib.hid (fun W (hb : Below w.heap.size w W) => infixOfOp_any t.op W (hg.ti.below hb (Nat.le_refl _)))
 obtain ⟨R, hR⟩ : ∃ R, nodP t xs = R := ⟨_, rfl⟩
 rw [hR]
 unfold nodP at hR
 obtain ⟨op, ⟨vk, vn, vs⟩, nm, ar⟩ := t
 simp only at hops hnmz HFN HWC HCST HINF hR hln
 unfold ndV at HWC ⊢
 simp only at HWC ⊢
 have hk0 : ((w.alloc (.cells #[.int .i64 op, .int .i64 vk, .int .i64 vn, .string vs, .string nm, .int .i64 ar] 53)).alloc (.cells #[.string ⟨#[]⟩, .int .i64 0, .bool false] 76)).heap[w.heap.size]? = some (.cells #[.int .i64 op, .int .i64 vk, .int .i64 vn, .string vs, .string nm, .int .i64 ar] 53 (0, 0)) := by
  rw [Below.heap_alloc _ _ _ (by simp)]
  exact heap_alloc_new w _
 have hk1 := pc_zero w (.cells #[.int .i64 op, .int .i64 vk, .int .i64 vn, .string vs, .string nm, .int .i64 ar] 53)
 have hbel : Below w.heap.size w ((w.alloc (.cells #[.int .i64 op, .int .i64 vk, .int .i64 vn, .string vs, .string nm, .int .i64 ar] 53)).alloc (.cells #[.string ⟨#[]⟩, .int .i64 0, .bool false] 76)) := ((Below.refl _ _).alloc (Nat.le_refl _) _).alloc (by simp) _
 have hsz : ((w.alloc (.cells #[.int .i64 op, .int .i64 vk, .int .i64 vn, .string vs, .string nm, .int .i64 ar] 53)).alloc (.cells #[.string ⟨#[]⟩, .int .i64 0, .bool false] 76)).heap.size = w.heap.size + 2 := by simp
 have KEEP : Hid (∀ W, Below (w.heap.size + 2) ((w.alloc (.cells #[.int .i64 op, .int .i64 vk, .int .i64 vn, .string vs, .string nm, .int .i64 ar] 53)).alloc (.cells #[.string ⟨#[]⟩, .int .i64 0, .bool false] 76)) W → ((W.cell? ⟨w.heap.size, 0, none⟩ = some (.int .i64 op) ∧ W.cell? ⟨w.heap.size, 1, none⟩ = some (.int .i64 vk) ∧ W.cell? ⟨w.heap.size, 2, none⟩ = some (.int .i64 vn) ∧ W.cell? ⟨w.heap.size, 3, none⟩ = some (.string vs) ∧ W.cell? ⟨w.heap.size, 4, none⟩ = some (.string nm) ∧ W.cell? ⟨w.heap.size, 5, none⟩ = some (.int .i64 ar)) ∧ W.heap[w.heap.size + 1]? = some (.cells #[.string ⟨#[]⟩, .int .i64 0, .bool false] 76 (0, 0)) ∧ Below w.heap.size w W ∧ IsPcs W a len xs)) := fun W hb => by
  have h0 : W.heap[w.heap.size]? = some (.cells #[.int .i64 op, .int .i64 vk, .int .i64 vn, .string vs, .string nm, .int .i64 ar] 53 (0, 0)) := by rw [hb.block _ (by omega)]; exact hk0
  have hB := hbel.trans (hb.mono (by omega))
  exact ⟨node_cells h0, by rw [hb.block _ (by omega)]; exact hk1, hB, hs.below hB (Nat.le_refl _)⟩
 have HSZ := Lib.hid hsz
 have HA := Lib.hid (fun (b o : Nat) (x : Pc) (h : a = some ⟨b, o, none⟩) (hx : xs[0]? = some x) => show b < w.heap.size from by
  rcases hs.2 with h2 | ⟨b', o', h2, h3, _⟩
  ·rw [h2] at hx; cases hx
  ·rw [h] at h2; cases h2; exact h3)
 clear hk0 hk1 hbel hsz hs hg hnod
 by_cases h0 : op = 0
 ·subst h0
  rw [if_pos rfl] at hR
  have C := Lib.hid (HCST.out rfl)
  rw [hR] at C
  unfold pcV at C ⊢
  obtain ⟨rt, rl, ri⟩ := R
  simp only at C ⊢
  generalize (⟨rt.toArray⟩ : ByteArray) = o at *
  obtain ⟨_, _, hB0, _⟩ := KEEP.out _ (Below.refl _ _)
  have HB0 := Lib.hid hB0
  clear HA HWC HCST HINF HFN hR hB0 htx hlv hln
  go_enter Tryz.func36, Tryz.ntmps36
  go_wp2_with fail
  refine (C.out _ HB0.out).mono ?_
  rintro e w5 ⟨rfl, hb5⟩
  obtain ⟨_, hx5, hB5, _⟩ := KEEP.out w5 (hb5.mono (by rw [HSZ.out]; exact Nat.le_refl _))
  have HX := Lib.hid hx5
  have HB5 := Lib.hid hB5
  clear hb5 hx5 hB5 C KEEP HSZ HB0
  go_wp2_with (with_reducible refine wpList_store_row (o := Oper.mk none (Op.store 76 (.tmp 4) (.tmp 13)) _ _ _ none) rfl 76 (.tmp 4) (.tmp 13) rfl (w.heap.size + 1) #[.string o, .int .i64 rl, .bool ri] ?h0qx ?h0qy 76 _ HX.out ?h0qi ?h0qo ?h0q1 ?h0qk)
  case h0qx => rfl
  case h0qy => rfl
  case h0qi => kernel_rfl
  case h0qo => rfl
  case h0q1 => simp [Value.oneCell']
  go_wp2_with fail
  have hld := box_pc (w := w5.setRow (w.heap.size + 1) #[.string o, .int .i64 rl, .bool ri]) (setRow_heap _ _ _ _ _ _ HX.out)
  exact bodyPost_ret (v := .agg #[.string o, .int .i64 rl, .bool ri]) (by simp [results, Tryz.results36, Act.put, asAddr, hld]) rfl ⟨rfl, (HB5.out).grown (grown_setRow _ _ _) (HB5.out).size (fun z hz => by cases hz; omega)⟩
 rw [if_neg h0] at hR
 by_cases h1 : op = 1
 ·subst h1
  rw [if_pos rfl] at hR
  have hRR : pcV R = .agg #[.string nm, .int .i64 8, .bool false] := by rw [← hR]; unfold pcV; simp only; rw [mk_eq]
  rw [hRR]
  obtain ⟨_, hx5, hB5, _⟩ := KEEP.out _ (Below.refl _ _)
  have HX := Lib.hid hx5
  have HB5 := Lib.hid hB5
  clear HA HWC HCST HINF HFN hR hB5 hx5 htx hlv hln KEEP HSZ hRR
  go_enter Tryz.func36, Tryz.ntmps36
  go_wp2_with (with_reducible refine wpList_store_row (o := Oper.mk none (Op.store 76 (.tmp 4) (.tmp 18)) _ _ _ none) rfl 76 (.tmp 4) (.tmp 18) rfl (w.heap.size + 1) #[.string nm, .int .i64 8, .bool false] ?h1qx ?h1qy 76 _ HX.out ?h1qi ?h1qo ?h1q1 ?h1qk)
  case h1qx => rfl
  case h1qy => rfl
  case h1qi => kernel_rfl
  case h1qo => rfl
  case h1q1 => simp [Value.oneCell']
  go_wp2_with fail
  have hld := box_pc (w := ((w.alloc (.cells #[.int .i64 1, .int .i64 vk, .int .i64 vn, .string vs, .string nm, .int .i64 ar] 53)).alloc (.cells #[.string ⟨#[]⟩, .int .i64 0, .bool false] 76)).setRow (w.heap.size + 1) #[.string nm, .int .i64 8, .bool false]) (setRow_heap _ _ _ _ _ _ HX.out)
  exact bodyPost_ret (v := .agg #[.string nm, .int .i64 8, .bool false]) (by simp [results, Tryz.results36, Act.put, asAddr, hld]) rfl ⟨rfl, (HB5.out).grown (grown_setRow _ _ _) (HB5.out).size (fun z hz => by cases hz; omega)⟩
 rw [if_neg h1] at hR
 have s32 : ∀ (o : ByteArray) (p : ByteArray), p.size ≤ 4 → o.size ≤ 900002 → ¬ (9223372036854775807 < p.size + o.size) := fun o p h1 h2 => by omega
 by_cases h2 : op = 2
 ·subst h2
  rw [if_pos rfl] at hR
  have hl1 : len = 1 := by unfold arN at hln; simp at hln; omega
  obtain ⟨⟨_, _, _, _, _, _⟩, _, hB0, hP0⟩ := KEEP.out _ (Below.refl _ _)
  obtain ⟨x, b0, o0, hx, rfl, hbl, c0, c1, c2⟩ := hP0.at (k := 0) (by omega)
  rw [List.getD_eq_getElem?_getD, hx, Option.getD_some] at hR
  have htx0 := htx 0
  rw [List.getD_eq_getElem?_getD, hx, Option.getD_some] at htx0
  simp only [Nat.zero_mul, Nat.add_zero] at c0 c1 c2
  have CE := Lib.hid (fun W => penclose_any ⟨x.tx.toArray⟩ x.lv x.ig 2 W (by rw [size_mk]; omega))
  have hez : (encS ⟨x.tx.toArray⟩ x.lv 2).size ≤ 900002 := by rw [encS_bts, size_mk]; have := encL_len x 2; omega
  have hRR : pcV R = .agg #[.string (⟨#[110, 111, 116, 32]⟩ ++ encS ⟨x.tx.toArray⟩ x.lv 2), .int .i64 2, .bool false] := by
   have : (⟨#[110, 111, 116, 32]⟩ ++ encS ⟨x.tx.toArray⟩ x.lv 2 : ByteArray) = ⟨(bts notS ++ 32 :: encL x 2).toArray⟩ := by
    apply ext_bts
    rw [encS_bts, bts_app]
    rfl
   rw [← hR, this]
   rfl
  rw [hRR]
  generalize encS ⟨x.tx.toArray⟩ x.lv 2 = ex at *
  generalize (⟨x.tx.toArray⟩ : ByteArray) = sx at *
  obtain ⟨xt, xl, xi⟩ := x
  simp only at c1 c2 CE
  have s1 := s32 ex ⟨#[110, 111, 116, 32]⟩ (by decide) hez
  have hl1i : (0 : Int) < (len : Int) := by omega
  have HB0 := Lib.hid hB0
  clear HA HWC HCST HINF HFN hR hRR htx hlv hln hP0 hx s32 hB0 htx0
  go_enter Tryz.func36, Tryz.ntmps36
  go_wp2_with fail
  refine (CE.out _).mono ?_
  rintro e w5 ⟨rfl, hb5⟩
  obtain ⟨_, hx5, hB5, _⟩ := KEEP.out w5 (hb5.mono (by rw [HSZ.out]; exact Nat.le_refl _))
  have HX := Lib.hid hx5
  have HB5 := Lib.hid hB5
  clear hb5 hx5 hB5 CE KEEP HSZ HB0 c0 c1 c2
  go_wp2_with (with_reducible refine wpList_store_row (o := Oper.mk none (Op.store 76 (.tmp 4) (.tmp 26)) _ _ _ none) rfl 76 (.tmp 4) (.tmp 26) rfl (w.heap.size + 1) #[.string (⟨#[110, 111, 116, 32]⟩ ++ ex), .int .i64 2, .bool false] ?h2qx ?h2qy 76 _ HX.out ?h2qi ?h2qo ?h2q1 ?h2qk)
  case h2qx => rfl
  case h2qy => rfl
  case h2qi => kernel_rfl
  case h2qo => rfl
  case h2q1 => simp [Value.oneCell']
  go_wp2_with fail
  have hld := box_pc (w := w5.setRow (w.heap.size + 1) #[.string (⟨#[110, 111, 116, 32]⟩ ++ ex), .int .i64 2, .bool false]) (setRow_heap _ _ _ _ _ _ HX.out)
  exact bodyPost_ret (v := .agg #[.string (⟨#[110, 111, 116, 32]⟩ ++ ex), .int .i64 2, .bool false]) (by simp [results, Tryz.results36, Act.put, asAddr, hld]) rfl ⟨rfl, (HB5.out).grown (grown_setRow _ _ _) (HB5.out).size (fun z hz => by cases hz; omega)⟩
 rw [if_neg h2] at hR
 by_cases h3 : op = 3
 ·subst h3
  rw [if_pos rfl] at hR
  have hl1 : len = 1 := by unfold arN at hln; simp at hln; omega
  obtain ⟨_, hz0, hB0, hP0⟩ := KEEP.out _ (Below.refl _ _)
  obtain ⟨x, b0, o0, hx, rfl, hbl, c0, c1, c2⟩ := hP0.at (k := 0) (by omega)
  have hbw : b0 < w.heap.size := HA.out _ _ _ rfl hx
  rw [List.getD_eq_getElem?_getD, hx, Option.getD_some, ← enc_neg x (hlv x (List.mem_of_getElem? hx))] at hR
  have htx0 := htx 0
  rw [List.getD_eq_getElem?_getD, hx, Option.getD_some] at htx0
  simp only [Nat.zero_mul, Nat.add_zero] at c0 c1 c2
  have CE := Lib.hid (fun W => penclose_any ⟨x.tx.toArray⟩ x.lv x.ig (if x.ig = true then 9 else 7) W (by rw [size_mk]; omega))
  have CL := Lib.hid (fun W => plevneg_any ⟨x.tx.toArray⟩ x.lv x.ig W)
  have hez : (encS ⟨x.tx.toArray⟩ x.lv (if x.ig = true then 9 else 7)).size ≤ 900002 := by rw [encS_bts, size_mk]; have := encL_len x (if x.ig = true then 9 else 7); omega
  have hRR : pcV R = .agg #[.string (⟨#[45]⟩ ++ encS ⟨x.tx.toArray⟩ x.lv (if x.ig = true then 9 else 7)), .int .i64 7, .bool false] := by
   have : (⟨#[45]⟩ ++ encS ⟨x.tx.toArray⟩ x.lv (if x.ig = true then 9 else 7) : ByteArray) = ⟨(45 :: encL x (if x.ig = true then 9 else 7)).toArray⟩ := by
    apply ext_bts
    rw [encS_bts, bts_app]
    rfl
   rw [← hR, this]
   rfl
  rw [hRR]
  generalize encS ⟨x.tx.toArray⟩ x.lv (if x.ig = true then 9 else 7) = ex at *
  generalize (⟨x.tx.toArray⟩ : ByteArray) = sx at *
  obtain ⟨xt, xl, xi⟩ := x
  simp only at c1 c2 CE CL hRR
  generalize (if xi = true then (9 : Int) else 7) = ll at *
  have s1 := s32 ex ⟨#[45]⟩ (by decide) hez
  have r1 : 1 + ex.size ≤ 9223372036854775807 := by omega
  have t1 : ¬ (9223372036854775807 < 1 + ex.size) := by omega
  have hl1i : (0 : Int) < (len : Int) := by omega
  have hl1n : 0 < len := by omega
  have HB0 := Lib.hid hB0
  have HS := Lib.hid (show ((w.alloc (.cells #[.int .i64 3, .int .i64 vk, .int .i64 vn, .string vs, .string nm, .int .i64 ar] 53)).alloc (.cells #[.string ⟨#[]⟩, .int .i64 0, .bool false] 76)).drew.cell? ⟨b0, o0, none⟩ = some (.string sx) ∧ ((w.alloc (.cells #[.int .i64 3, .int .i64 vk, .int .i64 vn, .string vs, .string nm, .int .i64 ar] 53)).alloc (.cells #[.string ⟨#[]⟩, .int .i64 0, .bool false] 76)).drew.cell? ⟨b0, o0 + 1, none⟩ = some (.int .i64 xl) ∧ ((w.alloc (.cells #[.int .i64 3, .int .i64 vk, .int .i64 vn, .string vs, .string nm, .int .i64 ar] 53)).alloc (.cells #[.string ⟨#[]⟩, .int .i64 0, .bool false] 76)).drew.cell? ⟨b0, o0 + 2, none⟩ = some (.bool xi) ∧ Below (w.heap.size + 1) ((w.alloc (.cells #[.int .i64 3, .int .i64 vk, .int .i64 vn, .string vs, .string nm, .int .i64 ar] 53)).alloc (.cells #[.string ⟨#[]⟩, .int .i64 0, .bool false] 76)) ((w.alloc (.cells #[.int .i64 3, .int .i64 vk, .int .i64 vn, .string vs, .string nm, .int .i64 ar] 53)).alloc (.cells #[.string ⟨#[]⟩, .int .i64 0, .bool false] 76)).drew from ⟨c0, c1, c2, (Below.refl _ _).drew⟩)
  have HZB := Lib.hid (show Box3 ((w.alloc (.cells #[.int .i64 3, .int .i64 vk, .int .i64 vn, .string vs, .string nm, .int .i64 ar] 53)).alloc (.cells #[.string ⟨#[]⟩, .int .i64 0, .bool false] 76)).drew (w.heap.size + 1) (.string ⟨#[]⟩) (.int .i64 0) (.bool false) 76 from ⟨hz0⟩)
  clear HA HWC HCST HINF HFN hR hRR htx hlv hln hP0 hx s32 hB0 htx0 hz0 KEEP hbl
  go_enter Tryz.func36, Tryz.ntmps36
  go_wp2_with fail
  generalize hW0 : ((w.alloc (.cells #[.int .i64 3, .int .i64 vk, .int .i64 vn, .string vs, .string nm, .int .i64 ar] 53)).alloc (.cells #[.string ⟨#[]⟩, .int .i64 0, .bool false] 76)) = W0 at *
  have hsz : w.heap.size + 1 < W0.drew.heap.size ∧ b0 < w.heap.size := ⟨by show _ < W0.heap.size; rw [HSZ.out]; omega, hbw⟩
  have hS0 := HS.out
  have hzb := HZB.out
  have z0 := hzb.c0
  have z1 := hzb.c1
  have z2 := hzb.c2
  have zf := hzb.free
  clear HS HZB hW0 c0 c1 c2 HSZ
  go_region_held3 (fun w' => w'.cell? ⟨b0, o0, none⟩ = some (.string sx) ∧ w'.cell? ⟨b0, o0 + 1, none⟩ = some (.int .i64 xl) ∧ w'.cell? ⟨b0, o0 + 2, none⟩ = some (.bool xi) ∧ Below (w.heap.size + 1) W0 w')
   (first | with_reducible exact hS0 | exact keepNeg (by assumption) (by assumption) hcall | exact keepNegSt (by assumption) (by assumption))
   (first
    | (go_at_call 69; refine (CL.out _).mono ?_; rintro e w' ⟨rfl, hcall⟩; have hsz := And.intro (Nat.lt_of_lt_of_le hsz.1 hcall.size) hsz.2; have hzb := Box3.keep (by assumption) hcall; have z0 := hzb.c0; have z1 := hzb.c1; have z2 := hzb.c2; have zf := hzb.free)
    | (go_at_call 68; refine (CE.out _).mono ?_; rintro e w' ⟨rfl, hcall⟩; have hsz := And.intro (Nat.lt_of_lt_of_le hsz.1 hcall.size) hsz.2; have hzb := Box3.keep (by assumption) hcall; have z0 := hzb.c0; have z1 := hzb.c1; have z2 := hzb.c2; have zf := hzb.free))
  all_goals
   obtain ⟨_, _, _, hB⟩ := ‹_ ∧ _ ∧ _ ∧ Below _ _ _›
   have HF := Lib.hid (HB0.out.trans (hB.mono (by omega)))
   have hld := box_pc (Box3.store (x' := .string (⟨#[45]⟩ ++ ex)) (y' := .int .i64 7) (z' := .bool false) hzb).block
   clear hB
   go_wp2_with fail
   exact bodyPost_ret (v := .agg #[.string (⟨#[45]⟩ ++ ex), .int .i64 7, .bool false]) (by simp [results, Tryz.results36, Act.put, asAddr, hld]) rfl ⟨rfl, HF.out⟩
 rw [if_neg h3] at hR
 by_cases hbin : 4 ≤ op ∧ op ≤ 15
 ·rw [if_pos hbin] at hR
  obtain ⟨wd, lv, hinf, hwd, hlvb, hbp⟩ := infO_bin hbin
  have hl2 : len = 2 := by
   unfold arN at hln
   simp only at hln
   rw [if_neg (by omega), if_neg (by omega), if_neg (by omega), if_neg (by omega), if_pos (by omega)] at hln
   omega
  rw [hinf] at HINF
  rw [hbp] at hR
  unfold infV at HINF
  simp only at HINF hR
  obtain ⟨_, hz0, hB0, hP0⟩ := KEEP.out _ (Below.refl _ _)
  obtain ⟨x, b0, o0, hx, rfl, hbl, c0, c1, c2⟩ := hP0.at (k := 0) (by omega)
  obtain ⟨y, b1, o1, hy, hb1, _, d0, d1, d2⟩ := hP0.at (k := 1) (by omega)
  cases hb1
  have hbw : b0 < w.heap.size := HA.out _ _ _ rfl hx
  have htx0 := htx 0
  have htx1 := htx 1
  rw [List.getD_eq_getElem?_getD, hx, Option.getD_some] at htx0
  rw [List.getD_eq_getElem?_getD, hy, Option.getD_some] at htx1
  rw [List.getD_eq_getElem?_getD, hx, Option.getD_some, List.getD_eq_getElem?_getD, hy, Option.getD_some] at hR
  simp only [Nat.zero_mul, Nat.add_zero, Nat.one_mul] at c0 c1 c2 d0 d1 d2
  have CI := Lib.hid (fun W => pwinf_any wd lv op false x y W (by omega) (by omega) hwd hlvb)
  rw [hR] at CI
  have HI := Lib.hid (HINF.out _ hB0)
  unfold pcV at CI ⊢
  obtain ⟨rt, rl, ri⟩ := R
  simp only at CI ⊢
  generalize (⟨rt.toArray⟩ : ByteArray) = o at *
  generalize (⟨x.tx.toArray⟩ : ByteArray) = sx at *
  generalize (⟨y.tx.toArray⟩ : ByteArray) = sy at *
  obtain ⟨xt, xl, xi⟩ := x
  obtain ⟨yt, yl, yi⟩ := y
  simp only at c1 c2 d1 d2 CI
  have i0 : (0 : Int) < (len : Int) := by omega
  have i1 : (1 : Int) < (len : Int) := by omega
  have i2 : 0 < len := by omega
  have i3 : 1 < len := by omega
  have HB0 := Lib.hid hB0
  have hops0 : (op == 0) = false := by simpa using h0
  have hops1 : (op == 1) = false := by simpa using h1
  have hops2 : (op == 2) = false := by simpa using h2
  have hops3 : (op == 3) = false := by simpa using h3
  have HC := Lib.hid (show ((w.alloc (.cells #[.int .i64 op, .int .i64 vk, .int .i64 vn, .string vs, .string nm, .int .i64 ar] 53)).alloc (.cells #[.string ⟨#[]⟩, .int .i64 0, .bool false] 76)).cell? ⟨b0, o0, none⟩ = some (.string sx) ∧ ((w.alloc (.cells #[.int .i64 op, .int .i64 vk, .int .i64 vn, .string vs, .string nm, .int .i64 ar] 53)).alloc (.cells #[.string ⟨#[]⟩, .int .i64 0, .bool false] 76)).cell? ⟨b0, o0 + 1, none⟩ = some (.int .i64 xl) ∧ ((w.alloc (.cells #[.int .i64 op, .int .i64 vk, .int .i64 vn, .string vs, .string nm, .int .i64 ar] 53)).alloc (.cells #[.string ⟨#[]⟩, .int .i64 0, .bool false] 76)).cell? ⟨b0, o0 + 2, none⟩ = some (.bool xi) ∧ ((w.alloc (.cells #[.int .i64 op, .int .i64 vk, .int .i64 vn, .string vs, .string nm, .int .i64 ar] 53)).alloc (.cells #[.string ⟨#[]⟩, .int .i64 0, .bool false] 76)).cell? ⟨b0, o0 + 3, none⟩ = some (.string sy) ∧ ((w.alloc (.cells #[.int .i64 op, .int .i64 vk, .int .i64 vn, .string vs, .string nm, .int .i64 ar] 53)).alloc (.cells #[.string ⟨#[]⟩, .int .i64 0, .bool false] 76)).cell? ⟨b0, o0 + 3 + 1, none⟩ = some (.int .i64 yl) ∧ ((w.alloc (.cells #[.int .i64 op, .int .i64 vk, .int .i64 vn, .string vs, .string nm, .int .i64 ar] 53)).alloc (.cells #[.string ⟨#[]⟩, .int .i64 0, .bool false] 76)).cell? ⟨b0, o0 + 3 + 2, none⟩ = some (.bool yi) from ⟨c0, c1, c2, d0, d1, d2⟩)
  clear HA HWC HCST HINF HFN hR htx hlv hln hP0 hx hy s32 hB0 htx0 htx1 KEEP hbl c0 c1 c2 d0 d1 d2 hinf hbp h0 h1 h2 h3
  go_enter Tryz.func36, Tryz.ntmps36
  go_wp2_with fail
  refine HI.out.mono ?_
  generalize hW0 : ((w.alloc (.cells #[.int .i64 op, .int .i64 vk, .int .i64 vn, .string vs, .string nm, .int .i64 ar] 53)).alloc (.cells #[.string ⟨#[]⟩, .int .i64 0, .bool false] 76)) = W0 at *
  rintro e w5 ⟨rfl, hb5⟩
  have hs5 := hb5.size
  rw [HSZ.out] at hs5
  have hgn := heap_alloc_new w5 (.cells #[.string wd, .int .i64 lv, .int .i64 op, .bool false] 109)
  have hbA : Below W0.heap.size W0 (w5.alloc (.cells #[.string wd, .int .i64 lv, .int .i64 op, .bool false] 109)) := hb5.alloc hb5.size _
  have e : ∀ oo, (w5.alloc (.cells #[.string wd, .int .i64 lv, .int .i64 op, .bool false] 109)).cell? ⟨b0, oo, none⟩ = W0.cell? ⟨b0, oo, none⟩ := fun oo => hbA.cell (p := ⟨b0, oo, none⟩) (by show b0 < W0.heap.size; rw [HSZ.out]; omega)
  obtain ⟨c0, c1, c2, d0, d1, d2⟩ := HC.out
  have hS : Hid ((w5.alloc (.cells #[.string wd, .int .i64 lv, .int .i64 op, .bool false] 109)).drew.cell? ⟨w5.heap.size, 0, none⟩ = some (.string wd) ∧ (w5.alloc (.cells #[.string wd, .int .i64 lv, .int .i64 op, .bool false] 109)).drew.cell? ⟨w5.heap.size, 1, none⟩ = some (.int .i64 lv) ∧ (w5.alloc (.cells #[.string wd, .int .i64 lv, .int .i64 op, .bool false] 109)).drew.cell? ⟨w5.heap.size, 2, none⟩ = some (.int .i64 op) ∧ (w5.alloc (.cells #[.string wd, .int .i64 lv, .int .i64 op, .bool false] 109)).drew.cell? ⟨w5.heap.size, 3, none⟩ = some (.bool false) ∧ (w5.alloc (.cells #[.string wd, .int .i64 lv, .int .i64 op, .bool false] 109)).drew.cell? ⟨b0, o0, none⟩ = some (.string sx) ∧ (w5.alloc (.cells #[.string wd, .int .i64 lv, .int .i64 op, .bool false] 109)).drew.cell? ⟨b0, o0 + 1, none⟩ = some (.int .i64 xl) ∧ (w5.alloc (.cells #[.string wd, .int .i64 lv, .int .i64 op, .bool false] 109)).drew.cell? ⟨b0, o0 + 2, none⟩ = some (.bool xi) ∧ (w5.alloc (.cells #[.string wd, .int .i64 lv, .int .i64 op, .bool false] 109)).drew.cell? ⟨b0, o0 + 3, none⟩ = some (.string sy) ∧ (w5.alloc (.cells #[.string wd, .int .i64 lv, .int .i64 op, .bool false] 109)).drew.cell? ⟨b0, o0 + 3 + 1, none⟩ = some (.int .i64 yl) ∧ (w5.alloc (.cells #[.string wd, .int .i64 lv, .int .i64 op, .bool false] 109)).drew.cell? ⟨b0, o0 + 3 + 2, none⟩ = some (.bool yi) ∧ Below (w.heap.size + 1) W0 (w5.alloc (.cells #[.string wd, .int .i64 lv, .int .i64 op, .bool false] 109)).drew) := ⟨(cell_of_row _ _ 0 _ _ _ hgn).trans rfl, (cell_of_row _ _ 1 _ _ _ hgn).trans rfl, (cell_of_row _ _ 2 _ _ _ hgn).trans rfl, (cell_of_row _ _ 3 _ _ _ hgn).trans rfl, (e _).trans c0, (e _).trans c1, (e _).trans c2, (e _).trans d0, (e _).trans d1, (e _).trans d2, (hbA.mono (by rw [HSZ.out]; omega)).drew⟩
  have hZ : Hid (Box3 (w5.alloc (.cells #[.string wd, .int .i64 lv, .int .i64 op, .bool false] 109)).drew (w.heap.size + 1) (.string ⟨#[]⟩) (.int .i64 0) (.bool false) 76) := ⟨by
   show (w5.alloc _).heap[w.heap.size + 1]? = _
   rw [hbA.block _ (by rw [HSZ.out]; omega)]
   exact hz0⟩
  clear hb5 hgn hbA e c0 c1 c2 d0 d1 d2 HC HI hz0 hW0
  go_wp2_with fail
  generalize hW5 : w5.alloc (.cells #[.string wd, .int .i64 lv, .int .i64 op, .bool false] 109) = W5 at *
  have hsz : w.heap.size + 1 < w5.heap.size ∧ w5.heap.size < W5.drew.heap.size ∧ b0 < w.heap.size := ⟨by omega, by rw [← hW5]; show _ < (w5.alloc _).heap.size; simp, hbw⟩
  have hS0 := hS.out
  have hzb := hZ.out
  have z0 := hzb.c0
  have z1 := hzb.c1
  have z2 := hzb.c2
  have zf := hzb.free
  clear hS hZ hW5 HSZ
  generalize w5.heap.size = g at *
  go_region_held3 (fun w' => w'.cell? ⟨g, 0, none⟩ = some (.string wd) ∧ w'.cell? ⟨g, 1, none⟩ = some (.int .i64 lv) ∧ w'.cell? ⟨g, 2, none⟩ = some (.int .i64 op) ∧ w'.cell? ⟨g, 3, none⟩ = some (.bool false) ∧ w'.cell? ⟨b0, o0, none⟩ = some (.string sx) ∧ w'.cell? ⟨b0, o0 + 1, none⟩ = some (.int .i64 xl) ∧ w'.cell? ⟨b0, o0 + 2, none⟩ = some (.bool xi) ∧ w'.cell? ⟨b0, o0 + 3, none⟩ = some (.string sy) ∧ w'.cell? ⟨b0, o0 + 3 + 1, none⟩ = some (.int .i64 yl) ∧ w'.cell? ⟨b0, o0 + 3 + 2, none⟩ = some (.bool yi) ∧ Below (w.heap.size + 1) W0 w')
   (first | with_reducible exact hS0 | exact keepIn (by assumption) (by assumption) hcall | exact keepInSt (by assumption) (by assumption))
   (first
    | (go_at_call 71; refine (CI.out _).mono ?_; rintro e w' ⟨rfl, hcall⟩; have hsz := And.intro hsz.1 (And.intro (Nat.lt_of_lt_of_le hsz.2.1 hcall.size) hsz.2.2); have hzb := Box3.keep (by assumption) hcall; have z0 := hzb.c0; have z1 := hzb.c1; have z2 := hzb.c2; have zf := hzb.free))
  all_goals
   obtain ⟨_, _, _, _, _, _, _, _, _, _, hB⟩ := ‹_ ∧ _ ∧ _ ∧ _ ∧ _ ∧ _ ∧ _ ∧ _ ∧ _ ∧ _ ∧ Below _ _ _›
   have HF := Lib.hid (HB0.out.trans (hB.mono (by omega)))
   have hld := box_pc (Box3.store (x' := .string o) (y' := .int .i64 rl) (z' := .bool ri) hzb).block
   clear hB
   go_wp2_with fail
   exact bodyPost_ret (v := .agg #[.string o, .int .i64 rl, .bool ri]) (by simp [results, Tryz.results36, Act.put, asAddr, hld]) rfl ⟨rfl, HF.out⟩
 rw [if_neg hbin] at hR
 ·have hc : 16 ≤ op ∧ op ≤ 21 := by omega
  have hf := HFN.out hc
  rw [← hf] at hR
  have C := Lib.hid HWC.out
  rw [hR] at C
  rw [infO_none (by omega)] at HINF
  unfold infV at HINF
  simp only at HINF
  unfold pcV at C ⊢
  obtain ⟨rt, rl, ri⟩ := R
  simp only at C ⊢
  generalize (⟨rt.toArray⟩ : ByteArray) = o at *
  obtain ⟨_, _, hB0, _⟩ := KEEP.out _ (Below.refl _ _)
  have HI := Lib.hid (HINF.out _ hB0)
  have hops0 : (op == 0) = false := by simpa using h0
  have hops1 : (op == 1) = false := by simpa using h1
  have hops2 : (op == 2) = false := by simpa using h2
  have hops3 : (op == 3) = false := by simpa using h3
  clear HA HWC HCST HINF HFN hR hB0 htx hlv hln hf s32 h0 h1 h2 h3
  go_enter Tryz.func36, Tryz.ntmps36
  go_wp2_with fail
  refine HI.out.mono ?_
  generalize hW0 : ((w.alloc (.cells #[.int .i64 op, .int .i64 vk, .int .i64 vn, .string vs, .string nm, .int .i64 ar] 53)).alloc (.cells #[.string ⟨#[]⟩, .int .i64 0, .bool false] 76)) = W0 at *
  rintro e w5 ⟨rfl, hb5⟩
  have hs5 := hb5.size
  have hbA : Below (w.heap.size + 2) W0 (w5.alloc (.cells #[.string ⟨#[]⟩, .int .i64 0, .int .i64 0, .bool false] 109)) := (hb5.alloc hb5.size _).mono (by rw [HSZ.out]; exact Nat.le_refl _)
  obtain ⟨⟨c0, c1, c2, c3, c4, c5⟩, _, hB5, _⟩ := KEEP.out _ hbA
  have C5 := Lib.hid (C.out _ hB5)
  have HBA := Lib.hid hbA
  rw [HSZ.out] at hs5
  clear hb5 hbA hB5 HI C hW0
  go_wp2_with fail
  refine C5.out.mono ?_
  rintro e w6 ⟨rfl, hb6⟩
  obtain ⟨_, hx6, hB6, _⟩ := KEEP.out w6 (HBA.out.trans (hb6.mono (by simp; omega)))
  have HX := Lib.hid hx6
  have HB6 := Lib.hid hB6
  clear hb6 hx6 hB6 C5 KEEP HSZ c0 c1 c2 c3 c4 c5 HBA
  go_wp2_with (with_reducible refine wpList_store_row (o := Oper.mk none (Op.store 76 (.tmp 4) (.tmp 56)) _ _ _ none) rfl 76 (.tmp 4) (.tmp 56) rfl (w.heap.size + 1) #[.string o, .int .i64 rl, .bool ri] ?h3qx ?h3qy 76 _ HX.out ?h3qi ?h3qo ?h3q1 ?h3qk)
  case h3qx => rfl
  case h3qy => rfl
  case h3qi => kernel_rfl
  case h3qo => rfl
  case h3q1 => simp [Value.oneCell']
  go_wp2_with fail
  have hld := box_pc (w := w6.setRow (w.heap.size + 1) #[.string o, .int .i64 rl, .bool ri]) (setRow_heap _ _ _ _ _ _ HX.out)
  exact bodyPost_ret (v := .agg #[.string o, .int .i64 rl, .bool ri]) (by simp [results, Tryz.results36, Act.put, asAddr, hld]) rfl ⟨rfl, (HB6.out).grown (grown_setRow _ _ _) (HB6.out).size (fun z hz => by cases hz; omega)⟩
end Go.Proofs.YtmdpjahhhfajaaaGreatDoor
