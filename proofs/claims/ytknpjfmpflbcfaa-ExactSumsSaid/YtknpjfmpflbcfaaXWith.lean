/-
  Within, of exact and of its reference.
-/
import Derived.Test.YtknpjfmpflbcfaaXCmp
set_option linter.unusedVariables false
namespace Go.Proofs.Ytknpjfmpflbcfaa
open Go.RowKit Wh

/-- Is p of q a share from a / b to c / d? -/
def withinB (p q a b c d : Int) : Bool :=
  if p < 0 ∨ q < p ∨ 1073741824 < q then false else if (wfB a b && wfB c d) = true then (if q = 0 then true else decide (a * q ≤ p * b) && decide (p * d ≤ c * q)) else false

theorem withinB_out {p q a b c d : Int} (h : p < 0 ∨ q < p ∨ 1073741824 < q) : withinB p q a b c d = false := by unfold withinB; rw [if_pos h]
theorem withinB_no {p q a b c d : Int} (h : (wfB a b && wfB c d) = false) : withinB p q a b c d = false := by
  unfold withinB
  rw [h]
  split <;> rfl
theorem withinB_zero {a b c d : Int} (h1 : wfB a b = true) (h2 : wfB c d = true) : withinB 0 0 a b c d = true := by
  unfold withinB
  rw [h1, h2]
  rfl
theorem withinB_yes {p q a b c d : Int} (h1 : 0 ≤ p) (h2 : p ≤ q) (h3 : q ≤ 1073741824) (hq : ¬ q = 0) (k1 : wfB a b = true) (k2 : wfB c d = true) : withinB p q a b c d = (decide (a * q ≤ p * b) && decide (p * d ≤ c * q)) := by
  unfold withinB
  rw [k1, k2, if_neg (by omega), if_pos (by rfl : (true && true) = true), if_neg hq]

theorem within_out (p q a b c d : Int) (h : p < 0 ∨ q < p ∨ 1073741824 < q) (w : World) :
    Calls Try.prog 29 #[.int .i64 p, .int .i64 q, rat a b, rat c d] w fun e w' => e = .returned (.bool false) ∧ Below w.heap.size w w' := by
  rcases (show p < 0 ∨ (0 ≤ p ∧ q < p) ∨ (0 ≤ p ∧ p ≤ q ∧ 1073741824 < q) by omega) with h1 | ⟨h1, h2⟩ | ⟨h1, h2, h3⟩
  all_goals
    clear h
    go_enter Try.func29, Try.ntmps29
    go_wp2_with fail
    go_ret
    exact ⟨rfl, (((Below.refl _ _).alloc (Nat.le_refl _) _).alloc (by simp) _)⟩

theorem within_no1 (p q a b c d : Int) (h1 : 0 ≤ p) (h2 : p ≤ q) (h3 : q ≤ 1073741824) (k1 : wfB a b = false) (w : World) :
    Calls Try.prog 29 #[.int .i64 p, .int .i64 q, rat a b, rat c d] w fun e w' => e = .returned (.bool false) ∧ Below w.heap.size w w' := by
    go_enter Try.func29, Try.ntmps29
    go_wp2_with fail
    refine (wf_any _ _ _).mono ?_
    rintro e w1 ⟨rfl, hb⟩
    obtain ⟨hc, hf⟩ := bcell hb
    have hs : w.heap.size + 1 < w1.heap.size := by have := hb.size; simp at this; omega
    have ht : w.heap.size < w1.heap.size := by omega
    go_wp2_with fail
    go_ret
    exact ⟨rfl, ((((Below.refl _ _).alloc (Nat.le_refl _) _).alloc (by simp) _).trans (hb.mono (by simp; omega)))⟩

theorem within_no2 (p q a b c d : Int) (h1 : 0 ≤ p) (h2 : p ≤ q) (h3 : q ≤ 1073741824) (k1 : wfB a b = true) (k2 : wfB c d = false) (w : World) :
    Calls Try.prog 29 #[.int .i64 p, .int .i64 q, rat a b, rat c d] w fun e w' => e = .returned (.bool false) ∧ Below w.heap.size w w' := by
    go_enter Try.func29, Try.ntmps29
    go_wp2_with fail
    refine (wf_any _ _ _).mono ?_
    rintro e w1 ⟨rfl, hb⟩
    obtain ⟨hc, hf⟩ := bcell hb
    have hs : w.heap.size + 1 < w1.heap.size := by have := hb.size; simp at this; omega
    have ht : w.heap.size < w1.heap.size := by omega
    go_wp2_with fail
    refine (wf_any _ _ _).mono ?_
    rintro e w2 ⟨rfl, hb2⟩
    obtain ⟨hc2, hf2⟩ := bcell hb2
    have hs2 : w.heap.size + 1 < w2.heap.size := by have := hb2.size; omega
    have ht2 : w.heap.size < w2.heap.size := by omega
    go_wp2_with fail
    go_ret
    exact ⟨rfl, (((((Below.refl _ _).alloc (Nat.le_refl _) _).alloc (by simp) _).trans (hb.mono (by simp; omega))).trans (hb2.mono (by omega)))⟩

theorem within_zero (a b c d : Int) (k1 : wfB a b = true) (k2 : wfB c d = true) (w : World) :
    Calls Try.prog 29 #[.int .i64 0, .int .i64 0, rat a b, rat c d] w fun e w' => e = .returned (.bool true) ∧ Below w.heap.size w w' := by
    go_enter Try.func29, Try.ntmps29
    go_wp2_with fail
    refine (wf_any _ _ _).mono ?_
    rintro e w1 ⟨rfl, hb⟩
    obtain ⟨hc, hf⟩ := bcell hb
    have hs : w.heap.size + 1 < w1.heap.size := by have := hb.size; simp at this; omega
    have ht : w.heap.size < w1.heap.size := by omega
    go_wp2_with fail
    refine (wf_any _ _ _).mono ?_
    rintro e w2 ⟨rfl, hb2⟩
    obtain ⟨hc2, hf2⟩ := bcell hb2
    have hs2 : w.heap.size + 1 < w2.heap.size := by have := hb2.size; omega
    have ht2 : w.heap.size < w2.heap.size := by omega
    go_wp2_with fail
    go_ret
    exact ⟨rfl, (((((Below.refl _ _).alloc (Nat.le_refl _) _).alloc (by simp) _).trans (hb.mono (by simp; omega))).trans (hb2.mono (by omega)))⟩

theorem within_yes (p q a b c d : Int) (h1 : 0 ≤ p) (h2 : p ≤ q) (h3 : q ≤ 1073741824) (h4 : 1 ≤ q) (k1 : wfB a b = true) (k2 : wfB c d = true) (w : World) :
    Calls Try.prog 29 #[.int .i64 p, .int .i64 q, rat a b, rat c d] w fun e w' => e = .returned (.bool (decide (a * q ≤ p * b) && decide (p * d ≤ c * q))) ∧ Below w.heap.size w w' := by
    have k3 : wfB p q = true := by unfold wfB; rw [smB_true (by omega) (by omega)]; simp; omega
    have hz : (q == 0) = false := by simpa using (show ¬ q = 0 by omega)
    have hc1 := fun W => cmpvals_any a b p q k1 k3 W
    have hc2 := fun W => cmpvals_any p q c d k3 k2 W
    have l1 := cmpZ_le (a * q) (p * b)
    have l2 := cmpZ_le (p * d) (c * q)
    generalize cmpZ (a * q) (p * b) = x at hc1 l1
    generalize cmpZ (p * d) (c * q) = y at hc2 l2
    have X1 : Hid (decide (a * q ≤ p * b) = decide (x ≤ 0)) := Lib.hid (by simp only [l1])
    have X2 : Hid (decide (p * d ≤ c * q) = decide (y ≤ 0)) := Lib.hid (by simp only [l2])
    have V1 := Lib.hid hc1
    have V2 := Lib.hid hc2
    clear hc1 hc2 l1 l2 k3
    go_enter Try.func29, Try.ntmps29
    go_wp2_with fail
    refine (wf_any _ _ _).mono ?_
    rintro e w1 ⟨rfl, hb⟩
    obtain ⟨hc, hf⟩ := bcell hb
    have hs : w.heap.size + 1 < w1.heap.size := by have := hb.size; simp at this; omega
    have ht : w.heap.size < w1.heap.size := by omega
    go_wp2_with fail
    refine (wf_any _ _ _).mono ?_
    rintro e w2 ⟨rfl, hb2⟩
    obtain ⟨hc2, hf2⟩ := bcell hb2
    have hs2 : w.heap.size + 1 < w2.heap.size := by have := hb2.size; omega
    have ht2 : w.heap.size < w2.heap.size := by omega
    go_wp2_with fail
    refine (V1.out _).mono ?_
    rintro e w3 ⟨rfl, hb3⟩
    obtain ⟨hc3, hf3⟩ := bcell hb3
    have hs3 : w.heap.size + 1 < w3.heap.size := by have := hb3.size; simp at this; omega
    have ht3 : w.heap.size < w3.heap.size := by omega
    have hB : Hid (Below w.heap.size w w3) := Lib.hid ((((((((Below.refl _ _).alloc (Nat.le_refl _) _).alloc (by simp) _).trans (hb.mono (by simp; omega))).trans (hb2.mono (by omega))).alloc (by omega) _).trans (hb3.mono (by simp; omega))))
    clear hb hb2
    by_cases hx : x ≤ 0
    · go_wp2_with fail
      refine (V2.out _).mono ?_
      rintro e w4 ⟨rfl, hb4⟩
      go_wp2_with fail
      go_ret
      exact ⟨ret_bool (by rw [X1.out, X2.out, decide_eq_true hx, Bool.true_and]), hB.out.trans (hb4.mono (by omega))⟩
    · go_wp2_with fail
      go_ret
      exact ⟨ret_bool (by rw [X1.out, decide_eq_false (show ¬ x ≤ 0 by omega), Bool.false_and]), hB.out⟩

theorem within_any (p q a b c d : Int) (w : World) :
    Calls Try.prog 29 #[.int .i64 p, .int .i64 q, rat a b, rat c d] w fun e w' => e = .returned (.bool (withinB p q a b c d)) ∧ Below w.heap.size w w' := by
  by_cases h : p < 0 ∨ q < p ∨ 1073741824 < q
  · rw [withinB_out h]; exact within_out p q a b c d h w
  · cases k1 : wfB a b
    · rw [withinB_no (by rw [k1]; rfl)]; exact within_no1 p q a b c d (by omega) (by omega) (by omega) k1 w
    · cases k2 : wfB c d
      · rw [withinB_no (by rw [k2, Bool.and_false])]; exact within_no2 p q a b c d (by omega) (by omega) (by omega) k1 k2 w
      · by_cases hq : q = 0
        · subst hq
          obtain rfl : p = 0 := by omega
          rw [withinB_zero k1 k2]; exact within_zero a b c d k1 k2 w
        · rw [withinB_yes (by omega) (by omega) (by omega) hq k1 k2]; exact within_yes p q a b c d (by omega) (by omega) (by omega) (by omega) k1 k2 w

theorem rwithin_out (p q a b c d : Int) (h : p < 0 ∨ q < p ∨ 1073741824 < q) (w : World) :
    Calls Try.prog 30 #[.int .i64 p, .int .i64 q, rat a b, rat c d] w fun e w' => e = .returned (.bool false) ∧ Below w.heap.size w w' := by
  rcases (show p < 0 ∨ (0 ≤ p ∧ q < p) ∨ (0 ≤ p ∧ p ≤ q ∧ 1073741824 < q) by omega) with h1 | ⟨h1, h2⟩ | ⟨h1, h2, h3⟩
  all_goals
    clear h
    go_enter Try.func30, Try.ntmps30
    go_wp2_with fail
    go_ret
    exact ⟨rfl, (((Below.refl _ _).alloc (Nat.le_refl _) _).alloc (by simp) _)⟩

theorem rwithin_no1 (p q a b c d : Int) (h1 : 0 ≤ p) (h2 : p ≤ q) (h3 : q ≤ 1073741824) (k1 : wfB a b = false) (w : World) :
    Calls Try.prog 30 #[.int .i64 p, .int .i64 q, rat a b, rat c d] w fun e w' => e = .returned (.bool false) ∧ Below w.heap.size w w' := by
    go_enter Try.func30, Try.ntmps30
    go_wp2_with fail
    refine (rwf_any _ _ _).mono ?_
    rintro e w1 ⟨rfl, hb⟩
    obtain ⟨hc, hf⟩ := bcell hb
    have hs : w.heap.size + 1 < w1.heap.size := by have := hb.size; simp at this; omega
    have ht : w.heap.size < w1.heap.size := by omega
    go_wp2_with fail
    go_ret
    exact ⟨rfl, ((((Below.refl _ _).alloc (Nat.le_refl _) _).alloc (by simp) _).trans (hb.mono (by simp; omega)))⟩

theorem rwithin_no2 (p q a b c d : Int) (h1 : 0 ≤ p) (h2 : p ≤ q) (h3 : q ≤ 1073741824) (k1 : wfB a b = true) (k2 : wfB c d = false) (w : World) :
    Calls Try.prog 30 #[.int .i64 p, .int .i64 q, rat a b, rat c d] w fun e w' => e = .returned (.bool false) ∧ Below w.heap.size w w' := by
    go_enter Try.func30, Try.ntmps30
    go_wp2_with fail
    refine (rwf_any _ _ _).mono ?_
    rintro e w1 ⟨rfl, hb⟩
    obtain ⟨hc, hf⟩ := bcell hb
    have hs : w.heap.size + 1 < w1.heap.size := by have := hb.size; simp at this; omega
    have ht : w.heap.size < w1.heap.size := by omega
    go_wp2_with fail
    refine (rwf_any _ _ _).mono ?_
    rintro e w2 ⟨rfl, hb2⟩
    obtain ⟨hc2, hf2⟩ := bcell hb2
    have hs2 : w.heap.size + 1 < w2.heap.size := by have := hb2.size; omega
    have ht2 : w.heap.size < w2.heap.size := by omega
    go_wp2_with fail
    go_ret
    exact ⟨rfl, (((((Below.refl _ _).alloc (Nat.le_refl _) _).alloc (by simp) _).trans (hb.mono (by simp; omega))).trans (hb2.mono (by omega)))⟩

theorem rwithin_zero (a b c d : Int) (k1 : wfB a b = true) (k2 : wfB c d = true) (w : World) :
    Calls Try.prog 30 #[.int .i64 0, .int .i64 0, rat a b, rat c d] w fun e w' => e = .returned (.bool true) ∧ Below w.heap.size w w' := by
    go_enter Try.func30, Try.ntmps30
    go_wp2_with fail
    refine (rwf_any _ _ _).mono ?_
    rintro e w1 ⟨rfl, hb⟩
    obtain ⟨hc, hf⟩ := bcell hb
    have hs : w.heap.size + 1 < w1.heap.size := by have := hb.size; simp at this; omega
    have ht : w.heap.size < w1.heap.size := by omega
    go_wp2_with fail
    refine (rwf_any _ _ _).mono ?_
    rintro e w2 ⟨rfl, hb2⟩
    obtain ⟨hc2, hf2⟩ := bcell hb2
    have hs2 : w.heap.size + 1 < w2.heap.size := by have := hb2.size; omega
    have ht2 : w.heap.size < w2.heap.size := by omega
    go_wp2_with fail
    go_ret
    exact ⟨rfl, (((((Below.refl _ _).alloc (Nat.le_refl _) _).alloc (by simp) _).trans (hb.mono (by simp; omega))).trans (hb2.mono (by omega)))⟩

theorem rwithin_yes (p q a b c d : Int) (h1 : 0 ≤ p) (h2 : p ≤ q) (h3 : q ≤ 1073741824) (h4 : 1 ≤ q) (k1 : wfB a b = true) (k2 : wfB c d = true) (w : World) :
    Calls Try.prog 30 #[.int .i64 p, .int .i64 q, rat a b, rat c d] w fun e w' => e = .returned (.bool (decide (a * q ≤ p * b) && decide (p * d ≤ c * q))) ∧ Below w.heap.size w w' := by
    have hz : (q == 0) = false := by simpa using (show ¬ q = 0 by omega)
    obtain ⟨a1, a2, a3⟩ := wfB_bd k1
    obtain ⟨c1, c2, c3⟩ := wfB_bd k2
    have sp : smB p = true := smB_true (by omega) (by omega)
    have sq : smB q = true := smB_true (by omega) (by omega)
    have m1 := mul_small a1 sq
    have m2 := mul_small sp (smB_true (x := b) (by omega) a3)
    have m3 := mul_small sp (smB_true (x := d) (by omega) c3)
    have m4 := mul_small c1 sq
    clear a1 c1 sp sq
    by_cases g1 : a * q ≤ p * b
    case neg =>
      have HE := Lib.hid (show (decide (a * q ≤ p * b) && decide (p * d ≤ c * q)) = false by rw [decide_eq_false g1]; rfl)
      go_enter Try.func30, Try.ntmps30
      go_wp2_with fail
      refine (rwf_any _ _ _).mono ?_
      rintro e w1 ⟨rfl, hb⟩
      obtain ⟨hc, hf⟩ := bcell hb
      have hs : w.heap.size + 1 < w1.heap.size := by have := hb.size; simp at this; omega
      have ht : w.heap.size < w1.heap.size := by omega
      go_wp2_with fail
      refine (rwf_any _ _ _).mono ?_
      rintro e w2 ⟨rfl, hb2⟩
      obtain ⟨hc2, hf2⟩ := bcell hb2
      have hs2 : w.heap.size + 1 < w2.heap.size := by have := hb2.size; omega
      have ht2 : w.heap.size < w2.heap.size := by omega
      go_wp2_with fail
      go_ret
      exact ⟨ret_bool HE.out.symm, (((((Below.refl _ _).alloc (Nat.le_refl _) _).alloc (by simp) _).trans (hb.mono (by simp; omega))).trans (hb2.mono (by omega)))⟩
    case pos =>
      have HE := Lib.hid (show (decide (a * q ≤ p * b) && decide (p * d ≤ c * q)) = decide (p * d ≤ c * q) by rw [decide_eq_true g1]; rfl)
      go_enter Try.func30, Try.ntmps30
      go_wp2_with fail
      refine (rwf_any _ _ _).mono ?_
      rintro e w1 ⟨rfl, hb⟩
      obtain ⟨hc, hf⟩ := bcell hb
      have hs : w.heap.size + 1 < w1.heap.size := by have := hb.size; simp at this; omega
      have ht : w.heap.size < w1.heap.size := by omega
      go_wp2_with fail
      refine (rwf_any _ _ _).mono ?_
      rintro e w2 ⟨rfl, hb2⟩
      obtain ⟨hc2, hf2⟩ := bcell hb2
      have hs2 : w.heap.size + 1 < w2.heap.size := by have := hb2.size; omega
      have ht2 : w.heap.size < w2.heap.size := by omega
      go_wp2_with fail
      go_ret
      exact ⟨ret_bool HE.out.symm, (((((Below.refl _ _).alloc (Nat.le_refl _) _).alloc (by simp) _).trans (hb.mono (by simp; omega))).trans (hb2.mono (by omega)))⟩

theorem rwithin_any (p q a b c d : Int) (w : World) :
    Calls Try.prog 30 #[.int .i64 p, .int .i64 q, rat a b, rat c d] w fun e w' => e = .returned (.bool (withinB p q a b c d)) ∧ Below w.heap.size w w' := by
  by_cases h : p < 0 ∨ q < p ∨ 1073741824 < q
  · rw [withinB_out h]; exact rwithin_out p q a b c d h w
  · cases k1 : wfB a b
    · rw [withinB_no (by rw [k1]; rfl)]; exact rwithin_no1 p q a b c d (by omega) (by omega) (by omega) k1 w
    · cases k2 : wfB c d
      · rw [withinB_no (by rw [k2, Bool.and_false])]; exact rwithin_no2 p q a b c d (by omega) (by omega) (by omega) k1 k2 w
      · by_cases hq : q = 0
        · subst hq
          obtain rfl : p = 0 := by omega
          rw [withinB_zero k1 k2]; exact rwithin_zero a b c d k1 k2 w
        · rw [withinB_yes (by omega) (by omega) (by omega) hq k1 k2]; exact rwithin_yes p q a b c d (by omega) (by omega) (by omega) (by omega) k1 k2 w

end Go.Proofs.Ytknpjfmpflbcfaa
