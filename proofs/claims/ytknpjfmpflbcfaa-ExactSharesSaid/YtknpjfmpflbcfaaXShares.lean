/-
  The law ExactShares: a share that is within two ratios is within wider ones, and a share is within its own ratio.
-/
import Derived.Test.YtknpjfmpflbcfaaXKnown
import Derived.Deep.RegionHeld3
set_option linter.unusedVariables false
namespace Go.Proofs.Ytknpjfmpflbcfaa
open Go.RowKit Wh

theorem wf_small {n d : Int} (h0 : -1073741824 ≤ n) (h1 : n ≤ 1073741824) (h2 : 1 ≤ d) (h3 : d ≤ 1073741824) : wfB n d = true := by
  unfold wfB
  rw [smB_true h0 h1]
  simp
  omega

theorem within_same {p q a c : Int} (h1 : 0 ≤ p) (h2 : p ≤ q) (h3 : q ≤ 1073741824) (hq : ¬ q = 0) (k1 : wfB a q = true) (k2 : wfB c q = true) : withinB p q a q c q = (decide (a ≤ p) && decide (p ≤ c)) := by
  rw [withinB_yes h1 h2 h3 hq k1 k2]
  have e : ∀ x y : Int, decide (x * q ≤ y * q) = decide (x ≤ y) := fun x y => by
    rw [Bool.eq_iff_iff]
    simp only [decide_eq_true_eq]
    exact ⟨fun h => Int.le_of_mul_le_mul_right h (by omega), fun h => Int.mul_le_mul_of_nonneg_right h (by omega)⟩
  rw [e, e]

set_option maxRecDepth 100000 in
set_option maxHeartbeats 1000000 in
theorem shares_walk (p : Int) (_ : -9223372036854775808 ≤ p) (_ : p ≤ 9223372036854775807) (q : Int) (_ : -9223372036854775808 ≤ q) (_ : q ≤ 9223372036854775807)
    (n : Int) (_ : -9223372036854775808 ≤ n) (_ : n ≤ 9223372036854775807) (w : World) :
    Calls Try.prog 9 #[.int .i64 p, .int .i64 q, .int .i64 n] w fun e w' => e = .returned (.bool true) ∧ Below w.heap.size w w' := by
  have a1 := and_1023 q
  have a2 := and_1023 p
  have a3 := and_7 n
  have a4 := and_7 (n / 8)
  have e1 : 0 ≤ q % 1024 ∧ q % 1024 < 1024 := by omega
  have e2 : 0 ≤ p % 1024 ∧ p % 1024 < 1024 := by omega
  have e3 : 0 ≤ n % 8 ∧ n % 8 < 8 := by omega
  have e4 : 0 ≤ n / 8 % 8 ∧ n / 8 % 8 < 8 := by omega
  generalize q % 1024 = Q at *
  generalize p % 1024 = P0 at *
  generalize n % 8 = u at *
  generalize n / 8 % 8 = l at *
  have e5 : 0 ≤ P0 % (1 + Q + 1) := Int.emod_nonneg _ (by omega)
  have e6 : P0 % (1 + Q + 1) < 1 + Q + 1 := Int.emod_lt_of_pos _ (by omega)
  have hz : ((1 + Q + 1 : Int) == 0) = false := by simpa using (show ¬ (1 + Q + 1 : Int) = 0 by omega)
  generalize hP : P0 % (1 + Q + 1) = P at *
  obtain ⟨lo, hlo⟩ : ∃ lo, (lo = 0 ∧ P - l ≤ 0) ∨ (lo = P - l ∧ 0 < P - l) := by
    by_cases h : P - l ≤ 0
    · exact ⟨0, .inl ⟨rfl, h⟩⟩
    · exact ⟨P - l, .inr ⟨rfl, by omega⟩⟩
  have w1 : wfB lo (1 + Q) = true := wf_small (by omega) (by omega) (by omega) (by omega)
  have w2 : wfB (P + u) (1 + Q) = true := wf_small (by omega) (by omega) (by omega) (by omega)
  have w3 : wfB P (1 + Q) = true := wf_small (by omega) (by omega) (by omega) (by omega)
  have c1 := fun W => compare_any lo (1 + Q) (P + u) (1 + Q) W
  rw [(both_yes w1 w2).1, (both_yes w1 w2).2] at c1
  have hle : cmpZ (lo * (1 + Q)) ((P + u) * (1 + Q)) ≤ 0 := (cmpZ_le _ _).2 (Int.mul_le_mul_of_nonneg_right (by omega) (by omega))
  generalize cmpZ (lo * (1 + Q)) ((P + u) * (1 + Q)) = z at c1 hle
  have c2 := fun W => within_any P (1 + Q) P (1 + Q) P (1 + Q) W
  rw [within_same e5 (by omega) (by omega) (by omega) w3 w3, decide_eq_true (show P ≤ P by omega)] at c2
  have c3 := fun W => within_any P (1 + Q) lo (1 + Q) (P + u) (1 + Q) W
  rw [within_same e5 (by omega) (by omega) (by omega) w1 w2, decide_eq_true (show lo ≤ P by omega), decide_eq_true (show P ≤ P + u by omega)] at c3
  have c4 := fun W => within_any P (1 + Q) (P + u) (1 + Q) (P + u) (1 + Q) W
  rw [within_same e5 (by omega) (by omega) (by omega) w2 w2, decide_eq_true (show P ≤ P + u by omega)] at c4
  have hu : (decide (P + u ≤ P) && true) = (u == 0) := by
    rw [Bool.and_true, Bool.eq_iff_iff]
    simp
    omega
  rw [hu] at c4
  have C1 := Lib.hid c1
  have C2 := Lib.hid c2
  have C3 := Lib.hid c3
  have C4 := Lib.hid c4
  clear c1 c2 c3 c4 hu w1 w2 w3
  rcases hlo with ⟨rfl, hlo⟩ | ⟨rfl, hlo⟩
  all_goals
    go_enter Try.func9, Try.ntmps9
    go_wp2_with fail
    refine (C1.out _).mono ?_
    rintro e w1 ⟨rfl, hb1⟩
    obtain ⟨hc1, hf1⟩ := bcell hb1
    have hr1 : w.heap.size + 1 + 1 < w1.heap.size := by have := hb1.size; simp at this; omega
    have hs1 : w.heap.size + 1 < w1.heap.size := by omega
    have ht1 : w.heap.size < w1.heap.size := by omega
    have hB1 : Hid (Below w.heap.size w w1) := Lib.hid (((((Below.refl _ _).alloc (Nat.le_refl _) _).alloc (by simp) _).alloc (by simp; omega) _).trans (hb1.mono (by simp; omega)))
    clear hb1
    go_wp2_with fail
    refine (C2.out _).mono ?_
    rintro e w2 ⟨rfl, hb2⟩
    obtain ⟨hc2, hf2⟩ := bcell hb2
    have hr2 : w.heap.size + 1 + 1 < w2.heap.size := by have := hb2.size; omega
    have hs2 : w.heap.size + 1 < w2.heap.size := by omega
    have ht2 : w.heap.size < w2.heap.size := by omega
    have hB2 : Hid (Below w.heap.size w w2) := Lib.hid (hB1.out.trans (hb2.mono (by omega)))
    clear hb2
    go_wp2_with fail
    refine (C3.out _).mono ?_
    rintro e w3 ⟨rfl, hb3⟩
    obtain ⟨hc3, hf3⟩ := bcell hb3
    have hr3 : w.heap.size + 1 + 1 < w3.heap.size := by have := hb3.size; omega
    have hs3 : w.heap.size + 1 < w3.heap.size := by omega
    have ht3 : w.heap.size < w3.heap.size := by omega
    have hB3 : Hid (Below w.heap.size w w3) := Lib.hid (hB2.out.trans (hb3.mono (by omega)))
    clear hb3
    go_wp2_with fail
    refine (C4.out _).mono ?_
    rintro e w4 ⟨rfl, hb4⟩
    have ht4 : w.heap.size < w4.heap.size := by have := hb4.size; omega
    have hB4 : Hid (Below w.heap.size w w4) := Lib.hid (hB3.out.trans (hb4.mono (by omega)))
    clear hb4
    go_wp2_with fail
    refine (known_any _).mono ?_
    rintro e w5 ⟨rfl, hb5⟩
    go_wp2_with fail
    go_ret
    exact ⟨rfl, hB4.out.trans (hb5.mono (by omega))⟩

end Go.Proofs.Ytknpjfmpflbcfaa
