/-
  The law ExactReduces: the reduced form of a ratio is what the document says, has its value and no common divisor.
-/
import Derived.Test.YtknpjfmpflbcfaaXKnown
set_option linter.unusedVariables false
namespace Go.Proofs.Ytknpjfmpflbcfaa
open Go.RowKit Wh

/-- The ratio in lowest terms. -/
def redN (n d : Int) : Int := if wfB n d = true then n.tdiv (Int.gcd n d) else 0
def redD (n d : Int) : Int := if wfB n d = true then d / (Int.gcd n d) else 0

theorem reduce_any (n d : Int) (w : World) :
    Calls Try.prog 24 #[rat n d] w fun e w' => e = .returned (.tuple #[rat (redN n d) (redD n d), .bool (wfB n d)]) ∧ Below w.heap.size w w' := by
  cases h : wfB n d
  · have e : redN n d = 0 ∧ redD n d = 0 := by unfold redN redD; rw [h]; exact ⟨rfl, rfl⟩
    rw [e.1, e.2]
    exact reduce_no n d h w
  · have e : redN n d = n.tdiv (Int.gcd n d) ∧ redD n d = d / (Int.gcd n d) := by unfold redN redD; rw [h]; exact ⟨rfl, rfl⟩
    rw [e.1, e.2]
    exact reduce_yes n d h w

theorem rreduce_any (n d : Int) (w : World) :
    Calls Try.prog 25 #[rat n d] w fun e w' => e = .returned (.tuple #[rat (redN n d) (redD n d), .bool (wfB n d)]) ∧ Below w.heap.size w w' := by
  cases h : wfB n d
  · have e : redN n d = 0 ∧ redD n d = 0 := by unfold redN redD; rw [h]; exact ⟨rfl, rfl⟩
    rw [e.1, e.2]
    exact rreduce_no n d h w
  · have e : redN n d = n.tdiv (Int.gcd n d) ∧ redD n d = d / (Int.gcd n d) := by unfold redN redD; rw [h]; exact ⟨rfl, rfl⟩
    rw [e.1, e.2]
    exact rreduce_yes n d h w

/-- What is reduced is well-formed, is reduced, and has the same value. -/
theorem red_facts {n d : Int} (h : wfB n d = true) : wfB (redN n d) (redD n d) = true ∧ redN (redN n d) (redD n d) = redN n d ∧ redD (redN n d) (redD n d) = redD n d ∧ redN n d * d = n * redD n d := by
  obtain ⟨h1, h2, h3⟩ := wfB_bd h
  have b1 := smB_bd h1
  have eN : redN n d = n.tdiv (Int.gcd n d) := by unfold redN; rw [h]; rfl
  have eD : redD n d = d / (Int.gcd n d) := by unfold redD; rw [h]; rfl
  have hg0 : 0 < Int.gcd n d := Nat.gcd_pos_of_pos_right _ (by omega)
  have hgd : (Int.gcd n d : Int) ≤ d := Int.gcd_le_right n (by omega)
  have e1 := Int.mul_tdiv_cancel' (Int.gcd_dvd_left n d)
  have e2 := Int.mul_ediv_cancel' (Int.gcd_dvd_right n d)
  have k1 := tdiv_small n (Int.gcd n d) b1.1 b1.2
  have k2 : 1 ≤ d / (Int.gcd n d : Int) := (Int.le_ediv_iff_mul_le (by omega)).2 (by omega)
  have k3 : d / (Int.gcd n d : Int) ≤ d := Int.ediv_le_self _ (by omega)
  have hw : wfB (redN n d) (redD n d) = true := by
    rw [eN, eD]
    unfold wfB
    rw [smB_true k1.1 k1.2]
    simp
    omega
  have hgg : Int.gcd (redN n d) (redD n d) = 1 := by
    rw [eN, eD]
    have a1 : (n.tdiv (Int.gcd n d)).natAbs = n.natAbs / Nat.gcd n.natAbs d.natAbs := by
      rw [Int.natAbs_tdiv]
      rfl
    have a2 : (d / (Int.gcd n d : Int)).natAbs = d.natAbs / Nat.gcd n.natAbs d.natAbs := by
      rw [← Int.tdiv_eq_ediv_of_nonneg (by omega), Int.natAbs_tdiv]
      rfl
    show Nat.gcd _ _ = 1
    rw [a1, a2]
    exact Nat.coprime_div_gcd_div_gcd hg0
  refine ⟨hw, ?_, ?_, ?_⟩
  · show (if wfB (redN n d) (redD n d) = true then (redN n d).tdiv (Int.gcd (redN n d) (redD n d)) else 0) = _
    rw [if_pos hw, hgg]
    exact Int.tdiv_one _
  · show (if wfB (redN n d) (redD n d) = true then (redD n d) / (Int.gcd (redN n d) (redD n d) : Int) else 0) = _
    rw [if_pos hw, hgg]
    exact Int.ediv_one _
  · rw [eN, eD]
    generalize n.tdiv (Int.gcd n d) = x at *
    generalize d / (Int.gcd n d : Int) = y at *
    generalize (Int.gcd n d : Int) = g at *
    rw [← e1, ← e2, Int.mul_comm g x, Int.mul_comm g y, Int.mul_assoc x g y, Int.mul_comm g y]

set_option maxRecDepth 100000 in
set_option maxHeartbeats 1000000 in
theorem reduces_walk (n d : Int) (_ : -9223372036854775808 ≤ n) (_ : n ≤ 9223372036854775807) (_ : -9223372036854775808 ≤ d) (_ : d ≤ 9223372036854775807)
    (a : Int) (_ : -9223372036854775808 ≤ a) (_ : a ≤ 9223372036854775807) (b : Int) (_ : -9223372036854775808 ≤ b) (_ : b ≤ 9223372036854775807) (w : World) :
    Calls Try.prog 6 #[rat n d, .int .i64 a, .int .i64 b] w fun e w' => e = .returned (.bool true) ∧ Below w.heap.size w w' := by
  have s1 := fun W => smallr_any a b W
  have c1 := fun W => reduce_any n d W
  have c2 := fun W => rreduce_any n d W
  generalize redN n d = xn at c1 c2
  generalize redD n d = xd at c1 c2
  generalize wfB n d = xo at c1 c2
  have hwf := sm_wf a b
  generalize smN a b = sn at *
  generalize smD a b = sd at *
  obtain ⟨f1, f2, f3, f4⟩ := red_facts hwf
  have c3 := fun W => reduce_any sn sd W
  have c4 := fun W => rreduce_any sn sd W
  have c5 := fun W => reduce_any (redN sn sd) (redD sn sd) W
  rw [hwf] at c3 c4
  rw [f1, f2, f3] at c5
  obtain ⟨p1, p2, p3⟩ := wfB_bd hwf
  obtain ⟨q1, q2, q3⟩ := wfB_bd f1
  have m1 := mul_small q1 (smB_true (x := sd) (by omega) p3)
  have m2 := mul_small p1 (smB_true (x := redD sn sd) (by omega) q3)
  generalize redN sn sd = un at *
  generalize redD sn sd = ud at *
  have H4 : (un * sd == sn * ud) = true := by simpa using f4
  have S1 := Lib.hid s1
  have C1 := Lib.hid c1
  have C2 := Lib.hid c2
  have C3 := Lib.hid c3
  have C4 := Lib.hid c4
  have C5 := Lib.hid c5
  clear s1 c1 c2 c3 c4 c5 hwf f1 f2 f3 f4 p1 q1
  go_enter Try.func6, Try.ntmps6
  go_wp2_with fail
  refine (C1.out _).mono ?_
  rintro e w1 ⟨rfl, hb1⟩
  obtain ⟨hc1, hf1⟩ := bcell hb1
  have ht1 : w.heap.size < w1.heap.size := by have := hb1.size; simp at this; omega
  have hB1 : Hid (Below w.heap.size w w1) := Lib.hid (((Below.refl _ _).alloc (Nat.le_refl _) _).trans (hb1.mono (by simp)))
  clear hb1
  go_wp2_with fail
  refine (C2.out _).mono ?_
  rintro e w2 ⟨rfl, hb2⟩
  obtain ⟨hc2, hf2⟩ := bcell hb2
  have hs2 : w1.heap.size < w2.heap.size := by have := hb2.size; simp at this; omega
  have ht2 : w.heap.size < w2.heap.size := by omega
  have hB2 : Hid (Below w.heap.size w w2) := Lib.hid ((hB1.out.alloc (by omega) _).trans (hb2.mono (by simp; omega)))
  clear hb2
  go_wp2_with fail
  refine (S1.out _).mono ?_
  rintro e w3 ⟨rfl, hb3⟩
  obtain ⟨hc3, hf3⟩ := bcell hb3
  have hs3 : w2.heap.size < w3.heap.size := by have := hb3.size; simp at this; omega
  have hr3 : w1.heap.size < w3.heap.size := by omega
  have ht3 : w.heap.size < w3.heap.size := by omega
  have hB3 : Hid (Below w.heap.size w w3) := Lib.hid ((hB2.out.alloc (by omega) _).trans (hb3.mono (by simp; omega)))
  clear hb3
  go_wp2_with fail
  refine (C3.out _).mono ?_
  rintro e w4 ⟨rfl, hb4⟩
  obtain ⟨hc4, hf4⟩ := bcell hb4
  have ho4 : w3.heap.size < w4.heap.size := by have := hb4.size; simp at this; omega
  have hs4 : w2.heap.size < w4.heap.size := by omega
  have hr4 : w1.heap.size < w4.heap.size := by omega
  have ht4 : w.heap.size < w4.heap.size := by omega
  have hB4 : Hid (Below w.heap.size w w4) := Lib.hid ((hB3.out.alloc (by omega) _).trans (hb4.mono (by simp; omega)))
  clear hb4
  go_wp2_with fail
  refine (C4.out _).mono ?_
  rintro e w5 ⟨rfl, hb5⟩
  obtain ⟨hc5, hf5⟩ := bcell hb5
  have hn5 : w4.heap.size < w5.heap.size := by have := hb5.size; simp at this; omega
  have ho5 : w3.heap.size < w5.heap.size := by omega
  have hs5 : w2.heap.size < w5.heap.size := by omega
  have hr5 : w1.heap.size < w5.heap.size := by omega
  have ht5 : w.heap.size < w5.heap.size := by omega
  have hB5 : Hid (Below w.heap.size w w5) := Lib.hid ((hB4.out.alloc (by omega) _).trans (hb5.mono (by simp; omega)))
  clear hb5
  go_wp2_with fail
  refine (C5.out _).mono ?_
  rintro e w6 ⟨rfl, hb6⟩
  obtain ⟨hc6, hf6⟩ := bcell hb6
  have hm6 : w5.heap.size < w6.heap.size := by have := hb6.size; simp at this; omega
  have hn6 : w4.heap.size < w6.heap.size := by omega
  have ho6 : w3.heap.size < w6.heap.size := by omega
  have hs6 : w2.heap.size < w6.heap.size := by omega
  have hr6 : w1.heap.size < w6.heap.size := by omega
  have ht6 : w.heap.size < w6.heap.size := by omega
  have hB6 : Hid (Below w.heap.size w w6) := Lib.hid ((hB5.out.alloc (by omega) _).trans (hb6.mono (by simp; omega)))
  clear hb6
  go_wp2_with fail
  refine (known_any _).mono ?_
  rintro e w8 ⟨rfl, hb8⟩
  go_wp2_with fail
  go_ret
  exact ⟨rfl, (hB6.out.alloc (by omega) _).trans (hb8.mono (by simp; omega))⟩

end Go.Proofs.Ytknpjfmpflbcfaa
