/-
  The law ExactCompares: the order of two ratios is what the document says, and that of their values.
-/
import Derived.Test.YtknpjfmpflbcfaaXKnown
set_option linter.unusedVariables false
namespace Go.Proofs.Ytknpjfmpflbcfaa
open Go.RowKit Wh

theorem compare_sm (a b c d : Int) (W : World) : Calls Try.prog 27 #[rat (smN a b) (smD a b), rat (smN c d) (smD c d)] W fun e w' => e = .returned (.tuple #[.int .i64 (cmpZ (smN a b * smD c d) (smN c d * smD a b)), .bool true]) ∧ Below W.heap.size W w' := by
  have h := compare_any (smN a b) (smD a b) (smN c d) (smD c d) W
  rw [(both_yes (sm_wf a b) (sm_wf c d)).1, (both_yes (sm_wf a b) (sm_wf c d)).2] at h
  exact h

theorem rcompare_sm (a b c d : Int) (W : World) : Calls Try.prog 28 #[rat (smN a b) (smD a b), rat (smN c d) (smD c d)] W fun e w' => e = .returned (.tuple #[.int .i64 (cmpZ (smN a b * smD c d) (smN c d * smD a b)), .bool true]) ∧ Below W.heap.size W w' := by
  have h := rcompare_any (smN a b) (smD a b) (smN c d) (smD c d) W
  rw [(both_yes (sm_wf a b) (sm_wf c d)).1, (both_yes (sm_wf a b) (sm_wf c d)).2] at h
  exact h

set_option maxRecDepth 100000 in
set_option maxHeartbeats 1000000 in
theorem compares_walk (k0 m0 : Int) (_ : -9223372036854775808 ≤ k0) (_ : k0 ≤ 9223372036854775807) (_ : -9223372036854775808 ≤ m0) (_ : m0 ≤ 9223372036854775807)
    (k1 m1 : Int) (_ : -9223372036854775808 ≤ k1) (_ : k1 ≤ 9223372036854775807) (_ : -9223372036854775808 ≤ m1) (_ : m1 ≤ 9223372036854775807)
    (a : Int) (_ : -9223372036854775808 ≤ a) (_ : a ≤ 9223372036854775807) (b : Int) (_ : -9223372036854775808 ≤ b) (_ : b ≤ 9223372036854775807)
    (c : Int) (_ : -9223372036854775808 ≤ c) (_ : c ≤ 9223372036854775807) (d : Int) (_ : -9223372036854775808 ≤ d) (_ : d ≤ 9223372036854775807) (w : World) :
    Calls Try.prog 7 #[rat k0 m0, rat k1 m1, .int .i64 a, .int .i64 b, .int .i64 c, .int .i64 d] w fun e w' => e = .returned (.bool true) ∧ Below w.heap.size w w' := by
  have s1 := fun W => smallr_any a b W
  have s2 := fun W => smallr_any c d W
  have c1 := fun W => compare_any k0 m0 k1 m1 W
  have c2 := fun W => rcompare_any k0 m0 k1 m1 W
  generalize cmpR k0 m0 k1 m1 = z at c1 c2
  generalize bothB k0 m0 k1 m1 = x at c1 c2
  have c3 := fun W => compare_sm a b c d W
  have c4 := fun W => rcompare_sm a b c d W
  have c5 := fun W => compare_sm c d a b W
  rw [cmpZ_neg (smN a b * smD c d) (smN c d * smD a b)] at c5
  have hv := cmpZ_vals (smN a b * smD c d) (smN c d * smD a b)
  generalize cmpZ (smN a b * smD c d) (smN c d * smD a b) = v at c3 c4 c5 hv
  generalize smN a b = pn at *
  generalize smD a b = pd at *
  generalize smN c d = qn at *
  generalize smD c d = qd at *
  have S1 := Lib.hid s1
  have S2 := Lib.hid s2
  have C1 := Lib.hid c1
  have C2 := Lib.hid c2
  have C3 := Lib.hid c3
  have C4 := Lib.hid c4
  have C5 := Lib.hid c5
  clear s1 s2 c1 c2 c3 c4 c5
  go_enter Try.func7, Try.ntmps7
  go_wp2_with fail
  refine (C1.out _).mono ?_
  rintro e w1 ⟨rfl, hb1⟩
  obtain ⟨hc1, hf1⟩ := bcell hb1
  have hs1 : w.heap.size + 1 < w1.heap.size := by have := hb1.size; simp at this; omega
  have ht1 : w.heap.size < w1.heap.size := by omega
  have hB1 : Hid (Below w.heap.size w w1) := Lib.hid ((((Below.refl _ _).alloc (Nat.le_refl _) _).alloc (by simp) _).trans (hb1.mono (by simp; omega)))
  clear hb1
  go_wp2_with fail
  refine (C2.out _).mono ?_
  rintro e w2 ⟨rfl, hb2⟩
  have hs2 : w.heap.size < w2.heap.size := by have := hb2.size; omega
  have hB2 : Hid (Below w.heap.size w w2) := Lib.hid (hB1.out.trans (hb2.mono (by omega)))
  clear hb2 hc1 hf1 hB1
  go_wp2_with fail
  refine (S1.out _).mono ?_
  rintro e w3 ⟨rfl, hb3⟩
  have hs3 : w.heap.size < w3.heap.size := by have := hb3.size; omega
  have hB3 : Hid (Below w.heap.size w w3) := Lib.hid (hB2.out.trans (hb3.mono (by omega)))
  clear hb3 hB2
  go_wp2_with fail
  refine (S2.out _).mono ?_
  rintro e w4 ⟨rfl, hb4⟩
  have hs4 : w.heap.size < w4.heap.size := by have := hb4.size; omega
  have hB4 : Hid (Below w.heap.size w w4) := Lib.hid (hB3.out.trans (hb4.mono (by omega)))
  clear hb4 hB3
  go_wp2_with fail
  refine (C3.out _).mono ?_
  rintro e w5 ⟨rfl, hb5⟩
  obtain ⟨hc5, hf5⟩ := bcell hb5
  have hs5 : w4.heap.size + 1 < w5.heap.size := by have := hb5.size; simp at this; omega
  have ht5 : w4.heap.size < w5.heap.size := by omega
  have hB5 : Hid (Below w.heap.size w w5) := Lib.hid (((hB4.out.alloc (by omega) _).alloc (by simp; omega) _).trans (hb5.mono (by simp; omega)))
  clear hb5 hB4
  go_wp2_with fail
  refine (C4.out _).mono ?_
  rintro e w6 ⟨rfl, hb6⟩
  obtain ⟨hc6, hf6⟩ := bcell hb6
  have hs6 : w4.heap.size + 1 < w6.heap.size := by have := hb6.size; omega
  have ht6 : w4.heap.size < w6.heap.size := by omega
  have hB6 : Hid (Below w.heap.size w w6) := Lib.hid (hB5.out.trans (hb6.mono (by omega)))
  clear hb6 hB5
  go_wp2_with fail
  refine (C5.out _).mono ?_
  rintro e w7 ⟨rfl, hb7⟩
  have hs7 : w.heap.size < w7.heap.size := by have := hb7.size; omega
  have hB7 : Hid (Below w.heap.size w w7) := Lib.hid (hB6.out.trans (hb7.mono (by omega)))
  clear hb7 hB6 hc5 hf5 hc6 hf6
  go_wp2_with fail
  refine (known_any _).mono ?_
  rintro e w8 ⟨rfl, hb8⟩
  go_wp2_with fail
  go_ret
  exact ⟨rfl, hB7.out.trans (hb8.mono (by omega))⟩

end Go.Proofs.Ytknpjfmpflbcfaa
