/-
  BagSums: its walk.
-/
import Derived.Test.YtdhhhmehkldliaaBLKit
set_option linter.unusedVariables false
set_option maxRecDepth 100000
namespace Go.Proofs.Ytdhhhmehkldliaa
open Go.RowKit Wh

/-- What holds at the head of each round of BagSums. -/
inductive SumsRel (w wr : World) : Value → Value → Value → Prop
  | mk (k : Nat) (a : Option Addr) (la ca : Nat) (es : List En) (b : Option Addr) (lb cb : Nat) (fs : List En) (hk : k ≤ 2) (h1 : IsEnts wr a la es) (h2 : IsEnts wr b lb fs) (g1 : la ≤ ca) (g2 : ca ≤ maxLen) (g3 : a = none → ca = 0) (g4 : lb ≤ cb) (g5 : cb ≤ maxLen) (g6 : b = none → cb = 0) (hb : Below w.heap.size w wr) : SumsRel w wr (.slice a la ca) (.slice b lb cb) (.int .i64 k)

set_option maxHeartbeats 8000000 in
theorem sums_walk (w : World) (x1 : Option Addr) (l1 k1 : Nat) (es1 : List En) (he1 : IsEnts w x1 l1 es1) (he1c : l1 ≤ k1) (he1m : k1 ≤ maxLen) (he1n : x1 = none → k1 = 0) (_ : ∀ e ∈ es1, -9223372036854775808 ≤ e.cnt ∧ e.cnt ≤ 9223372036854775807) (x2 : Option Addr) (l2 k2 : Nat) (es2 : List En) (he2 : IsEnts w x2 l2 es2) (he2c : l2 ≤ k2) (he2m : k2 ≤ maxLen) (he2n : x2 = none → k2 = 0) (_ : ∀ e ∈ es2, -9223372036854775808 ≤ e.cnt ∧ e.cnt ≤ 9223372036854775807)
    (y1 : Option Addr) (m1 j1 : Nat) (zs1 : List Int) (hz1 : IsInts w y1 m1 zs1) (hz1c : m1 ≤ j1) (hz1m : j1 ≤ maxLen) (hz1b : ∀ z ∈ zs1, -9223372036854775808 ≤ z ∧ z ≤ 9223372036854775807) (y2 : Option Addr) (m2 j2 : Nat) (zs2 : List Int) (hz2 : IsInts w y2 m2 zs2) (hz2c : m2 ≤ j2) (hz2m : j2 ≤ maxLen) (hz2b : ∀ z ∈ zs2, -9223372036854775808 ≤ z ∧ z ≤ 9223372036854775807) (n : Int) (n0 : -9223372036854775808 ≤ n) (n1 : n ≤ 9223372036854775807) :
    Calls Try.prog 6 #[.slice x1 l1 k1, .slice x2 l2 k2, .slice y1 m1 j1, .slice y2 m2 j2, .int .i64 n] w fun e w' => e = .returned (.bool true) ∧ Below w.heap.size w w' := by
  have mm : maxLen = 9223372036854775807 := rfl
  have L1 := Lib.hid (light_any x1 l1 k1 es1 w he1 (by omega))
  have L2 := Lib.hid (light_any x2 l2 k2 es2 w he2 (by omega))
  generalize lightB es1 = b1 at *
  generalize lightB es2 = b2 at *
  have hB0 : Below w.heap.size w w := Below.refl _ _
  by_cases hq : b1 = false
  · subst hq
    clear he1 he2 hz1 hz2 mm
    go_enter Try.func6, Try.ntmps6
    go_wp2_with fail
    refine L1.out.mono ?_
    rintro e w1 ⟨rfl, rfl⟩
    go_wp2_with fail
    refine (known_any _).mono ?_
    rintro e w2 ⟨rfl, hb2⟩
    go_wp2_with fail
    go_ret
    exact ⟨rfl, hb2⟩
  obtain rfl : b1 = true := by simpa using hq
  by_cases hq2 : b2 = false
  · subst hq2
    clear he1 he2 hz1 hz2 mm
    go_enter Try.func6, Try.ntmps6
    go_wp2_with fail
    refine L1.out.mono ?_
    rintro e w1 ⟨rfl, rfl⟩
    go_wp2_with fail
    refine L2.out.mono ?_
    rintro e w1 ⟨rfl, rfl⟩
    go_wp2_with fail
    refine (known_any _).mono ?_
    rintro e w2 ⟨rfl, hb2⟩
    go_wp2_with fail
    go_ret
    exact ⟨rfl, hb2⟩
  obtain rfl : b2 = true := by simpa using hq2
  have b15 := and_15
  obtain ⟨N, hN, hN7⟩ : ∃ N : Nat, n % 16 = N ∧ N ≤ 15 := ⟨(n % 16).toNat, by omega, by omega⟩
  obtain ⟨M, hM, hM7⟩ : ∃ M : Nat, n / 16 % 16 = M ∧ M ≤ 15 := ⟨(n / 16 % 16).toNat, by omega, by omega⟩
  have Z1 := Lib.hid hz1
  have Z2 := Lib.hid hz2
  have E1 := Lib.hid he1
  have E2 := Lib.hid he2
  clear he1 he2 hz1 hz2 hq hq2
  go_enter Try.func6, Try.ntmps6
  go_wp2_with fail
  refine L1.out.mono ?_
  rintro e w1 ⟨rfl, rfl⟩
  go_wp2_with fail
  refine L2.out.mono ?_
  rintro e w1 ⟨rfl, rfl⟩
  clear L1 L2
  go_wp2_with fail
  go_loopw [0, 1, 11] (fun rv sv iv wr => SumsRel w wr rv sv iv) (fun _ _ i _ => 2 - (intOf i).toNat)
  case atStart => exact .mk 0 x1 l1 k1 es1 x2 l2 k2 es2 (by omega) E1.out E2.out he1c he1m he1n he2c he2m he2n (Below.refl _ _)
  case round =>
    obtain ⟨k, a, la, ca, es, b, lb, cb, fs, hk, h1, h2, g1, g2, g3, g4, g5, g6, hbel⟩ := hrel
    have hsz := hbel.size
    by_cases hlt : k < 2
    · have hki : (k : Int) < 2 := by omega
      have I1 := Lib.hid h1
      have I2 := Lib.hid h2
      have Y1 := Lib.hid (Z1.out.below hbel (Nat.le_refl _))
      have Y2 := Lib.hid (Z2.out.below hbel (Nat.le_refl _))
      clear h1 h2
      obtain ⟨o1, HO1⟩ : ∃ o, Hid (addOut es fs = o) := ⟨_, rfl⟩
      obtain ⟨o2, HO2⟩ : ∃ o, Hid (subOut es fs = o) := ⟨_, rfl⟩
      obtain ⟨o3, HO3⟩ : ∃ o, Hid (negOut es = o) := ⟨_, rfl⟩
      go_wp2_with fail
      refine (errTo (add_any6 a la ca es b lb cb fs wr I1.out (by omega) I2.out (by omega) g1 g2 g3 g4 g5 g6) HO1.out).mono ?_
      rintro e w1 ⟨v1, rfl, ho1, hb1⟩
      have hB1 := hbel.trans (hb1.mono hbel.size)
      replace I1 := Lib.hid (I1.out.below hb1 (Nat.le_refl _))
      replace I2 := Lib.hid (I2.out.below hb1 (Nat.le_refl _))
      replace Y1 := Lib.hid (Y1.out.below hb1 (Nat.le_refl _))
      replace Y2 := Lib.hid (Y2.out.below hb1 (Nat.le_refl _))
      obtain ⟨a1, c1, rfl, hi1, p1, q1, r1, _⟩ := own_ents ho1
      have P1 := Lib.hid (hi1)
      clear ho1 hi1
      go_wp2_with fail
      refine (errTo (radd_any6 a la ca es b lb cb fs w1 I1.out (by omega) I2.out (by omega) g1 g2 g3 g4 g5 g6) HO1.out).mono ?_
      rintro e w2 ⟨v2, rfl, ho2, hb2⟩
      have hB2 := hB1.trans (hb2.mono hB1.size)
      replace I1 := Lib.hid (I1.out.below hb2 (Nat.le_refl _))
      replace I2 := Lib.hid (I2.out.below hb2 (Nat.le_refl _))
      replace Y1 := Lib.hid (Y1.out.below hb2 (Nat.le_refl _))
      replace Y2 := Lib.hid (Y2.out.below hb2 (Nat.le_refl _))
      replace P1 := Lib.hid (P1.out.below hb2 (Nat.le_refl _))
      obtain ⟨a2, c2, rfl, hi2, p2, q2, r2, _⟩ := own_ents ho2
      have Q1 := Lib.hid (hi2)
      clear ho2 hi2
      go_wp2_with fail
      refine (errTo (subtract_any6 a la ca es b lb cb fs w2 I1.out (by omega) I2.out (by omega) g1 g2 g3 g4 g5 g6) HO2.out).mono ?_
      rintro e w3 ⟨v3, rfl, ho3, hb3⟩
      have hB3 := hB2.trans (hb3.mono hB2.size)
      replace I1 := Lib.hid (I1.out.below hb3 (Nat.le_refl _))
      replace I2 := Lib.hid (I2.out.below hb3 (Nat.le_refl _))
      replace Y1 := Lib.hid (Y1.out.below hb3 (Nat.le_refl _))
      replace Y2 := Lib.hid (Y2.out.below hb3 (Nat.le_refl _))
      replace P1 := Lib.hid (P1.out.below hb3 (Nat.le_refl _))
      replace Q1 := Lib.hid (Q1.out.below hb3 (Nat.le_refl _))
      obtain ⟨a3, c3, rfl, hi3, p3, q3, r3, _⟩ := own_ents ho3
      have P2 := Lib.hid (hi3)
      clear ho3 hi3
      go_wp2_with fail
      refine (errTo (rsubtract_any6 a la ca es b lb cb fs w3 I1.out (by omega) I2.out (by omega) g1 g2 g3 g4 g5 g6) HO2.out).mono ?_
      rintro e w4 ⟨v4, rfl, ho4, hb4⟩
      have hB4 := hB3.trans (hb4.mono hB3.size)
      replace I1 := Lib.hid (I1.out.below hb4 (Nat.le_refl _))
      replace I2 := Lib.hid (I2.out.below hb4 (Nat.le_refl _))
      replace Y1 := Lib.hid (Y1.out.below hb4 (Nat.le_refl _))
      replace Y2 := Lib.hid (Y2.out.below hb4 (Nat.le_refl _))
      replace P1 := Lib.hid (P1.out.below hb4 (Nat.le_refl _))
      replace Q1 := Lib.hid (Q1.out.below hb4 (Nat.le_refl _))
      replace P2 := Lib.hid (P2.out.below hb4 (Nat.le_refl _))
      obtain ⟨a4, c4, rfl, hi4, p4, q4, r4, _⟩ := own_ents ho4
      have Q2 := Lib.hid (hi4)
      clear ho4 hi4
      go_wp2_with fail
      refine (errTo (negate_any6 a la ca es w4 I1.out (by omega) g1 g2 g3) HO3.out).mono ?_
      rintro e w5 ⟨v5, rfl, ho5, hb5⟩
      have hB5 := hB4.trans (hb5.mono hB4.size)
      replace I1 := Lib.hid (I1.out.below hb5 (Nat.le_refl _))
      replace I2 := Lib.hid (I2.out.below hb5 (Nat.le_refl _))
      replace Y1 := Lib.hid (Y1.out.below hb5 (Nat.le_refl _))
      replace Y2 := Lib.hid (Y2.out.below hb5 (Nat.le_refl _))
      replace P1 := Lib.hid (P1.out.below hb5 (Nat.le_refl _))
      replace Q1 := Lib.hid (Q1.out.below hb5 (Nat.le_refl _))
      replace P2 := Lib.hid (P2.out.below hb5 (Nat.le_refl _))
      replace Q2 := Lib.hid (Q2.out.below hb5 (Nat.le_refl _))
      obtain ⟨a5, c5, rfl, hi5, p5, q5, r5, _⟩ := own_ents ho5
      have P3 := Lib.hid (hi5)
      clear ho5 hi5
      go_wp2_with fail
      refine (errTo (rnegate_any6 a la ca es w5 I1.out (by omega)) HO3.out).mono ?_
      rintro e w6 ⟨v6, rfl, ho6, hb6⟩
      have hB6 := hB5.trans (hb6.mono hB5.size)
      replace I1 := Lib.hid (I1.out.below hb6 (Nat.le_refl _))
      replace I2 := Lib.hid (I2.out.below hb6 (Nat.le_refl _))
      replace Y1 := Lib.hid (Y1.out.below hb6 (Nat.le_refl _))
      replace Y2 := Lib.hid (Y2.out.below hb6 (Nat.le_refl _))
      replace P1 := Lib.hid (P1.out.below hb6 (Nat.le_refl _))
      replace Q1 := Lib.hid (Q1.out.below hb6 (Nat.le_refl _))
      replace P2 := Lib.hid (P2.out.below hb6 (Nat.le_refl _))
      replace Q2 := Lib.hid (Q2.out.below hb6 (Nat.le_refl _))
      replace P3 := Lib.hid (P3.out.below hb6 (Nat.le_refl _))
      obtain ⟨a6, c6, rfl, hi6, p6, q6, r6, _⟩ := own_ents ho6
      have Q3 := Lib.hid (hi6)
      clear ho6 hi6
      go_wp2_with fail
      refine (rsame_true P1.out Q1.out (by omega)).mono ?_
      rintro e w7 ⟨rfl, hb7⟩
      have hB7 := hB6.trans (hb7.mono hB6.size)
      replace I1 := Lib.hid (I1.out.below hb7 (Nat.le_refl _))
      replace I2 := Lib.hid (I2.out.below hb7 (Nat.le_refl _))
      replace Y1 := Lib.hid (Y1.out.below hb7 (Nat.le_refl _))
      replace Y2 := Lib.hid (Y2.out.below hb7 (Nat.le_refl _))
      replace P1 := Lib.hid (P1.out.below hb7 (Nat.le_refl _))
      replace Q1 := Lib.hid (Q1.out.below hb7 (Nat.le_refl _))
      replace P2 := Lib.hid (P2.out.below hb7 (Nat.le_refl _))
      replace Q2 := Lib.hid (Q2.out.below hb7 (Nat.le_refl _))
      replace P3 := Lib.hid (P3.out.below hb7 (Nat.le_refl _))
      replace Q3 := Lib.hid (Q3.out.below hb7 (Nat.le_refl _))
      clear P1 Q1
      go_wp2_with fail
      refine (rsame_true P2.out Q2.out (by omega)).mono ?_
      rintro e w8 ⟨rfl, hb8⟩
      have hB8 := hB7.trans (hb8.mono hB7.size)
      replace I1 := Lib.hid (I1.out.below hb8 (Nat.le_refl _))
      replace I2 := Lib.hid (I2.out.below hb8 (Nat.le_refl _))
      replace Y1 := Lib.hid (Y1.out.below hb8 (Nat.le_refl _))
      replace Y2 := Lib.hid (Y2.out.below hb8 (Nat.le_refl _))
      replace P2 := Lib.hid (P2.out.below hb8 (Nat.le_refl _))
      replace Q2 := Lib.hid (Q2.out.below hb8 (Nat.le_refl _))
      replace P3 := Lib.hid (P3.out.below hb8 (Nat.le_refl _))
      replace Q3 := Lib.hid (Q3.out.below hb8 (Nat.le_refl _))
      clear P2 Q2
      go_wp2_with fail
      refine (rsame_true P3.out Q3.out (by omega)).mono ?_
      rintro e w9 ⟨rfl, hb9⟩
      have hB9 := hB8.trans (hb9.mono hB8.size)
      replace I1 := Lib.hid (I1.out.below hb9 (Nat.le_refl _))
      replace I2 := Lib.hid (I2.out.below hb9 (Nat.le_refl _))
      replace Y1 := Lib.hid (Y1.out.below hb9 (Nat.le_refl _))
      replace Y2 := Lib.hid (Y2.out.below hb9 (Nat.le_refl _))
      replace P3 := Lib.hid (P3.out.below hb9 (Nat.le_refl _))
      replace Q3 := Lib.hid (Q3.out.below hb9 (Nat.le_refl _))
      clear P3 Q3
      go_wp2_with fail
      refine (bag_any y1 m1 j1 zs1 N w9 Y1.out (by omega) (by omega)).mono ?_
      rintro e w10 ⟨v10, rfl, ho10, hb10⟩
      have hB10 := hB9.trans (hb10.mono hB9.size)
      replace I1 := Lib.hid (I1.out.below hb10 (Nat.le_refl _))
      replace I2 := Lib.hid (I2.out.below hb10 (Nat.le_refl _))
      replace Y1 := Lib.hid (Y1.out.below hb10 (Nat.le_refl _))
      replace Y2 := Lib.hid (Y2.out.below hb10 (Nat.le_refl _))
      obtain ⟨a10, c10, rfl, hi10, p10, q10, r10, _⟩ := own_ents ho10
      have R1 := Lib.hid (hi10)
      clear ho10 hi10
      go_wp2_with fail
      refine (bag_any y2 m2 j2 zs2 M w10 Y2.out (by omega) (by omega)).mono ?_
      rintro e w11 ⟨v11, rfl, ho11, hb11⟩
      have hB11 := hB10.trans (hb11.mono hB10.size)
      replace I1 := Lib.hid (I1.out.below hb11 (Nat.le_refl _))
      replace I2 := Lib.hid (I2.out.below hb11 (Nat.le_refl _))
      replace Y1 := Lib.hid (Y1.out.below hb11 (Nat.le_refl _))
      replace Y2 := Lib.hid (Y2.out.below hb11 (Nat.le_refl _))
      replace R1 := Lib.hid (R1.out.below hb11 (Nat.le_refl _))
      obtain ⟨a11, c11, rfl, hi11, p11, q11, r11, _⟩ := own_ents ho11
      have R2 := Lib.hid (hi11)
      clear ho11 hi11
      have REL := Lib.hid (SumsRel.mk (w := w) (wr := w11) (k + 1) _ _ c10 _ _ _ c11 _ (by omega) R1.out R2.out p10 q10 r10 p11 q11 r11 hB11)
      rw [show ((k + 1 : Nat) : Int) = (k : Int) + 1 by omega] at REL
      go_wp2_with fail
      go_simp
      exact ⟨REL.out, by simp [intOf]; omega⟩
    · obtain rfl : k = 2 := by omega
      go_wp2_with fail
      refine (known_any _).mono ?_
      rintro e w2 ⟨rfl, hb2⟩
      go_wp2_with fail
      go_ret
      exact ⟨rfl, hbel.trans (hb2.mono hsz)⟩

end Go.Proofs.Ytdhhhmehkldliaa
