/-
  BagExcepts: its walk.
-/
import Derived.Test.YtdhhhmehkldliaaBAlg2
set_option linter.unusedVariables false
set_option maxRecDepth 100000
namespace Go.Proofs.Ytdhhhmehkldliaa
open Go.RowKit Wh

set_option maxHeartbeats 8000000 in
theorem excepts_walk (w : World) (x1 : Option Addr) (l1 k1 : Nat) (es1 : List En) (he1 : IsEnts w x1 l1 es1) (he1c : l1 ≤ k1) (he1m : k1 ≤ maxLen) (he1n : x1 = none → k1 = 0) (_ : ∀ e ∈ es1, -9223372036854775808 ≤ e.cnt ∧ e.cnt ≤ 9223372036854775807) (x2 : Option Addr) (l2 k2 : Nat) (es2 : List En) (he2 : IsEnts w x2 l2 es2) (he2c : l2 ≤ k2) (he2m : k2 ≤ maxLen) (he2n : x2 = none → k2 = 0) (_ : ∀ e ∈ es2, -9223372036854775808 ≤ e.cnt ∧ e.cnt ≤ 9223372036854775807)
    (y1 : Option Addr) (m1 j1 : Nat) (zs1 : List Int) (hz1 : IsInts w y1 m1 zs1) (hz1c : m1 ≤ j1) (hz1m : j1 ≤ maxLen) (hz1b : ∀ z ∈ zs1, -9223372036854775808 ≤ z ∧ z ≤ 9223372036854775807)
    (y2 : Option Addr) (m2 j2 : Nat) (zs2 : List Int) (hz2 : IsInts w y2 m2 zs2) (hz2c : m2 ≤ j2) (hz2m : j2 ≤ maxLen) (hz2b : ∀ z ∈ zs2, -9223372036854775808 ≤ z ∧ z ≤ 9223372036854775807) (n : Int) (n0 : -9223372036854775808 ≤ n) (n1 : n ≤ 9223372036854775807) :
    Calls Try.prog 8 #[.slice x1 l1 k1, .slice x2 l2 k2, .slice y1 m1 j1, .slice y2 m2 j2, .int .i64 n] w fun e w' => e = .returned (.bool true) ∧ Below w.heap.size w w' := by
  have mm : maxLen = 9223372036854775807 := rfl
  have L1 := Lib.hid (light_any x1 l1 k1 es1 w he1 (by omega))
  have L2 := Lib.hid (light_any x2 l2 k2 es2 w he2 (by omega))
  generalize lightB es1 = b1 at *
  generalize lightB es2 = b2 at *
  have hB0 : Below w.heap.size w w := Below.refl _ _
  by_cases hq : b1 = false
  · subst hq
    clear he1 he2 hz1 hz2 mm
    go_enter Try.func8, Try.ntmps8
    go_wp2_with fail
    refine L1.out.mono ?_
    rintro e w1 ⟨rfl, rfl⟩
    go_wp2_with fail
    refine (known_any _).mono ?_
    rintro e w2 ⟨rfl, hb2⟩
    go_wp2_with fail
    go_ret
    exact ⟨rfl, hb2⟩
  obtain rfl : b1 = true := by simpa using hq
  by_cases hq2 : b2 = false
  · subst hq2
    clear he1 he2 hz1 hz2 mm
    go_enter Try.func8, Try.ntmps8
    go_wp2_with fail
    refine L1.out.mono ?_
    rintro e w1 ⟨rfl, rfl⟩
    go_wp2_with fail
    refine L2.out.mono ?_
    rintro e w1 ⟨rfl, rfl⟩
    go_wp2_with fail
    refine (known_any _).mono ?_
    rintro e w2 ⟨rfl, hb2⟩
    go_wp2_with fail
    go_ret
    exact ⟨rfl, hb2⟩
  obtain rfl : b2 = true := by simpa using hq2
  have b15 := and_15
  obtain ⟨N, hN, hN7⟩ : ∃ N : Nat, n % 16 = N ∧ N ≤ 15 := ⟨(n % 16).toNat, by omega, by omega⟩
  obtain ⟨M, hM, hM7⟩ : ∃ M : Nat, n / 16 % 16 = M ∧ M ≤ 15 := ⟨(n / 16 % 16).toNat, by omega, by omega⟩
  have s1 := table_tb zs1 (n := N) (by omega)
  have s2 := table_tb zs2 (n := M) (by omega)
  have CX := Lib.hid (fun W (h : Below w.heap.size w W) => table_any y1 m1 j1 zs1 N W (hz1.below h (Nat.le_refl _)) (by omega) (by omega))
  have CY := Lib.hid (fun W (h : Below w.heap.size w W) => table_any y2 m2 j2 zs2 M W (hz2.below h (Nat.le_refl _)) (by omega) (by omega))
  generalize tabL (bagZ zs1 N) = X at *
  generalize tabL (bagZ zs2 M) = Y at *
  have s3 := excL_tb s1 s2
  have s4 := excL_tb s1 s3
  have s5 := once_tb s1
  have Q1 := Lib.hid (exc_tb s1 s2 (by omega) (by omega))
  have Q2 := Lib.hid (exc_tb s1 s3 (by omega) (by omega))
  have Q3 := Lib.hid ((exc_tb s2 s4 (by omega) (by omega)).trans (by rw [exc_rest s1 s2]))
  have Q4 := Lib.hid (exc_tb s2 s1 (by omega) (by omega))
  have Q5 := Lib.hid (dis_tb s1 (by omega) (by omega))
  have Q6 := Lib.hid ((dis_tb s5 (by omega) (by omega)).trans (by rw [once_once s1]))
  have HOL := Lib.hid (once_len s1)
  have l1' := s1.sm.len
  have l2' := s2.sm.len
  have l3' := s3.sm.len
  have l4' := s4.sm.len
  have l5' := s5.sm.len
  have l6' := (excL_tb s2 s1).sm.len
  generalize excL X (excL X Y) = XB at *
  generalize excL X Y = XC at *
  generalize excL Y X = XR at *
  generalize onceL X = XO at *
  obtain ⟨o1, HO1⟩ : ∃ o, Hid (excOut es1 es2 = o) := ⟨_, rfl⟩
  obtain ⟨o2, HO2⟩ : ∃ o, Hid (disOut es1 = o) := ⟨_, rfl⟩
  have E1 := Lib.hid he1
  have E2 := Lib.hid he2
  clear he1 he2 hz1 hz2 hq hq2 s1 s2 s3 s4 s5
  go_enter Try.func8, Try.ntmps8
  go_wp2_with fail
  refine L1.out.mono ?_
  rintro e w1 ⟨rfl, rfl⟩
  go_wp2_with fail
  refine L2.out.mono ?_
  rintro e w1 ⟨rfl, rfl⟩
  clear L1 L2
  go_wp2_with fail
  refine (errTo (except_any6 x1 l1 k1 es1 x2 l2 k2 es2 w E1.out (by omega) E2.out (by omega) he1c he1m he1n he2c he2m he2n) HO1.out).mono ?_
  rintro e w1 ⟨v1, rfl, ho1, hb1⟩
  have hB1 := hB0.trans (hb1.mono hB0.size)
  replace E1 := Lib.hid (E1.out.below hb1 (Nat.le_refl _))
  replace E2 := Lib.hid (E2.out.below hb1 (Nat.le_refl _))
  obtain ⟨a1, c1, rfl, hi1, p1, q1, r1, _⟩ := own_ents ho1
  have P1 := Lib.hid (hi1)
  clear ho1 hi1
  go_wp2_with fail
  refine (errTo (rexcept_any x1 l1 k1 es1 x2 l2 k2 es2 w1 E1.out (by omega) E2.out (by omega) he1c he1m he1n he2c he2m he2n) HO1.out).mono ?_
  rintro e w2 ⟨v2, rfl, ho2, hb2⟩
  have hB2 := hB1.trans (hb2.mono hB1.size)
  replace E1 := Lib.hid (E1.out.below hb2 (Nat.le_refl _))
  replace E2 := Lib.hid (E2.out.below hb2 (Nat.le_refl _))
  replace P1 := Lib.hid (P1.out.below hb2 (Nat.le_refl _))
  obtain ⟨a2, c2, rfl, hi2, p2, q2, r2, _⟩ := own_ents ho2
  have P2 := Lib.hid (hi2)
  clear ho2 hi2
  go_wp2_with fail
  refine (CX.out _ hB2).mono ?_
  rintro e w3 ⟨v3, rfl, ho3, hb3⟩
  have hB3 := hB2.trans (hb3.mono hB2.size)
  replace E1 := Lib.hid (E1.out.below hb3 (Nat.le_refl _))
  replace E2 := Lib.hid (E2.out.below hb3 (Nat.le_refl _))
  replace P1 := Lib.hid (P1.out.below hb3 (Nat.le_refl _))
  replace P2 := Lib.hid (P2.out.below hb3 (Nat.le_refl _))
  obtain ⟨a3, c3, rfl, hi3, p3, q3, r3, _⟩ := own_ents ho3
  have FX := Lib.hid (hi3)
  clear ho3 hi3
  go_wp2_with fail
  refine (CY.out _ hB3).mono ?_
  rintro e w4 ⟨v4, rfl, ho4, hb4⟩
  have hB4 := hB3.trans (hb4.mono hB3.size)
  replace E1 := Lib.hid (E1.out.below hb4 (Nat.le_refl _))
  replace E2 := Lib.hid (E2.out.below hb4 (Nat.le_refl _))
  replace P1 := Lib.hid (P1.out.below hb4 (Nat.le_refl _))
  replace P2 := Lib.hid (P2.out.below hb4 (Nat.le_refl _))
  replace FX := Lib.hid (FX.out.below hb4 (Nat.le_refl _))
  obtain ⟨a4, c4, rfl, hi4, p4, q4, r4, _⟩ := own_ents ho4
  have FY := Lib.hid (hi4)
  clear ho4 hi4
  clear CX CY
  go_wp2_with fail
  refine (errOk (except_any6 a3 X.length c3 X a4 Y.length c4 Y w4 FX.out (by omega) FY.out (by omega) p3 q3 r3 p4 q4 r4) Q1.out).mono ?_
  rintro e w5 ⟨v5, rfl, ho5, hb5⟩
  have hB5 := hB4.trans (hb5.mono hB4.size)
  replace E1 := Lib.hid (E1.out.below hb5 (Nat.le_refl _))
  replace E2 := Lib.hid (E2.out.below hb5 (Nat.le_refl _))
  replace P1 := Lib.hid (P1.out.below hb5 (Nat.le_refl _))
  replace P2 := Lib.hid (P2.out.below hb5 (Nat.le_refl _))
  replace FX := Lib.hid (FX.out.below hb5 (Nat.le_refl _))
  replace FY := Lib.hid (FY.out.below hb5 (Nat.le_refl _))
  obtain ⟨a5, c5, rfl, hi5, p5, q5, r5, _⟩ := own_ents ho5
  have C1 := Lib.hid (hi5)
  clear ho5 hi5
  go_wp2_with fail
  refine (errOk (rexcept_any a3 X.length c3 X a4 Y.length c4 Y w5 FX.out (by omega) FY.out (by omega) p3 q3 r3 p4 q4 r4) Q1.out).mono ?_
  rintro e w6 ⟨v6, rfl, ho6, hb6⟩
  have hB6 := hB5.trans (hb6.mono hB5.size)
  replace E1 := Lib.hid (E1.out.below hb6 (Nat.le_refl _))
  replace E2 := Lib.hid (E2.out.below hb6 (Nat.le_refl _))
  replace P1 := Lib.hid (P1.out.below hb6 (Nat.le_refl _))
  replace P2 := Lib.hid (P2.out.below hb6 (Nat.le_refl _))
  replace FX := Lib.hid (FX.out.below hb6 (Nat.le_refl _))
  replace FY := Lib.hid (FY.out.below hb6 (Nat.le_refl _))
  replace C1 := Lib.hid (C1.out.below hb6 (Nat.le_refl _))
  obtain ⟨a6, c6, rfl, hi6, p6, q6, r6, _⟩ := own_ents ho6
  have C2 := Lib.hid (hi6)
  clear ho6 hi6
  go_wp2_with fail
  refine (errTo (distinct_any x1 l1 k1 es1 w6 E1.out (by omega)) HO2.out).mono ?_
  rintro e w7 ⟨v7, rfl, ho7, hb7⟩
  have hB7 := hB6.trans (hb7.mono hB6.size)
  replace E1 := Lib.hid (E1.out.below hb7 (Nat.le_refl _))
  replace E2 := Lib.hid (E2.out.below hb7 (Nat.le_refl _))
  replace P1 := Lib.hid (P1.out.below hb7 (Nat.le_refl _))
  replace P2 := Lib.hid (P2.out.below hb7 (Nat.le_refl _))
  replace FX := Lib.hid (FX.out.below hb7 (Nat.le_refl _))
  replace FY := Lib.hid (FY.out.below hb7 (Nat.le_refl _))
  replace C1 := Lib.hid (C1.out.below hb7 (Nat.le_refl _))
  replace C2 := Lib.hid (C2.out.below hb7 (Nat.le_refl _))
  obtain ⟨a7, c7, rfl, hi7, p7, q7, r7, _⟩ := own_ents ho7
  have P3 := Lib.hid (hi7)
  clear ho7 hi7
  go_wp2_with fail
  refine (errTo (rdistinct_any x1 l1 k1 es1 w7 E1.out (by omega)) HO2.out).mono ?_
  rintro e w8 ⟨v8, rfl, ho8, hb8⟩
  have hB8 := hB7.trans (hb8.mono hB7.size)
  replace E1 := Lib.hid (E1.out.below hb8 (Nat.le_refl _))
  replace E2 := Lib.hid (E2.out.below hb8 (Nat.le_refl _))
  replace P1 := Lib.hid (P1.out.below hb8 (Nat.le_refl _))
  replace P2 := Lib.hid (P2.out.below hb8 (Nat.le_refl _))
  replace FX := Lib.hid (FX.out.below hb8 (Nat.le_refl _))
  replace FY := Lib.hid (FY.out.below hb8 (Nat.le_refl _))
  replace C1 := Lib.hid (C1.out.below hb8 (Nat.le_refl _))
  replace C2 := Lib.hid (C2.out.below hb8 (Nat.le_refl _))
  replace P3 := Lib.hid (P3.out.below hb8 (Nat.le_refl _))
  obtain ⟨a8, c8, rfl, hi8, p8, q8, r8, _⟩ := own_ents ho8
  have P4 := Lib.hid (hi8)
  clear ho8 hi8
  go_wp2_with fail
  refine (errOk (except_any6 a3 X.length c3 X a5 XC.length c5 XC w8 FX.out (by omega) C1.out (by omega) p3 q3 r3 p5 q5 r5) Q2.out).mono ?_
  rintro e w9 ⟨v9, rfl, ho9, hb9⟩
  have hB9 := hB8.trans (hb9.mono hB8.size)
  replace E1 := Lib.hid (E1.out.below hb9 (Nat.le_refl _))
  replace E2 := Lib.hid (E2.out.below hb9 (Nat.le_refl _))
  replace P1 := Lib.hid (P1.out.below hb9 (Nat.le_refl _))
  replace P2 := Lib.hid (P2.out.below hb9 (Nat.le_refl _))
  replace FX := Lib.hid (FX.out.below hb9 (Nat.le_refl _))
  replace FY := Lib.hid (FY.out.below hb9 (Nat.le_refl _))
  replace C1 := Lib.hid (C1.out.below hb9 (Nat.le_refl _))
  replace C2 := Lib.hid (C2.out.below hb9 (Nat.le_refl _))
  replace P3 := Lib.hid (P3.out.below hb9 (Nat.le_refl _))
  replace P4 := Lib.hid (P4.out.below hb9 (Nat.le_refl _))
  obtain ⟨a9, c9, rfl, hi9, p9, q9, r9, _⟩ := own_ents ho9
  have C3 := Lib.hid (hi9)
  clear ho9 hi9
  go_wp2_with fail
  refine (errOk (except_any6 a4 Y.length c4 Y a9 XB.length c9 XB w9 FY.out (by omega) C3.out (by omega) p4 q4 r4 p9 q9 r9) Q3.out).mono ?_
  rintro e w10 ⟨v10, rfl, ho10, hb10⟩
  have hB10 := hB9.trans (hb10.mono hB9.size)
  replace E1 := Lib.hid (E1.out.below hb10 (Nat.le_refl _))
  replace E2 := Lib.hid (E2.out.below hb10 (Nat.le_refl _))
  replace P1 := Lib.hid (P1.out.below hb10 (Nat.le_refl _))
  replace P2 := Lib.hid (P2.out.below hb10 (Nat.le_refl _))
  replace FX := Lib.hid (FX.out.below hb10 (Nat.le_refl _))
  replace FY := Lib.hid (FY.out.below hb10 (Nat.le_refl _))
  replace C1 := Lib.hid (C1.out.below hb10 (Nat.le_refl _))
  replace C2 := Lib.hid (C2.out.below hb10 (Nat.le_refl _))
  replace P3 := Lib.hid (P3.out.below hb10 (Nat.le_refl _))
  replace P4 := Lib.hid (P4.out.below hb10 (Nat.le_refl _))
  replace C3 := Lib.hid (C3.out.below hb10 (Nat.le_refl _))
  obtain ⟨a10, c10, rfl, hi10, p10, q10, r10, _⟩ := own_ents ho10
  have C4 := Lib.hid (hi10)
  clear ho10 hi10
  go_wp2_with fail
  refine (errOk (except_any6 a4 Y.length c4 Y a3 X.length c3 X w10 FY.out (by omega) FX.out (by omega) p4 q4 r4 p3 q3 r3) Q4.out).mono ?_
  rintro e w11 ⟨v11, rfl, ho11, hb11⟩
  have hB11 := hB10.trans (hb11.mono hB10.size)
  replace E1 := Lib.hid (E1.out.below hb11 (Nat.le_refl _))
  replace E2 := Lib.hid (E2.out.below hb11 (Nat.le_refl _))
  replace P1 := Lib.hid (P1.out.below hb11 (Nat.le_refl _))
  replace P2 := Lib.hid (P2.out.below hb11 (Nat.le_refl _))
  replace FX := Lib.hid (FX.out.below hb11 (Nat.le_refl _))
  replace FY := Lib.hid (FY.out.below hb11 (Nat.le_refl _))
  replace C1 := Lib.hid (C1.out.below hb11 (Nat.le_refl _))
  replace C2 := Lib.hid (C2.out.below hb11 (Nat.le_refl _))
  replace P3 := Lib.hid (P3.out.below hb11 (Nat.le_refl _))
  replace P4 := Lib.hid (P4.out.below hb11 (Nat.le_refl _))
  replace C3 := Lib.hid (C3.out.below hb11 (Nat.le_refl _))
  replace C4 := Lib.hid (C4.out.below hb11 (Nat.le_refl _))
  obtain ⟨a11, c11, rfl, hi11, p11, q11, r11, _⟩ := own_ents ho11
  have C5 := Lib.hid (hi11)
  clear ho11 hi11
  go_wp2_with fail
  refine (errOk (distinct_any a3 X.length c3 X w11 FX.out (by omega) ) Q5.out).mono ?_
  rintro e w12 ⟨v12, rfl, ho12, hb12⟩
  have hB12 := hB11.trans (hb12.mono hB11.size)
  replace E1 := Lib.hid (E1.out.below hb12 (Nat.le_refl _))
  replace E2 := Lib.hid (E2.out.below hb12 (Nat.le_refl _))
  replace P1 := Lib.hid (P1.out.below hb12 (Nat.le_refl _))
  replace P2 := Lib.hid (P2.out.below hb12 (Nat.le_refl _))
  replace FX := Lib.hid (FX.out.below hb12 (Nat.le_refl _))
  replace FY := Lib.hid (FY.out.below hb12 (Nat.le_refl _))
  replace C1 := Lib.hid (C1.out.below hb12 (Nat.le_refl _))
  replace C2 := Lib.hid (C2.out.below hb12 (Nat.le_refl _))
  replace P3 := Lib.hid (P3.out.below hb12 (Nat.le_refl _))
  replace P4 := Lib.hid (P4.out.below hb12 (Nat.le_refl _))
  replace C3 := Lib.hid (C3.out.below hb12 (Nat.le_refl _))
  replace C4 := Lib.hid (C4.out.below hb12 (Nat.le_refl _))
  replace C5 := Lib.hid (C5.out.below hb12 (Nat.le_refl _))
  obtain ⟨a12, c12, rfl, hi12, p12, q12, r12, _⟩ := own_ents ho12
  have C6 := Lib.hid (hi12)
  clear ho12 hi12
  go_wp2_with fail
  refine (errOk (distinct_any a12 XO.length c12 XO w12 C6.out (by omega) ) Q6.out).mono ?_
  rintro e w13 ⟨v13, rfl, ho13, hb13⟩
  have hB13 := hB12.trans (hb13.mono hB12.size)
  replace E1 := Lib.hid (E1.out.below hb13 (Nat.le_refl _))
  replace E2 := Lib.hid (E2.out.below hb13 (Nat.le_refl _))
  replace P1 := Lib.hid (P1.out.below hb13 (Nat.le_refl _))
  replace P2 := Lib.hid (P2.out.below hb13 (Nat.le_refl _))
  replace FX := Lib.hid (FX.out.below hb13 (Nat.le_refl _))
  replace FY := Lib.hid (FY.out.below hb13 (Nat.le_refl _))
  replace C1 := Lib.hid (C1.out.below hb13 (Nat.le_refl _))
  replace C2 := Lib.hid (C2.out.below hb13 (Nat.le_refl _))
  replace P3 := Lib.hid (P3.out.below hb13 (Nat.le_refl _))
  replace P4 := Lib.hid (P4.out.below hb13 (Nat.le_refl _))
  replace C3 := Lib.hid (C3.out.below hb13 (Nat.le_refl _))
  replace C4 := Lib.hid (C4.out.below hb13 (Nat.le_refl _))
  replace C5 := Lib.hid (C5.out.below hb13 (Nat.le_refl _))
  replace C6 := Lib.hid (C6.out.below hb13 (Nat.le_refl _))
  obtain ⟨a13, c13, rfl, hi13, p13, q13, r13, _⟩ := own_ents ho13
  have C7 := Lib.hid (hi13)
  clear ho13 hi13
  go_wp2_with fail
  refine (rsame_true P1.out P2.out (by omega)).mono ?_
  rintro e w14 ⟨rfl, hb14⟩
  have hB14 := hB13.trans (hb14.mono hB13.size)
  replace E1 := Lib.hid (E1.out.below hb14 (Nat.le_refl _))
  replace E2 := Lib.hid (E2.out.below hb14 (Nat.le_refl _))
  replace P1 := Lib.hid (P1.out.below hb14 (Nat.le_refl _))
  replace P2 := Lib.hid (P2.out.below hb14 (Nat.le_refl _))
  replace FX := Lib.hid (FX.out.below hb14 (Nat.le_refl _))
  replace FY := Lib.hid (FY.out.below hb14 (Nat.le_refl _))
  replace C1 := Lib.hid (C1.out.below hb14 (Nat.le_refl _))
  replace C2 := Lib.hid (C2.out.below hb14 (Nat.le_refl _))
  replace P3 := Lib.hid (P3.out.below hb14 (Nat.le_refl _))
  replace P4 := Lib.hid (P4.out.below hb14 (Nat.le_refl _))
  replace C3 := Lib.hid (C3.out.below hb14 (Nat.le_refl _))
  replace C4 := Lib.hid (C4.out.below hb14 (Nat.le_refl _))
  replace C5 := Lib.hid (C5.out.below hb14 (Nat.le_refl _))
  replace C6 := Lib.hid (C6.out.below hb14 (Nat.le_refl _))
  replace C7 := Lib.hid (C7.out.below hb14 (Nat.le_refl _))
  go_wp2_with fail
  refine (rsame_true C1.out C2.out (by omega)).mono ?_
  rintro e w15 ⟨rfl, hb15⟩
  have hB15 := hB14.trans (hb15.mono hB14.size)
  replace E1 := Lib.hid (E1.out.below hb15 (Nat.le_refl _))
  replace E2 := Lib.hid (E2.out.below hb15 (Nat.le_refl _))
  replace P1 := Lib.hid (P1.out.below hb15 (Nat.le_refl _))
  replace P2 := Lib.hid (P2.out.below hb15 (Nat.le_refl _))
  replace FX := Lib.hid (FX.out.below hb15 (Nat.le_refl _))
  replace FY := Lib.hid (FY.out.below hb15 (Nat.le_refl _))
  replace C1 := Lib.hid (C1.out.below hb15 (Nat.le_refl _))
  replace C2 := Lib.hid (C2.out.below hb15 (Nat.le_refl _))
  replace P3 := Lib.hid (P3.out.below hb15 (Nat.le_refl _))
  replace P4 := Lib.hid (P4.out.below hb15 (Nat.le_refl _))
  replace C3 := Lib.hid (C3.out.below hb15 (Nat.le_refl _))
  replace C4 := Lib.hid (C4.out.below hb15 (Nat.le_refl _))
  replace C5 := Lib.hid (C5.out.below hb15 (Nat.le_refl _))
  replace C6 := Lib.hid (C6.out.below hb15 (Nat.le_refl _))
  replace C7 := Lib.hid (C7.out.below hb15 (Nat.le_refl _))
  go_wp2_with fail
  refine (rsame_true P3.out P4.out (by omega)).mono ?_
  rintro e w16 ⟨rfl, hb16⟩
  have hB16 := hB15.trans (hb16.mono hB15.size)
  replace E1 := Lib.hid (E1.out.below hb16 (Nat.le_refl _))
  replace E2 := Lib.hid (E2.out.below hb16 (Nat.le_refl _))
  replace P1 := Lib.hid (P1.out.below hb16 (Nat.le_refl _))
  replace P2 := Lib.hid (P2.out.below hb16 (Nat.le_refl _))
  replace FX := Lib.hid (FX.out.below hb16 (Nat.le_refl _))
  replace FY := Lib.hid (FY.out.below hb16 (Nat.le_refl _))
  replace C1 := Lib.hid (C1.out.below hb16 (Nat.le_refl _))
  replace C2 := Lib.hid (C2.out.below hb16 (Nat.le_refl _))
  replace P3 := Lib.hid (P3.out.below hb16 (Nat.le_refl _))
  replace P4 := Lib.hid (P4.out.below hb16 (Nat.le_refl _))
  replace C3 := Lib.hid (C3.out.below hb16 (Nat.le_refl _))
  replace C4 := Lib.hid (C4.out.below hb16 (Nat.le_refl _))
  replace C5 := Lib.hid (C5.out.below hb16 (Nat.le_refl _))
  replace C6 := Lib.hid (C6.out.below hb16 (Nat.le_refl _))
  replace C7 := Lib.hid (C7.out.below hb16 (Nat.le_refl _))
  go_wp2_with fail
  refine (rsame_true C4.out C5.out (by omega)).mono ?_
  rintro e w17 ⟨rfl, hb17⟩
  have hB17 := hB16.trans (hb17.mono hB16.size)
  replace E1 := Lib.hid (E1.out.below hb17 (Nat.le_refl _))
  replace E2 := Lib.hid (E2.out.below hb17 (Nat.le_refl _))
  replace P1 := Lib.hid (P1.out.below hb17 (Nat.le_refl _))
  replace P2 := Lib.hid (P2.out.below hb17 (Nat.le_refl _))
  replace FX := Lib.hid (FX.out.below hb17 (Nat.le_refl _))
  replace FY := Lib.hid (FY.out.below hb17 (Nat.le_refl _))
  replace C1 := Lib.hid (C1.out.below hb17 (Nat.le_refl _))
  replace C2 := Lib.hid (C2.out.below hb17 (Nat.le_refl _))
  replace P3 := Lib.hid (P3.out.below hb17 (Nat.le_refl _))
  replace P4 := Lib.hid (P4.out.below hb17 (Nat.le_refl _))
  replace C3 := Lib.hid (C3.out.below hb17 (Nat.le_refl _))
  replace C4 := Lib.hid (C4.out.below hb17 (Nat.le_refl _))
  replace C5 := Lib.hid (C5.out.below hb17 (Nat.le_refl _))
  replace C6 := Lib.hid (C6.out.below hb17 (Nat.le_refl _))
  replace C7 := Lib.hid (C7.out.below hb17 (Nat.le_refl _))
  go_wp2_with fail
  refine (rsame_true C6.out C7.out (by omega)).mono ?_
  rintro e w18 ⟨rfl, hb18⟩
  have hB18 := hB17.trans (hb18.mono hB17.size)
  replace E1 := Lib.hid (E1.out.below hb18 (Nat.le_refl _))
  replace E2 := Lib.hid (E2.out.below hb18 (Nat.le_refl _))
  replace P1 := Lib.hid (P1.out.below hb18 (Nat.le_refl _))
  replace P2 := Lib.hid (P2.out.below hb18 (Nat.le_refl _))
  replace FX := Lib.hid (FX.out.below hb18 (Nat.le_refl _))
  replace FY := Lib.hid (FY.out.below hb18 (Nat.le_refl _))
  replace C1 := Lib.hid (C1.out.below hb18 (Nat.le_refl _))
  replace C2 := Lib.hid (C2.out.below hb18 (Nat.le_refl _))
  replace P3 := Lib.hid (P3.out.below hb18 (Nat.le_refl _))
  replace P4 := Lib.hid (P4.out.below hb18 (Nat.le_refl _))
  replace C3 := Lib.hid (C3.out.below hb18 (Nat.le_refl _))
  replace C4 := Lib.hid (C4.out.below hb18 (Nat.le_refl _))
  replace C5 := Lib.hid (C5.out.below hb18 (Nat.le_refl _))
  replace C6 := Lib.hid (C6.out.below hb18 (Nat.le_refl _))
  replace C7 := Lib.hid (C7.out.below hb18 (Nat.le_refl _))
  have hol := HOL.out
  go_wp2_with fail
  refine (known_any _).mono ?_
  rintro e w19 ⟨rfl, hb19⟩
  have hB19 := hB18.trans (hb19.mono hB18.size)
  replace E1 := Lib.hid (E1.out.below hb19 (Nat.le_refl _))
  replace E2 := Lib.hid (E2.out.below hb19 (Nat.le_refl _))
  replace P1 := Lib.hid (P1.out.below hb19 (Nat.le_refl _))
  replace P2 := Lib.hid (P2.out.below hb19 (Nat.le_refl _))
  replace FX := Lib.hid (FX.out.below hb19 (Nat.le_refl _))
  replace FY := Lib.hid (FY.out.below hb19 (Nat.le_refl _))
  replace C1 := Lib.hid (C1.out.below hb19 (Nat.le_refl _))
  replace C2 := Lib.hid (C2.out.below hb19 (Nat.le_refl _))
  replace P3 := Lib.hid (P3.out.below hb19 (Nat.le_refl _))
  replace P4 := Lib.hid (P4.out.below hb19 (Nat.le_refl _))
  replace C3 := Lib.hid (C3.out.below hb19 (Nat.le_refl _))
  replace C4 := Lib.hid (C4.out.below hb19 (Nat.le_refl _))
  replace C5 := Lib.hid (C5.out.below hb19 (Nat.le_refl _))
  replace C6 := Lib.hid (C6.out.below hb19 (Nat.le_refl _))
  replace C7 := Lib.hid (C7.out.below hb19 (Nat.le_refl _))
  go_wp2_with fail
  go_ret
  exact ⟨rfl, hB19⟩

end Go.Proofs.Ytdhhhmehkldliaa
