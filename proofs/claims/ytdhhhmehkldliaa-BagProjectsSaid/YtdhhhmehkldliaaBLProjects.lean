/-
  BagProjects: its walk.
-/
import Derived.Test.YtdhhhmehkldliaaBAlg3
set_option linter.unusedVariables false
set_option maxRecDepth 100000
namespace Go.Proofs.Ytdhhhmehkldliaa
open Go.RowKit Wh

theorem ints_one (w : World) (z : Int) : IsInts (w.alloc (.cells #[.int .i64 z] 3)) (some ⟨w.heap.size, 0, none⟩) 1 [z] := by
  refine ⟨rfl, .inr ⟨w.heap.size, 0, rfl, by simp, fun i y hy => ?_⟩⟩
  match i, hy with
  | 0, hy => cases hy; exact cell_of_row _ _ 0 _ _ _ (heap_alloc_new w _)
theorem vals_one (w : World) (v : V) : IsVals (w.alloc (.cells #[.int .i64 v.k, .int .i64 v.n, .string v.s] 38)) (some ⟨w.heap.size, 0, none⟩) 1 [v] := by
  refine ⟨rfl, .inr ⟨w.heap.size, 0, rfl, by simp, fun i y hy => ?_⟩⟩
  match i, hy with
  | 0, hy => cases hy; exact ⟨cell_of_row _ _ 0 _ _ _ (heap_alloc_new w _), cell_of_row _ _ 1 _ _ _ (heap_alloc_new w _), cell_of_row _ _ 2 _ _ _ (heap_alloc_new w _)⟩

set_option maxHeartbeats 8000000 in
theorem projects_walk (w : World) (x1 : Option Addr) (l1 k1 : Nat) (es1 : List En) (he1 : IsEnts w x1 l1 es1) (he1c : l1 ≤ k1) (he1m : k1 ≤ maxLen) (he1n : x1 = none → k1 = 0) (_ : ∀ e ∈ es1, -9223372036854775808 ≤ e.cnt ∧ e.cnt ≤ 9223372036854775807)
    (y3 : Option Addr) (m3 j3 : Nat) (zs3 : List Int) (hz3 : IsInts w y3 m3 zs3) (hz3c : m3 ≤ j3) (hz3m : j3 ≤ maxLen) (hz3b : ∀ z ∈ zs3, -9223372036854775808 ≤ z ∧ z ≤ 9223372036854775807)
    (u1 : Option Addr) (l2 k2 : Nat) (row : List V) (hr : IsVals w u1 l2 row) (hrc : l2 ≤ k2) (hrm : k2 ≤ maxLen) (_ : u1 = none → k2 = 0)
    (y1 : Option Addr) (m1 j1 : Nat) (zs1 : List Int) (hz1 : IsInts w y1 m1 zs1) (hz1c : m1 ≤ j1) (hz1m : j1 ≤ maxLen) (hz1b : ∀ z ∈ zs1, -9223372036854775808 ≤ z ∧ z ≤ 9223372036854775807)
    (y2 : Option Addr) (m2 j2 : Nat) (zs2 : List Int) (hz2 : IsInts w y2 m2 zs2) (hz2c : m2 ≤ j2) (hz2m : j2 ≤ maxLen) (hz2b : ∀ z ∈ zs2, -9223372036854775808 ≤ z ∧ z ≤ 9223372036854775807) (n : Int) (n0 : -9223372036854775808 ≤ n) (n1 : n ≤ 9223372036854775807) :
    Calls Try.prog 9 #[.slice x1 l1 k1, .slice y3 m3 j3, .slice u1 l2 k2, .slice y1 m1 j1, .slice y2 m2 j2, .int .i64 n] w fun e w' => e = .returned (.bool true) ∧ Below w.heap.size w w' := by
  have mm : maxLen = 9223372036854775807 := rfl
  have L1 := Lib.hid (light_any x1 l1 k1 es1 w he1 (by omega))
  generalize lightB es1 = b1 at *
  have hB0 : Below w.heap.size w w := Below.refl _ _
  by_cases hq : b1 = false
  · subst hq
    clear he1 hz1 hz2 hz3 hr mm
    go_enter Try.func9, Try.ntmps9
    go_wp2_with fail
    refine L1.out.mono ?_
    rintro e w1 ⟨rfl, rfl⟩
    go_wp2_with fail
    refine (known_any _).mono ?_
    rintro e w2 ⟨rfl, hb2⟩
    go_wp2_with fail
    go_ret
    exact ⟨rfl, hb2⟩
  obtain rfl : b1 = true := by simpa using hq
  by_cases h50 : 50 < m3
  · have h50i : (50 : Int) < (m3 : Int) := by omega
    clear he1 hz1 hz2 hz3 hr mm
    go_enter Try.func9, Try.ntmps9
    go_wp2_with fail
    refine L1.out.mono ?_
    rintro e w1 ⟨rfl, rfl⟩
    go_wp2_with fail
    refine (known_any _).mono ?_
    rintro e w2 ⟨rfl, hb2⟩
    go_wp2_with fail
    go_ret
    exact ⟨rfl, hb2⟩
  have h50i : ¬ (50 : Int) < (m3 : Int) := by omega
  by_cases h51 : 50 < l2
  · have h51i : (50 : Int) < (l2 : Int) := by omega
    clear he1 hz1 hz2 hz3 hr mm
    go_enter Try.func9, Try.ntmps9
    go_wp2_with fail
    refine L1.out.mono ?_
    rintro e w1 ⟨rfl, rfl⟩
    go_wp2_with fail
    refine (known_any _).mono ?_
    rintro e w2 ⟨rfl, hb2⟩
    go_wp2_with fail
    go_ret
    exact ⟨rfl, hb2⟩
  have h51i : ¬ (50 : Int) < (l2 : Int) := by omega
  have b1m := and_1
  have b7 := and_7
  have b15 := and_15
  obtain ⟨N, hN, hN7⟩ : ∃ N : Nat, n % 8 = N ∧ N ≤ 7 := ⟨(n % 8).toNat, by omega, by omega⟩
  obtain ⟨M, hM, hM7⟩ : ∃ M : Nat, n / 8 % 8 = M ∧ M ≤ 7 := ⟨(n / 8 % 8).toNat, by omega, by omega⟩
  obtain ⟨z, hz⟩ : ∃ z : Int, n / 64 % 2 = z := ⟨_, rfl⟩
  obtain ⟨y, hy, hy0, hy1⟩ : ∃ y : Int, n / 128 % 16 = y ∧ 0 ≤ y ∧ y ≤ 15 := ⟨_, rfl, by omega, by omega⟩
  have CA := Lib.hid (fun W => any_any y (by omega) (by omega) W)
  have CX := Lib.hid (fun W (h : Below w.heap.size w W) => bag_any y1 m1 j1 zs1 N W (hz1.below h (Nat.le_refl _)) (by omega) (by omega))
  have CY := Lib.hid (fun W (h : Below w.heap.size w W) => bag_any y2 m2 j2 zs2 M W (hz2.below h (Nat.le_refl _)) (by omega) (by omega))
  have s1 := draw_sm zs1 (n := N) (by omega)
  have s2 := draw_sm zs2 (n := M) (by omega)
  generalize bagZ zs1 N = X at *
  generalize bagZ zs2 M = Y at *
  generalize anyV y = v at *
  have s3 := s1.join s2
  have p1' := proj_bag s1 (iz := [z]) (by simp)
  have p2' := proj_bag s2 (iz := [z]) (by simp)
  have p3' := proj_bag s3 (iz := [z]) (by simp)
  have t1' := sel_bag s1 [z] [v]
  have t2' := sel_bag s2 [z] [v]
  have t3' := sel_bag s3 [z] [v]
  have Q1 := Lib.hid (add_sm s1 s2 (by omega) (by omega))
  have Q2 := Lib.hid (proj_sm s3 (iz := [z]) (by simp) (by omega) (by omega))
  have Q3 := Lib.hid (proj_sm s1 (iz := [z]) (by simp) (by omega) (by omega))
  have Q4 := Lib.hid (proj_sm s2 (iz := [z]) (by simp) (by omega) (by omega))
  have Q5 := Lib.hid ((add_sm p1' p2' (by omega) (by omega)).trans (by rw [proj_join]))
  have Q6 := Lib.hid (sel_sm s3 [z] [v] (by omega) (by omega))
  have Q7 := Lib.hid (sel_sm s1 [z] [v] (by omega) (by omega))
  have Q8 := Lib.hid (sel_sm s2 [z] [v] (by omega) (by omega))
  have Q9 := Lib.hid ((add_sm t1' t2' (by omega) (by omega)).trans (by rw [sel_join s1 s2]))
  have r1' := s1.len
  have r2' := s2.len
  have r3' := s3.len
  have r4' := p1'.len
  have r5' := p2'.len
  have r6' := p3'.len
  have r7' := t1'.len
  have r8' := t2'.len
  have r9' := t3'.len
  generalize bagL (projL (bagL (X ++ Y)) [z]) = PP at *
  generalize bagL (projL X [z]) = PX at *
  generalize bagL (projL Y [z]) = PY at *
  generalize selL (bagL (X ++ Y)) [z] [v] = SS at *
  generalize selL X [z] [v] = SX at *
  generalize selL Y [z] [v] = SY at *
  generalize bagL (X ++ Y) = XY at *
  obtain ⟨o1, HO1⟩ : ∃ o, Hid (projOut es1 zs3 = o) := ⟨_, rfl⟩
  obtain ⟨o2, HO2⟩ : ∃ o, Hid (selOut es1 zs3 row = o) := ⟨_, rfl⟩
  have E1 := Lib.hid he1
  have I1 := Lib.hid hz3
  have V1 := Lib.hid hr
  clear he1 hz1 hz2 hz3 hr hq s1 s2 s3 p1' p2' p3' t1' t2' t3'
  go_enter Try.func9, Try.ntmps9
  go_wp2_with fail
  refine L1.out.mono ?_
  rintro e w1 ⟨rfl, rfl⟩
  clear L1
  go_wp2_with fail
  refine (errTo (project_any x1 l1 k1 es1 y3 m3 j3 zs3 w E1.out (by omega) I1.out (by omega)) HO1.out).mono ?_
  rintro e w1 ⟨v1, rfl, ho1, hb1⟩
  have hB1 := hB0.trans (hb1.mono hB0.size)
  replace E1 := Lib.hid (E1.out.below hb1 (Nat.le_refl _))
  replace I1 := Lib.hid (I1.out.below hb1 (Nat.le_refl _))
  replace V1 := Lib.hid (V1.out.below hb1 (Nat.le_refl _))
  obtain ⟨a1, c1, rfl, hi1, p1, q1, r1, _⟩ := own_ents ho1
  have P1 := Lib.hid (hi1)
  clear ho1 hi1
  go_wp2_with fail
  refine (errTo (rproject_any x1 l1 k1 es1 y3 m3 j3 zs3 w1 E1.out (by omega) I1.out (by omega)) HO1.out).mono ?_
  rintro e w2 ⟨v2, rfl, ho2, hb2⟩
  have hB2 := hB1.trans (hb2.mono hB1.size)
  replace E1 := Lib.hid (E1.out.below hb2 (Nat.le_refl _))
  replace I1 := Lib.hid (I1.out.below hb2 (Nat.le_refl _))
  replace V1 := Lib.hid (V1.out.below hb2 (Nat.le_refl _))
  replace P1 := Lib.hid (P1.out.below hb2 (Nat.le_refl _))
  obtain ⟨a2, c2, rfl, hi2, p2, q2, r2, _⟩ := own_ents ho2
  have P2 := Lib.hid (hi2)
  clear ho2 hi2
  go_wp2_with fail
  refine (errTo (select_any6 x1 l1 k1 es1 y3 m3 j3 zs3 u1 l2 k2 row w2 E1.out (by omega) I1.out (by omega) V1.out (by omega)) HO2.out).mono ?_
  rintro e w3 ⟨v3, rfl, ho3, hb3⟩
  have hB3 := hB2.trans (hb3.mono hB2.size)
  replace E1 := Lib.hid (E1.out.below hb3 (Nat.le_refl _))
  replace I1 := Lib.hid (I1.out.below hb3 (Nat.le_refl _))
  replace V1 := Lib.hid (V1.out.below hb3 (Nat.le_refl _))
  replace P1 := Lib.hid (P1.out.below hb3 (Nat.le_refl _))
  replace P2 := Lib.hid (P2.out.below hb3 (Nat.le_refl _))
  obtain ⟨a3, c3, rfl, hi3, p3, q3, r3, _⟩ := own_ents ho3
  have P3 := Lib.hid (hi3)
  clear ho3 hi3
  go_wp2_with fail
  refine (errTo (rselect_any6 x1 l1 k1 es1 y3 m3 j3 zs3 u1 l2 k2 row w3 E1.out (by omega) I1.out (by omega) V1.out (by omega)) HO2.out).mono ?_
  rintro e w4 ⟨v4, rfl, ho4, hb4⟩
  have hB4 := hB3.trans (hb4.mono hB3.size)
  replace E1 := Lib.hid (E1.out.below hb4 (Nat.le_refl _))
  replace I1 := Lib.hid (I1.out.below hb4 (Nat.le_refl _))
  replace V1 := Lib.hid (V1.out.below hb4 (Nat.le_refl _))
  replace P1 := Lib.hid (P1.out.below hb4 (Nat.le_refl _))
  replace P2 := Lib.hid (P2.out.below hb4 (Nat.le_refl _))
  replace P3 := Lib.hid (P3.out.below hb4 (Nat.le_refl _))
  obtain ⟨a4, c4, rfl, hi4, p4, q4, r4, _⟩ := own_ents ho4
  have P4 := Lib.hid (hi4)
  clear ho4 hi4
  go_wp2_with fail
  refine (rsame_true P1.out P2.out (by omega)).mono ?_
  rintro e w5 ⟨rfl, hb5⟩
  have hB5 := hB4.trans (hb5.mono hB4.size)
  replace E1 := Lib.hid (E1.out.below hb5 (Nat.le_refl _))
  replace I1 := Lib.hid (I1.out.below hb5 (Nat.le_refl _))
  replace V1 := Lib.hid (V1.out.below hb5 (Nat.le_refl _))
  replace P1 := Lib.hid (P1.out.below hb5 (Nat.le_refl _))
  replace P2 := Lib.hid (P2.out.below hb5 (Nat.le_refl _))
  replace P3 := Lib.hid (P3.out.below hb5 (Nat.le_refl _))
  replace P4 := Lib.hid (P4.out.below hb5 (Nat.le_refl _))
  clear P1 P2
  go_wp2_with fail
  refine (rsame_true P3.out P4.out (by omega)).mono ?_
  rintro e w6 ⟨rfl, hb6⟩
  have hB6 := hB5.trans (hb6.mono hB5.size)
  replace E1 := Lib.hid (E1.out.below hb6 (Nat.le_refl _))
  replace I1 := Lib.hid (I1.out.below hb6 (Nat.le_refl _))
  replace V1 := Lib.hid (V1.out.below hb6 (Nat.le_refl _))
  replace P3 := Lib.hid (P3.out.below hb6 (Nat.le_refl _))
  replace P4 := Lib.hid (P4.out.below hb6 (Nat.le_refl _))
  clear P3 P4
  clear E1 I1 V1
  go_wp2_with fail
  refine (CX.out _ hB6).mono ?_
  rintro e w7 ⟨v7, rfl, ho7, hb7⟩
  have hB7 := hB6.trans (hb7.mono hB6.size)
  obtain ⟨a7, c7, rfl, hi7, p7, q7, r7, _⟩ := own_ents ho7
  have FX := Lib.hid (hi7)
  clear ho7 hi7
  go_wp2_with fail
  refine (CY.out _ hB7).mono ?_
  rintro e w8 ⟨v8, rfl, ho8, hb8⟩
  have hB8 := hB7.trans (hb8.mono hB7.size)
  replace FX := Lib.hid (FX.out.below hb8 (Nat.le_refl _))
  obtain ⟨a8, c8, rfl, hi8, p8, q8, r8, _⟩ := own_ents ho8
  have FY := Lib.hid (hi8)
  clear ho8 hi8
  clear CX CY
  have hAi : Below w8.heap.size w8 (w8.alloc (.cells #[.int .i64 z] 3)) := (Below.refl _ _).alloc (Nat.le_refl _) _
  have hBAi := hB8.trans (hAi.mono hB8.size)
  replace FX := Lib.hid (FX.out.below hAi (Nat.le_refl _))
  replace FY := Lib.hid (FY.out.below hAi (Nat.le_refl _))
  have IZ := Lib.hid (ints_one w8 z)
  go_wp2_with fail
  refine (CA.out _).mono ?_
  rintro e w9 ⟨rfl, hb9⟩
  have hB9 := hBAi.trans (hb9.mono hBAi.size)
  replace FX := Lib.hid (FX.out.below hb9 (Nat.le_refl _))
  replace FY := Lib.hid (FY.out.below hb9 (Nat.le_refl _))
  replace IZ := Lib.hid (IZ.out.below hb9 (Nat.le_refl _))
  have hAv : Below w9.heap.size w9 (w9.alloc (.cells #[.int .i64 v.k, .int .i64 v.n, .string v.s] 38)) := (Below.refl _ _).alloc (Nat.le_refl _) _
  have hBAv := hB9.trans (hAv.mono hB9.size)
  replace FX := Lib.hid (FX.out.below hAv (Nat.le_refl _))
  replace FY := Lib.hid (FY.out.below hAv (Nat.le_refl _))
  replace IZ := Lib.hid (IZ.out.below hAv (Nat.le_refl _))
  have IK := Lib.hid (vals_one w9 v)
  go_wp2_with fail
  refine (errOk (add_any6 a7 X.length c7 X a8 Y.length c8 Y  (w9.alloc (.cells #[.int .i64 v.k, .int .i64 v.n, .string v.s] 38)) FX.out (by omega) FY.out (by omega)  p7 q7 r7 p8 q8 r8) Q1.out).mono ?_
  rintro e w10 ⟨v10, rfl, ho10, hb10⟩
  have hB10 := hBAv.trans (hb10.mono hBAv.size)
  replace FX := Lib.hid (FX.out.below hb10 (Nat.le_refl _))
  replace FY := Lib.hid (FY.out.below hb10 (Nat.le_refl _))
  replace IZ := Lib.hid (IZ.out.below hb10 (Nat.le_refl _))
  replace IK := Lib.hid (IK.out.below hb10 (Nat.le_refl _))
  obtain ⟨a10, c10, rfl, hi10, p10, q10, r10, _⟩ := own_ents ho10
  have FS := Lib.hid (hi10)
  clear ho10 hi10
  go_wp2_with fail
  refine (errOk (project_any a10 XY.length c10 XY (some ⟨w8.heap.size, 0, none⟩) 1 1 [z] w10 FS.out (by omega) IZ.out (by omega) ) Q2.out).mono ?_
  rintro e w11 ⟨v11, rfl, ho11, hb11⟩
  have hB11 := hB10.trans (hb11.mono hB10.size)
  replace FX := Lib.hid (FX.out.below hb11 (Nat.le_refl _))
  replace FY := Lib.hid (FY.out.below hb11 (Nat.le_refl _))
  replace IZ := Lib.hid (IZ.out.below hb11 (Nat.le_refl _))
  replace IK := Lib.hid (IK.out.below hb11 (Nat.le_refl _))
  replace FS := Lib.hid (FS.out.below hb11 (Nat.le_refl _))
  obtain ⟨a11, c11, rfl, hi11, p11, q11, r11, _⟩ := own_ents ho11
  have R1 := Lib.hid (hi11)
  clear ho11 hi11
  go_wp2_with fail
  refine (errOk (project_any a7 X.length c7 X (some ⟨w8.heap.size, 0, none⟩) 1 1 [z] w11 FX.out (by omega) IZ.out (by omega) ) Q3.out).mono ?_
  rintro e w12 ⟨v12, rfl, ho12, hb12⟩
  have hB12 := hB11.trans (hb12.mono hB11.size)
  replace FX := Lib.hid (FX.out.below hb12 (Nat.le_refl _))
  replace FY := Lib.hid (FY.out.below hb12 (Nat.le_refl _))
  replace IZ := Lib.hid (IZ.out.below hb12 (Nat.le_refl _))
  replace IK := Lib.hid (IK.out.below hb12 (Nat.le_refl _))
  replace FS := Lib.hid (FS.out.below hb12 (Nat.le_refl _))
  replace R1 := Lib.hid (R1.out.below hb12 (Nat.le_refl _))
  obtain ⟨a12, c12, rfl, hi12, p12, q12, r12, _⟩ := own_ents ho12
  have R2 := Lib.hid (hi12)
  clear ho12 hi12
  go_wp2_with fail
  refine (errOk (project_any a8 Y.length c8 Y (some ⟨w8.heap.size, 0, none⟩) 1 1 [z] w12 FY.out (by omega) IZ.out (by omega) ) Q4.out).mono ?_
  rintro e w13 ⟨v13, rfl, ho13, hb13⟩
  have hB13 := hB12.trans (hb13.mono hB12.size)
  replace FX := Lib.hid (FX.out.below hb13 (Nat.le_refl _))
  replace FY := Lib.hid (FY.out.below hb13 (Nat.le_refl _))
  replace IZ := Lib.hid (IZ.out.below hb13 (Nat.le_refl _))
  replace IK := Lib.hid (IK.out.below hb13 (Nat.le_refl _))
  replace FS := Lib.hid (FS.out.below hb13 (Nat.le_refl _))
  replace R1 := Lib.hid (R1.out.below hb13 (Nat.le_refl _))
  replace R2 := Lib.hid (R2.out.below hb13 (Nat.le_refl _))
  obtain ⟨a13, c13, rfl, hi13, p13, q13, r13, _⟩ := own_ents ho13
  have R3 := Lib.hid (hi13)
  clear ho13 hi13
  go_wp2_with fail
  refine (errOk (add_any6 a12 PX.length c12 PX a13 PY.length c13 PY  w13 R2.out (by omega) R3.out (by omega)  p12 q12 r12 p13 q13 r13) Q5.out).mono ?_
  rintro e w14 ⟨v14, rfl, ho14, hb14⟩
  have hB14 := hB13.trans (hb14.mono hB13.size)
  replace FX := Lib.hid (FX.out.below hb14 (Nat.le_refl _))
  replace FY := Lib.hid (FY.out.below hb14 (Nat.le_refl _))
  replace IZ := Lib.hid (IZ.out.below hb14 (Nat.le_refl _))
  replace IK := Lib.hid (IK.out.below hb14 (Nat.le_refl _))
  replace FS := Lib.hid (FS.out.below hb14 (Nat.le_refl _))
  replace R1 := Lib.hid (R1.out.below hb14 (Nat.le_refl _))
  replace R2 := Lib.hid (R2.out.below hb14 (Nat.le_refl _))
  replace R3 := Lib.hid (R3.out.below hb14 (Nat.le_refl _))
  obtain ⟨a14, c14, rfl, hi14, p14, q14, r14, _⟩ := own_ents ho14
  have R4 := Lib.hid (hi14)
  clear ho14 hi14
  go_wp2_with fail
  refine (errOk (select_any6 a10 XY.length c10 XY (some ⟨w8.heap.size, 0, none⟩) 1 1 [z] (some ⟨w9.heap.size, 0, none⟩) 1 1 [v] w14 FS.out (by omega) IZ.out (by omega) IK.out (by omega) ) Q6.out).mono ?_
  rintro e w15 ⟨v15, rfl, ho15, hb15⟩
  have hB15 := hB14.trans (hb15.mono hB14.size)
  replace FX := Lib.hid (FX.out.below hb15 (Nat.le_refl _))
  replace FY := Lib.hid (FY.out.below hb15 (Nat.le_refl _))
  replace IZ := Lib.hid (IZ.out.below hb15 (Nat.le_refl _))
  replace IK := Lib.hid (IK.out.below hb15 (Nat.le_refl _))
  replace FS := Lib.hid (FS.out.below hb15 (Nat.le_refl _))
  replace R1 := Lib.hid (R1.out.below hb15 (Nat.le_refl _))
  replace R2 := Lib.hid (R2.out.below hb15 (Nat.le_refl _))
  replace R3 := Lib.hid (R3.out.below hb15 (Nat.le_refl _))
  replace R4 := Lib.hid (R4.out.below hb15 (Nat.le_refl _))
  obtain ⟨a15, c15, rfl, hi15, p15, q15, r15, _⟩ := own_ents ho15
  have T1 := Lib.hid (hi15)
  clear ho15 hi15
  go_wp2_with fail
  refine (errOk (select_any6 a7 X.length c7 X (some ⟨w8.heap.size, 0, none⟩) 1 1 [z] (some ⟨w9.heap.size, 0, none⟩) 1 1 [v] w15 FX.out (by omega) IZ.out (by omega) IK.out (by omega) ) Q7.out).mono ?_
  rintro e w16 ⟨v16, rfl, ho16, hb16⟩
  have hB16 := hB15.trans (hb16.mono hB15.size)
  replace FX := Lib.hid (FX.out.below hb16 (Nat.le_refl _))
  replace FY := Lib.hid (FY.out.below hb16 (Nat.le_refl _))
  replace IZ := Lib.hid (IZ.out.below hb16 (Nat.le_refl _))
  replace IK := Lib.hid (IK.out.below hb16 (Nat.le_refl _))
  replace FS := Lib.hid (FS.out.below hb16 (Nat.le_refl _))
  replace R1 := Lib.hid (R1.out.below hb16 (Nat.le_refl _))
  replace R2 := Lib.hid (R2.out.below hb16 (Nat.le_refl _))
  replace R3 := Lib.hid (R3.out.below hb16 (Nat.le_refl _))
  replace R4 := Lib.hid (R4.out.below hb16 (Nat.le_refl _))
  replace T1 := Lib.hid (T1.out.below hb16 (Nat.le_refl _))
  obtain ⟨a16, c16, rfl, hi16, p16, q16, r16, _⟩ := own_ents ho16
  have T2 := Lib.hid (hi16)
  clear ho16 hi16
  go_wp2_with fail
  refine (errOk (select_any6 a8 Y.length c8 Y (some ⟨w8.heap.size, 0, none⟩) 1 1 [z] (some ⟨w9.heap.size, 0, none⟩) 1 1 [v] w16 FY.out (by omega) IZ.out (by omega) IK.out (by omega) ) Q8.out).mono ?_
  rintro e w17 ⟨v17, rfl, ho17, hb17⟩
  have hB17 := hB16.trans (hb17.mono hB16.size)
  replace FX := Lib.hid (FX.out.below hb17 (Nat.le_refl _))
  replace FY := Lib.hid (FY.out.below hb17 (Nat.le_refl _))
  replace IZ := Lib.hid (IZ.out.below hb17 (Nat.le_refl _))
  replace IK := Lib.hid (IK.out.below hb17 (Nat.le_refl _))
  replace FS := Lib.hid (FS.out.below hb17 (Nat.le_refl _))
  replace R1 := Lib.hid (R1.out.below hb17 (Nat.le_refl _))
  replace R2 := Lib.hid (R2.out.below hb17 (Nat.le_refl _))
  replace R3 := Lib.hid (R3.out.below hb17 (Nat.le_refl _))
  replace R4 := Lib.hid (R4.out.below hb17 (Nat.le_refl _))
  replace T1 := Lib.hid (T1.out.below hb17 (Nat.le_refl _))
  replace T2 := Lib.hid (T2.out.below hb17 (Nat.le_refl _))
  obtain ⟨a17, c17, rfl, hi17, p17, q17, r17, _⟩ := own_ents ho17
  have T3 := Lib.hid (hi17)
  clear ho17 hi17
  go_wp2_with fail
  refine (errOk (add_any6 a16 SX.length c16 SX a17 SY.length c17 SY  w17 T2.out (by omega) T3.out (by omega)  p16 q16 r16 p17 q17 r17) Q9.out).mono ?_
  rintro e w18 ⟨v18, rfl, ho18, hb18⟩
  have hB18 := hB17.trans (hb18.mono hB17.size)
  replace FX := Lib.hid (FX.out.below hb18 (Nat.le_refl _))
  replace FY := Lib.hid (FY.out.below hb18 (Nat.le_refl _))
  replace IZ := Lib.hid (IZ.out.below hb18 (Nat.le_refl _))
  replace IK := Lib.hid (IK.out.below hb18 (Nat.le_refl _))
  replace FS := Lib.hid (FS.out.below hb18 (Nat.le_refl _))
  replace R1 := Lib.hid (R1.out.below hb18 (Nat.le_refl _))
  replace R2 := Lib.hid (R2.out.below hb18 (Nat.le_refl _))
  replace R3 := Lib.hid (R3.out.below hb18 (Nat.le_refl _))
  replace R4 := Lib.hid (R4.out.below hb18 (Nat.le_refl _))
  replace T1 := Lib.hid (T1.out.below hb18 (Nat.le_refl _))
  replace T2 := Lib.hid (T2.out.below hb18 (Nat.le_refl _))
  replace T3 := Lib.hid (T3.out.below hb18 (Nat.le_refl _))
  obtain ⟨a18, c18, rfl, hi18, p18, q18, r18, _⟩ := own_ents ho18
  have T4 := Lib.hid (hi18)
  clear ho18 hi18
  go_wp2_with fail
  refine (errOk (rselect_any6 a10 XY.length c10 XY (some ⟨w8.heap.size, 0, none⟩) 1 1 [z] (some ⟨w9.heap.size, 0, none⟩) 1 1 [v] w18 FS.out (by omega) IZ.out (by omega) IK.out (by omega) ) Q6.out).mono ?_
  rintro e w19 ⟨v19, rfl, ho19, hb19⟩
  have hB19 := hB18.trans (hb19.mono hB18.size)
  replace FX := Lib.hid (FX.out.below hb19 (Nat.le_refl _))
  replace FY := Lib.hid (FY.out.below hb19 (Nat.le_refl _))
  replace IZ := Lib.hid (IZ.out.below hb19 (Nat.le_refl _))
  replace IK := Lib.hid (IK.out.below hb19 (Nat.le_refl _))
  replace FS := Lib.hid (FS.out.below hb19 (Nat.le_refl _))
  replace R1 := Lib.hid (R1.out.below hb19 (Nat.le_refl _))
  replace R2 := Lib.hid (R2.out.below hb19 (Nat.le_refl _))
  replace R3 := Lib.hid (R3.out.below hb19 (Nat.le_refl _))
  replace R4 := Lib.hid (R4.out.below hb19 (Nat.le_refl _))
  replace T1 := Lib.hid (T1.out.below hb19 (Nat.le_refl _))
  replace T2 := Lib.hid (T2.out.below hb19 (Nat.le_refl _))
  replace T3 := Lib.hid (T3.out.below hb19 (Nat.le_refl _))
  replace T4 := Lib.hid (T4.out.below hb19 (Nat.le_refl _))
  obtain ⟨a19, c19, rfl, hi19, p19, q19, r19, _⟩ := own_ents ho19
  have T5 := Lib.hid (hi19)
  clear ho19 hi19
  go_wp2_with fail
  refine (rsame_true R1.out R4.out (by omega)).mono ?_
  rintro e w20 ⟨rfl, hb20⟩
  have hB20 := hB19.trans (hb20.mono hB19.size)
  replace FX := Lib.hid (FX.out.below hb20 (Nat.le_refl _))
  replace FY := Lib.hid (FY.out.below hb20 (Nat.le_refl _))
  replace IZ := Lib.hid (IZ.out.below hb20 (Nat.le_refl _))
  replace IK := Lib.hid (IK.out.below hb20 (Nat.le_refl _))
  replace FS := Lib.hid (FS.out.below hb20 (Nat.le_refl _))
  replace R1 := Lib.hid (R1.out.below hb20 (Nat.le_refl _))
  replace R2 := Lib.hid (R2.out.below hb20 (Nat.le_refl _))
  replace R3 := Lib.hid (R3.out.below hb20 (Nat.le_refl _))
  replace R4 := Lib.hid (R4.out.below hb20 (Nat.le_refl _))
  replace T1 := Lib.hid (T1.out.below hb20 (Nat.le_refl _))
  replace T2 := Lib.hid (T2.out.below hb20 (Nat.le_refl _))
  replace T3 := Lib.hid (T3.out.below hb20 (Nat.le_refl _))
  replace T4 := Lib.hid (T4.out.below hb20 (Nat.le_refl _))
  replace T5 := Lib.hid (T5.out.below hb20 (Nat.le_refl _))
  go_wp2_with fail
  refine (rsame_true T1.out T4.out (by omega)).mono ?_
  rintro e w21 ⟨rfl, hb21⟩
  have hB21 := hB20.trans (hb21.mono hB20.size)
  replace FX := Lib.hid (FX.out.below hb21 (Nat.le_refl _))
  replace FY := Lib.hid (FY.out.below hb21 (Nat.le_refl _))
  replace IZ := Lib.hid (IZ.out.below hb21 (Nat.le_refl _))
  replace IK := Lib.hid (IK.out.below hb21 (Nat.le_refl _))
  replace FS := Lib.hid (FS.out.below hb21 (Nat.le_refl _))
  replace R1 := Lib.hid (R1.out.below hb21 (Nat.le_refl _))
  replace R2 := Lib.hid (R2.out.below hb21 (Nat.le_refl _))
  replace R3 := Lib.hid (R3.out.below hb21 (Nat.le_refl _))
  replace R4 := Lib.hid (R4.out.below hb21 (Nat.le_refl _))
  replace T1 := Lib.hid (T1.out.below hb21 (Nat.le_refl _))
  replace T2 := Lib.hid (T2.out.below hb21 (Nat.le_refl _))
  replace T3 := Lib.hid (T3.out.below hb21 (Nat.le_refl _))
  replace T4 := Lib.hid (T4.out.below hb21 (Nat.le_refl _))
  replace T5 := Lib.hid (T5.out.below hb21 (Nat.le_refl _))
  go_wp2_with fail
  refine (rsame_true T1.out T5.out (by omega)).mono ?_
  rintro e w22 ⟨rfl, hb22⟩
  have hB22 := hB21.trans (hb22.mono hB21.size)
  replace FX := Lib.hid (FX.out.below hb22 (Nat.le_refl _))
  replace FY := Lib.hid (FY.out.below hb22 (Nat.le_refl _))
  replace IZ := Lib.hid (IZ.out.below hb22 (Nat.le_refl _))
  replace IK := Lib.hid (IK.out.below hb22 (Nat.le_refl _))
  replace FS := Lib.hid (FS.out.below hb22 (Nat.le_refl _))
  replace R1 := Lib.hid (R1.out.below hb22 (Nat.le_refl _))
  replace R2 := Lib.hid (R2.out.below hb22 (Nat.le_refl _))
  replace R3 := Lib.hid (R3.out.below hb22 (Nat.le_refl _))
  replace R4 := Lib.hid (R4.out.below hb22 (Nat.le_refl _))
  replace T1 := Lib.hid (T1.out.below hb22 (Nat.le_refl _))
  replace T2 := Lib.hid (T2.out.below hb22 (Nat.le_refl _))
  replace T3 := Lib.hid (T3.out.below hb22 (Nat.le_refl _))
  replace T4 := Lib.hid (T4.out.below hb22 (Nat.le_refl _))
  replace T5 := Lib.hid (T5.out.below hb22 (Nat.le_refl _))
  go_wp2_with fail
  refine (known_any _).mono ?_
  rintro e w23 ⟨rfl, hb23⟩
  have hB23 := hB22.trans (hb23.mono hB22.size)
  replace FX := Lib.hid (FX.out.below hb23 (Nat.le_refl _))
  replace FY := Lib.hid (FY.out.below hb23 (Nat.le_refl _))
  replace IZ := Lib.hid (IZ.out.below hb23 (Nat.le_refl _))
  replace IK := Lib.hid (IK.out.below hb23 (Nat.le_refl _))
  replace FS := Lib.hid (FS.out.below hb23 (Nat.le_refl _))
  replace R1 := Lib.hid (R1.out.below hb23 (Nat.le_refl _))
  replace R2 := Lib.hid (R2.out.below hb23 (Nat.le_refl _))
  replace R3 := Lib.hid (R3.out.below hb23 (Nat.le_refl _))
  replace R4 := Lib.hid (R4.out.below hb23 (Nat.le_refl _))
  replace T1 := Lib.hid (T1.out.below hb23 (Nat.le_refl _))
  replace T2 := Lib.hid (T2.out.below hb23 (Nat.le_refl _))
  replace T3 := Lib.hid (T3.out.below hb23 (Nat.le_refl _))
  replace T4 := Lib.hid (T4.out.below hb23 (Nat.le_refl _))
  replace T5 := Lib.hid (T5.out.below hb23 (Nat.le_refl _))
  go_wp2_with fail
  go_ret
  exact ⟨rfl, hB23⟩

end Go.Proofs.Ytdhhhmehkldliaa
