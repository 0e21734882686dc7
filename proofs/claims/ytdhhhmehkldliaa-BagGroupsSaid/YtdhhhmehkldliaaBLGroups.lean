/-
  BagGroups: its walk.
-/
import Derived.Test.YtdhhhmehkldliaaBLKit
set_option linter.unusedVariables false
set_option maxRecDepth 100000
namespace Go.Proofs.Ytdhhhmehkldliaa
open Go.RowKit Wh

set_option maxHeartbeats 8000000 in
theorem groups_walk (w : World) (y1 : Option Addr) (m1 j1 : Nat) (zs1 : List Int) (hz1 : IsInts w y1 m1 zs1) (hz1c : m1 ≤ j1) (hz1m : j1 ≤ maxLen) (hz1b : ∀ z ∈ zs1, -9223372036854775808 ≤ z ∧ z ≤ 9223372036854775807)
    (y2 : Option Addr) (m2 j2 : Nat) (zs2 : List Int) (hz2 : IsInts w y2 m2 zs2) (hz2c : m2 ≤ j2) (hz2m : j2 ≤ maxLen) (hz2b : ∀ z ∈ zs2, -9223372036854775808 ≤ z ∧ z ≤ 9223372036854775807)
    (y3 : Option Addr) (m3 j3 : Nat) (zs3 : List Int) (hz3 : IsInts w y3 m3 zs3) (hz3c : m3 ≤ j3) (hz3m : j3 ≤ maxLen) (hz3b : ∀ z ∈ zs3, -9223372036854775808 ≤ z ∧ z ≤ 9223372036854775807) (n : Int) (n0 : -9223372036854775808 ≤ n) (n1 : n ≤ 9223372036854775807) :
    Calls Try.prog 7 #[.slice y1 m1 j1, .slice y2 m2 j2, .slice y3 m3 j3, .int .i64 n] w fun e w' => e = .returned (.bool true) ∧ Below w.heap.size w w' := by
  have mm : maxLen = 9223372036854775807 := rfl
  have hB0 : Below w.heap.size w w := Below.refl _ _
  have b7 := and_7
  obtain ⟨N, hN, hN7⟩ : ∃ N : Nat, n % 8 = N ∧ N ≤ 7 := ⟨(n % 8).toNat, by omega, by omega⟩
  obtain ⟨M, hM, hM7⟩ : ∃ M : Nat, n / 8 % 8 = M ∧ M ≤ 7 := ⟨(n / 8 % 8).toNat, by omega, by omega⟩
  obtain ⟨K, hK, hK7⟩ : ∃ K : Nat, n / 64 % 8 = K ∧ K ≤ 7 := ⟨(n / 64 % 8).toNat, by omega, by omega⟩
  have C1 := Lib.hid (fun W (h : Below w.heap.size w W) => bag_any y1 m1 j1 zs1 N W (hz1.below h (Nat.le_refl _)) (by omega) (by omega))
  have C2 := Lib.hid (fun W (h : Below w.heap.size w W) => bag_any y2 m2 j2 zs2 M W (hz2.below h (Nat.le_refl _)) (by omega) (by omega))
  have C3 := Lib.hid (fun W (h : Below w.heap.size w W) => bag_any y3 m3 j3 zs3 K W (hz3.below h (Nat.le_refl _)) (by omega) (by omega))
  have s1 := draw_sm zs1 (n := N) (by omega)
  have s2 := draw_sm zs2 (n := M) (by omega)
  have s3 := draw_sm zs3 (n := K) (by omega)
  generalize bagZ zs1 N = A at *
  generalize bagZ zs2 M = B at *
  generalize bagZ zs3 K = C at *
  have s12 := s1.join s2
  have s23 := s2.join s3
  have Q1 := Lib.hid (add_sm s1 s2 (by omega) (by omega))
  have Q2 := Lib.hid ((add_sm s2 s1 (by omega) (by omega)).trans (by rw [join_comm]))
  have Q3 := Lib.hid (add_sm s12 s3 (by omega) (by omega))
  have Q4 := Lib.hid (add_sm s2 s3 (by omega) (by omega))
  have Q5 := Lib.hid ((add_sm s1 s23 (by omega) (by omega)).trans (by rw [join_assoc]))
  have Q6 := Lib.hid ((sub_sm s12 s2 (by omega) (by omega)).trans (by rw [join_back s1.bag]))
  have Q7 := Lib.hid (neg_sm s1 (by omega) (by omega))
  have Q8 := Lib.hid ((add_sm s1 s1.neg (by omega) (by omega)).trans (by rw [join_none]))
  have l12 := s12.len
  have l23 := s23.len
  have l123 := (s12.join s3).len
  have l1 := s1.len
  have l2 := s2.len
  have l3 := s3.len
  have l4 := s1.neg.len
  generalize bagL (bagL (A ++ B) ++ C) = LF at *
  generalize bagL (A ++ B) = AB at *
  generalize bagL (B ++ C) = BC at *
  generalize negL A = NA at *
  clear hz1 hz2 hz3 s1 s2 s3 s12 s23
  go_enter Try.func7, Try.ntmps7
  go_wp2_with fail
  refine (C1.out _ hB0).mono ?_
  rintro e w1 ⟨v1, rfl, ho1, hb1⟩
  have hB1 := hB0.trans (hb1.mono hB0.size)
  obtain ⟨a1, c1, rfl, hi1, p1, q1, r1, _⟩ := own_ents ho1
  have FA := Lib.hid (hi1)
  clear ho1 hi1
  go_wp2_with fail
  refine (C2.out _ hB1).mono ?_
  rintro e w2 ⟨v2, rfl, ho2, hb2⟩
  have hB2 := hB1.trans (hb2.mono hB1.size)
  replace FA := Lib.hid (FA.out.below hb2 (Nat.le_refl _))
  obtain ⟨a2, c2, rfl, hi2, p2, q2, r2, _⟩ := own_ents ho2
  have FB := Lib.hid (hi2)
  clear ho2 hi2
  go_wp2_with fail
  refine (C3.out _ hB2).mono ?_
  rintro e w3 ⟨v3, rfl, ho3, hb3⟩
  have hB3 := hB2.trans (hb3.mono hB2.size)
  replace FA := Lib.hid (FA.out.below hb3 (Nat.le_refl _))
  replace FB := Lib.hid (FB.out.below hb3 (Nat.le_refl _))
  obtain ⟨a3, c3, rfl, hi3, p3, q3, r3, _⟩ := own_ents ho3
  have FC := Lib.hid (hi3)
  clear ho3 hi3
  clear C1 C2 C3
  go_wp2_with fail
  refine (errOk (add_any6 a1 A.length c1 A a2 B.length c2 B w3 FA.out (by omega) FB.out (by omega) p1 q1 r1 p2 q2 r2) Q1.out).mono ?_
  rintro e w4 ⟨v4, rfl, ho4, hb4⟩
  have hB4 := hB3.trans (hb4.mono hB3.size)
  replace FA := Lib.hid (FA.out.below hb4 (Nat.le_refl _))
  replace FB := Lib.hid (FB.out.below hb4 (Nat.le_refl _))
  replace FC := Lib.hid (FC.out.below hb4 (Nat.le_refl _))
  obtain ⟨a4, c4, rfl, hi4, p4, q4, r4, _⟩ := own_ents ho4
  have F1 := Lib.hid (hi4)
  clear ho4 hi4
  go_wp2_with fail
  refine (errOk (add_any6 a2 B.length c2 B a1 A.length c1 A w4 FB.out (by omega) FA.out (by omega) p2 q2 r2 p1 q1 r1) Q2.out).mono ?_
  rintro e w5 ⟨v5, rfl, ho5, hb5⟩
  have hB5 := hB4.trans (hb5.mono hB4.size)
  replace FA := Lib.hid (FA.out.below hb5 (Nat.le_refl _))
  replace FB := Lib.hid (FB.out.below hb5 (Nat.le_refl _))
  replace FC := Lib.hid (FC.out.below hb5 (Nat.le_refl _))
  replace F1 := Lib.hid (F1.out.below hb5 (Nat.le_refl _))
  obtain ⟨a5, c5, rfl, hi5, p5, q5, r5, _⟩ := own_ents ho5
  have F2 := Lib.hid (hi5)
  clear ho5 hi5
  go_wp2_with fail
  refine (errOk (add_any6 a4 AB.length c4 AB a3 C.length c3 C w5 F1.out (by omega) FC.out (by omega) p4 q4 r4 p3 q3 r3) Q3.out).mono ?_
  rintro e w6 ⟨v6, rfl, ho6, hb6⟩
  have hB6 := hB5.trans (hb6.mono hB5.size)
  replace FA := Lib.hid (FA.out.below hb6 (Nat.le_refl _))
  replace FB := Lib.hid (FB.out.below hb6 (Nat.le_refl _))
  replace FC := Lib.hid (FC.out.below hb6 (Nat.le_refl _))
  replace F1 := Lib.hid (F1.out.below hb6 (Nat.le_refl _))
  replace F2 := Lib.hid (F2.out.below hb6 (Nat.le_refl _))
  obtain ⟨a6, c6, rfl, hi6, p6, q6, r6, _⟩ := own_ents ho6
  have F3 := Lib.hid (hi6)
  clear ho6 hi6
  go_wp2_with fail
  refine (errOk (add_any6 a2 B.length c2 B a3 C.length c3 C w6 FB.out (by omega) FC.out (by omega) p2 q2 r2 p3 q3 r3) Q4.out).mono ?_
  rintro e w7 ⟨v7, rfl, ho7, hb7⟩
  have hB7 := hB6.trans (hb7.mono hB6.size)
  replace FA := Lib.hid (FA.out.below hb7 (Nat.le_refl _))
  replace FB := Lib.hid (FB.out.below hb7 (Nat.le_refl _))
  replace FC := Lib.hid (FC.out.below hb7 (Nat.le_refl _))
  replace F1 := Lib.hid (F1.out.below hb7 (Nat.le_refl _))
  replace F2 := Lib.hid (F2.out.below hb7 (Nat.le_refl _))
  replace F3 := Lib.hid (F3.out.below hb7 (Nat.le_refl _))
  obtain ⟨a7, c7, rfl, hi7, p7, q7, r7, _⟩ := own_ents ho7
  have F4 := Lib.hid (hi7)
  clear ho7 hi7
  go_wp2_with fail
  refine (errOk (add_any6 a1 A.length c1 A a7 BC.length c7 BC w7 FA.out (by omega) F4.out (by omega) p1 q1 r1 p7 q7 r7) Q5.out).mono ?_
  rintro e w8 ⟨v8, rfl, ho8, hb8⟩
  have hB8 := hB7.trans (hb8.mono hB7.size)
  replace FA := Lib.hid (FA.out.below hb8 (Nat.le_refl _))
  replace FB := Lib.hid (FB.out.below hb8 (Nat.le_refl _))
  replace FC := Lib.hid (FC.out.below hb8 (Nat.le_refl _))
  replace F1 := Lib.hid (F1.out.below hb8 (Nat.le_refl _))
  replace F2 := Lib.hid (F2.out.below hb8 (Nat.le_refl _))
  replace F3 := Lib.hid (F3.out.below hb8 (Nat.le_refl _))
  replace F4 := Lib.hid (F4.out.below hb8 (Nat.le_refl _))
  obtain ⟨a8, c8, rfl, hi8, p8, q8, r8, _⟩ := own_ents ho8
  have F5 := Lib.hid (hi8)
  clear ho8 hi8
  go_wp2_with fail
  refine (errOk (subtract_any6 a4 AB.length c4 AB a2 B.length c2 B w8 F1.out (by omega) FB.out (by omega) p4 q4 r4 p2 q2 r2) Q6.out).mono ?_
  rintro e w9 ⟨v9, rfl, ho9, hb9⟩
  have hB9 := hB8.trans (hb9.mono hB8.size)
  replace FA := Lib.hid (FA.out.below hb9 (Nat.le_refl _))
  replace FB := Lib.hid (FB.out.below hb9 (Nat.le_refl _))
  replace FC := Lib.hid (FC.out.below hb9 (Nat.le_refl _))
  replace F1 := Lib.hid (F1.out.below hb9 (Nat.le_refl _))
  replace F2 := Lib.hid (F2.out.below hb9 (Nat.le_refl _))
  replace F3 := Lib.hid (F3.out.below hb9 (Nat.le_refl _))
  replace F4 := Lib.hid (F4.out.below hb9 (Nat.le_refl _))
  replace F5 := Lib.hid (F5.out.below hb9 (Nat.le_refl _))
  obtain ⟨a9, c9, rfl, hi9, p9, q9, r9, _⟩ := own_ents ho9
  have F6 := Lib.hid (hi9)
  clear ho9 hi9
  go_wp2_with fail
  refine (errOk (negate_any6 a1 A.length c1 A w9 FA.out (by omega) p1 q1 r1) Q7.out).mono ?_
  rintro e w10 ⟨v10, rfl, ho10, hb10⟩
  have hB10 := hB9.trans (hb10.mono hB9.size)
  replace FA := Lib.hid (FA.out.below hb10 (Nat.le_refl _))
  replace FB := Lib.hid (FB.out.below hb10 (Nat.le_refl _))
  replace FC := Lib.hid (FC.out.below hb10 (Nat.le_refl _))
  replace F1 := Lib.hid (F1.out.below hb10 (Nat.le_refl _))
  replace F2 := Lib.hid (F2.out.below hb10 (Nat.le_refl _))
  replace F3 := Lib.hid (F3.out.below hb10 (Nat.le_refl _))
  replace F4 := Lib.hid (F4.out.below hb10 (Nat.le_refl _))
  replace F5 := Lib.hid (F5.out.below hb10 (Nat.le_refl _))
  replace F6 := Lib.hid (F6.out.below hb10 (Nat.le_refl _))
  obtain ⟨a10, c10, rfl, hi10, p10, q10, r10, _⟩ := own_ents ho10
  have F7 := Lib.hid (hi10)
  clear ho10 hi10
  go_wp2_with fail
  refine (errOk (add_any6 a1 A.length c1 A a10 NA.length c10 NA w10 FA.out (by omega) F7.out (by omega) p1 q1 r1 p10 q10 r10) Q8.out).mono ?_
  rintro e w11 ⟨v11, rfl, ho11, hb11⟩
  have hB11 := hB10.trans (hb11.mono hB10.size)
  replace FA := Lib.hid (FA.out.below hb11 (Nat.le_refl _))
  replace FB := Lib.hid (FB.out.below hb11 (Nat.le_refl _))
  replace FC := Lib.hid (FC.out.below hb11 (Nat.le_refl _))
  replace F1 := Lib.hid (F1.out.below hb11 (Nat.le_refl _))
  replace F2 := Lib.hid (F2.out.below hb11 (Nat.le_refl _))
  replace F3 := Lib.hid (F3.out.below hb11 (Nat.le_refl _))
  replace F4 := Lib.hid (F4.out.below hb11 (Nat.le_refl _))
  replace F5 := Lib.hid (F5.out.below hb11 (Nat.le_refl _))
  replace F6 := Lib.hid (F6.out.below hb11 (Nat.le_refl _))
  replace F7 := Lib.hid (F7.out.below hb11 (Nat.le_refl _))
  obtain ⟨a11, c11, rfl, hi11, p11, q11, r11, _⟩ := own_ents ho11
  have F8 := Lib.hid (hi11)
  clear ho11 hi11
  have HC : ∀ k : Nat, k < 8 → (w11.alloc (.cells #[.int .i64 0, .int .i64 0, .int .i64 0, .int .i64 0, .int .i64 0, .int .i64 0, .int .i64 0, .int .i64 0] 31)).cell? ⟨w11.heap.size, k, none⟩ = some (.int .i64 0) := fun k hk => by
    rw [cell_of_row _ _ k _ _ _ (heap_alloc_new w11 _)]
    have h : k = 0 ∨ k = 1 ∨ k = 2 ∨ k = 3 ∨ k = 4 ∨ k = 5 ∨ k = 6 ∨ k = 7 := by omega
    rcases h with rfl | rfl | rfl | rfl | rfl | rfl | rfl | rfl <;> rfl
  have hA : Below w11.heap.size w11 (w11.alloc (.cells #[.int .i64 0, .int .i64 0, .int .i64 0, .int .i64 0, .int .i64 0, .int .i64 0, .int .i64 0, .int .i64 0] 31)) := (Below.refl _ _).alloc (Nat.le_refl _) _
  have HCC := Lib.hid HC
  clear HC
  go_wp2_with fail
  go_loopw [101] (fun iv wr => ∃ k : Nat, k ≤ 8 ∧ iv = .int .i64 k ∧ wr = (w11.alloc (.cells #[.int .i64 0, .int .i64 0, .int .i64 0, .int .i64 0, .int .i64 0, .int .i64 0, .int .i64 0, .int .i64 0] 31))) (fun i _ => 8 - (intOf i).toNat)
  case atStart => exact ⟨0, by omega, rfl, rfl⟩
  case round =>
    obtain ⟨k, hk, rfl, rfl⟩ := hrel
    by_cases hlt : k < 8
    · have hc := HCC.out k hlt
      have hlti : (k : Int) < 8 := by omega
      go_wp2_with fail
      go_roundw
      case rel => exact ⟨k + 1, by omega, by go_num, trivial⟩
      case measure => simp [intOf]; omega
    · obtain rfl : k = 8 := by omega
      replace FA := Lib.hid (FA.out.below hA (Nat.le_refl _))
      replace FB := Lib.hid (FB.out.below hA (Nat.le_refl _))
      replace FC := Lib.hid (FC.out.below hA (Nat.le_refl _))
      replace F1 := Lib.hid (F1.out.below hA (Nat.le_refl _))
      replace F2 := Lib.hid (F2.out.below hA (Nat.le_refl _))
      replace F3 := Lib.hid (F3.out.below hA (Nat.le_refl _))
      replace F4 := Lib.hid (F4.out.below hA (Nat.le_refl _))
      replace F5 := Lib.hid (F5.out.below hA (Nat.le_refl _))
      replace F6 := Lib.hid (F6.out.below hA (Nat.le_refl _))
      replace F7 := Lib.hid (F7.out.below hA (Nat.le_refl _))
      replace F8 := Lib.hid (F8.out.below hA (Nat.le_refl _))
      have hB99 := hB11.trans (hA.mono hB11.size)
      go_wp2_with fail
      refine (rsame_true F1.out F2.out (by omega)).mono ?_
      rintro e w12 ⟨rfl, hb12⟩
      have hB12 := hB99.trans (hb12.mono hB99.size)
      replace FA := Lib.hid (FA.out.below hb12 (Nat.le_refl _))
      replace FB := Lib.hid (FB.out.below hb12 (Nat.le_refl _))
      replace FC := Lib.hid (FC.out.below hb12 (Nat.le_refl _))
      replace F1 := Lib.hid (F1.out.below hb12 (Nat.le_refl _))
      replace F2 := Lib.hid (F2.out.below hb12 (Nat.le_refl _))
      replace F3 := Lib.hid (F3.out.below hb12 (Nat.le_refl _))
      replace F4 := Lib.hid (F4.out.below hb12 (Nat.le_refl _))
      replace F5 := Lib.hid (F5.out.below hb12 (Nat.le_refl _))
      replace F6 := Lib.hid (F6.out.below hb12 (Nat.le_refl _))
      replace F7 := Lib.hid (F7.out.below hb12 (Nat.le_refl _))
      replace F8 := Lib.hid (F8.out.below hb12 (Nat.le_refl _))
      go_wp2_with fail
      refine (rsame_true F3.out F5.out (by omega)).mono ?_
      rintro e w13 ⟨rfl, hb13⟩
      have hB13 := hB12.trans (hb13.mono hB12.size)
      replace FA := Lib.hid (FA.out.below hb13 (Nat.le_refl _))
      replace FB := Lib.hid (FB.out.below hb13 (Nat.le_refl _))
      replace FC := Lib.hid (FC.out.below hb13 (Nat.le_refl _))
      replace F1 := Lib.hid (F1.out.below hb13 (Nat.le_refl _))
      replace F2 := Lib.hid (F2.out.below hb13 (Nat.le_refl _))
      replace F3 := Lib.hid (F3.out.below hb13 (Nat.le_refl _))
      replace F4 := Lib.hid (F4.out.below hb13 (Nat.le_refl _))
      replace F5 := Lib.hid (F5.out.below hb13 (Nat.le_refl _))
      replace F6 := Lib.hid (F6.out.below hb13 (Nat.le_refl _))
      replace F7 := Lib.hid (F7.out.below hb13 (Nat.le_refl _))
      replace F8 := Lib.hid (F8.out.below hb13 (Nat.le_refl _))
      go_wp2_with fail
      refine (rsame_true F6.out FA.out (by omega)).mono ?_
      rintro e w14 ⟨rfl, hb14⟩
      have hB14 := hB13.trans (hb14.mono hB13.size)
      replace FA := Lib.hid (FA.out.below hb14 (Nat.le_refl _))
      replace FB := Lib.hid (FB.out.below hb14 (Nat.le_refl _))
      replace FC := Lib.hid (FC.out.below hb14 (Nat.le_refl _))
      replace F1 := Lib.hid (F1.out.below hb14 (Nat.le_refl _))
      replace F2 := Lib.hid (F2.out.below hb14 (Nat.le_refl _))
      replace F3 := Lib.hid (F3.out.below hb14 (Nat.le_refl _))
      replace F4 := Lib.hid (F4.out.below hb14 (Nat.le_refl _))
      replace F5 := Lib.hid (F5.out.below hb14 (Nat.le_refl _))
      replace F6 := Lib.hid (F6.out.below hb14 (Nat.le_refl _))
      replace F7 := Lib.hid (F7.out.below hb14 (Nat.le_refl _))
      replace F8 := Lib.hid (F8.out.below hb14 (Nat.le_refl _))
      go_wp2_with fail
      refine (known_any _).mono ?_
      rintro e w15 ⟨rfl, hb15⟩
      have hB15 := hB14.trans (hb15.mono hB14.size)
      replace FA := Lib.hid (FA.out.below hb15 (Nat.le_refl _))
      replace FB := Lib.hid (FB.out.below hb15 (Nat.le_refl _))
      replace FC := Lib.hid (FC.out.below hb15 (Nat.le_refl _))
      replace F1 := Lib.hid (F1.out.below hb15 (Nat.le_refl _))
      replace F2 := Lib.hid (F2.out.below hb15 (Nat.le_refl _))
      replace F3 := Lib.hid (F3.out.below hb15 (Nat.le_refl _))
      replace F4 := Lib.hid (F4.out.below hb15 (Nat.le_refl _))
      replace F5 := Lib.hid (F5.out.below hb15 (Nat.le_refl _))
      replace F6 := Lib.hid (F6.out.below hb15 (Nat.le_refl _))
      replace F7 := Lib.hid (F7.out.below hb15 (Nat.le_refl _))
      replace F8 := Lib.hid (F8.out.below hb15 (Nat.le_refl _))
      go_wp2_with fail
      go_ret
      exact ⟨rfl, hB15⟩

end Go.Proofs.Ytdhhhmehkldliaa
