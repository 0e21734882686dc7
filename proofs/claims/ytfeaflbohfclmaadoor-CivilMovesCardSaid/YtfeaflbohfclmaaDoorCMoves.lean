/-
  The laws CivilMonths and CivilMoves.
-/
import Derived.Test.YtfeaflbohfclmaaDoorCLaws
set_option linter.unusedVariables false
namespace Wh

/-- The day number of the first day of month i, counted from January 1970. -/
def firstZ (i : Int) : Int := dayZ (1970 + i / 12) (i % 12).toNat 1

theorem first_dt {i : Int} (h0 : 0 ≤ i) (h1 : i ≤ 12000) : Dt (1970 + i / 12) (i % 12).toNat 1 := by
  refine ⟨by omega, by omega, by omega, Int.le_trans (by decide) (lenZ_bd _ _).1, ?_⟩
  have a := yzZ_high (show 1970 ≤ 1970 + i / 12 by omega)
  have b := msZ_high (1970 + i / 12) (i % 12).toNat
  unfold dayZ
  omega

theorem first_add {i n : Int} (h0 : 0 ≤ i) (h1 : i ≤ 12000) (h2 : -400000 ≤ n) (h3 : n ≤ 400000) : addB i n 1 = true ∧ addZ i n 1 = firstZ i := by
  obtain ⟨e1, e2⟩ := add_in (i := i) (n := n) (d := 1) h2 h3 h0
  have hd : monD i 1 = 1 := by
    unfold monD
    have := lenZ_bd (monY i) (monM i)
    omega
  have hm : monM i = ((i % 12).toNat : Int) + 1 := by unfold monM; omega
  obtain ⟨f1, f2⟩ := daysB_of (first_dt h0 h1)
  have hy : monY i = 1970 + i / 12 := rfl
  rw [hd, hm, hy] at e1 e2
  exact ⟨e1.trans f1, e2.trans f2⟩

end Wh
namespace Go.Proofs.YtfeaflbohfclmaaDoor
open Go.RowKit Wh

theorem add_first (i n j : Int) (hj : i + n = j) (h0 : 0 ≤ i) (h1 : i ≤ 12000) (h2 : -400000 ≤ n) (h3 : n ≤ 400000) (h4 : 0 ≤ j) (h5 : j ≤ 12000) (w : World) (ht : Tab w) :
    Calls Tryd.prog 17 #[.int .i64 (firstZ i), .int .i64 n] w (IsPair (firstZ j) true w) := by
  have h := addMonths_any _ _ _ (first_dt h0 h1) n w ht
  rw [show (1970 + i / 12 - 1970) * 12 + ((i % 12).toNat : Int) + n = j by omega] at h
  obtain ⟨e1, e2⟩ := first_add h4 h5 h2 h3
  rw [e1, e2] at h
  exact h

theorem add_gen (a n : Int) : ∃ (z : Int) (x : Bool), (∀ W, Tab W → Calls Tryd.prog 17 #[.int .i64 a, .int .i64 n] W (IsPair z x W)) ∧
    (∀ W, Calls Tryd.prog 18 #[.int .i64 a, .int .i64 n] W (IsPair z x W)) := by
  by_cases h : 0 ≤ a ∧ a ≤ 400000
  · obtain ⟨y, k, d, hd, rfl⟩ := date_of h.1 h.2
    exact ⟨_, _, fun W hW => addMonths_any y k d hd n W hW, fun W => raddMonths_any y k d hd n W⟩
  · exact ⟨0, false, fun W hW => addMonths_bad a n (by omega) W, fun W => raddMonths_bad a n (by omega) W⟩

set_option maxRecDepth 100000 in
theorem months_walk (a : Int) (_ : -9223372036854775808 ≤ a) (_ : a ≤ 9223372036854775807) (b : Int) (_ : -9223372036854775808 ≤ b) (_ : b ≤ 9223372036854775807) (c : Int) (_ : -9223372036854775808 ≤ c) (_ : c ≤ 9223372036854775807) (d : Int) (_ : -9223372036854775808 ≤ d) (_ : d ≤ 9223372036854775807) (w : World) (ht : Tab w) :
    Calls Tryd.prog 6 #[.int .i64 a, .int .i64 b, .int .i64 c, .int .i64 d] w fun e w' => e = .returned (.bool true) ∧ Below w.heap.size w w' := by
  have b24 := and_24
  have b10 := and_1023
  obtain ⟨z1, x1, c1, c2⟩ := add_gen a b
  obtain ⟨z2, x2, c3, c4⟩ := add_gen (c % 16777216 % 400001) (d % 1024 - 512)
  have C1 := Lib.hid c1
  have C2 := Lib.hid c2
  have C3 := Lib.hid c3
  have C4 := Lib.hid c4
  have HT := Lib.hid ht
  clear c1 c2 c3 c4 ht
  go_enter Tryd.func6, Tryd.ntmps6
  go_wp2_with fail
  refine (C1.out _ HT.out).mono ?_
  rintro e w' ⟨rfl, rfl⟩
  go_wp2_with fail
  refine (C2.out _).mono ?_
  rintro e w' ⟨rfl, rfl⟩
  go_wp2_with fail
  refine (C3.out _ HT.out).mono ?_
  rintro e w' ⟨rfl, rfl⟩
  go_wp2_with fail
  refine (C4.out _).mono ?_
  rintro e w' ⟨rfl, rfl⟩
  go_wp2_with fail
  refine (known_any _ HT.out).mono ?_
  rintro e w' ⟨rfl, hb⟩
  go_wp2_with fail
  go_ret
  exact ⟨rfl, hb⟩

set_option maxRecDepth 100000 in
set_option maxHeartbeats 1000000 in
theorem moves_walk (a : Int) (_ : -9223372036854775808 ≤ a) (_ : a ≤ 9223372036854775807) (b : Int) (_ : -9223372036854775808 ≤ b) (_ : b ≤ 9223372036854775807) (c : Int) (_ : -9223372036854775808 ≤ c) (_ : c ≤ 9223372036854775807) (w : World) (ht : Tab w) :
    Calls Tryd.prog 7 #[.int .i64 a, .int .i64 b, .int .i64 c] w fun e w' => e = .returned (.bool true) ∧ Below w.heap.size w w' := by
  have b8 := and_255
  have b3 := and_7
  have hp0 : 0 ≤ a % 256 := by omega
  have hp1 : a % 256 < 256 := by omega
  have hq0 : 0 ≤ a / 256 % 8 := by omega
  have hq1 : a / 256 % 8 < 8 := by omega
  have hs0 : 0 ≤ b % 256 := by omega
  have hs1 : b % 256 < 256 := by omega
  have ht0 : 0 ≤ c % 256 := by omega
  have ht1 : c % 256 < 256 := by omega
  have c1 : ∀ W, Tab W → Calls Tryd.prog 10 #[.int .i64 (2000 + a % 256), .int .i64 (1 + a / 256 % 8), .int .i64 1] W (IsPair (firstZ (360 + a % 256 * 12 + a / 256 % 8)) true W) := fun W hW => by
    have h := days_any (2000 + a % 256) (1 + a / 256 % 8) 1 W hW
    have hd := daysB_of (first_dt (i := 360 + a % 256 * 12 + a / 256 % 8) (by omega) (by omega))
    rw [show 1970 + (360 + a % 256 * 12 + a / 256 % 8) / 12 = 2000 + a % 256 by omega, show ((((360 + a % 256 * 12 + a / 256 % 8) % 12).toNat : Nat) : Int) + 1 = 1 + a / 256 % 8 by omega] at hd
    rw [hd.1, hd.2] at h
    unfold firstZ
    rw [show 1970 + (360 + a % 256 * 12 + a / 256 % 8) / 12 = 2000 + a % 256 by omega]
    exact h
  obtain ⟨p, hp⟩ : ∃ p, a % 256 = p := ⟨_, rfl⟩
  obtain ⟨q, hq⟩ : ∃ q, a / 256 % 8 = q := ⟨_, rfl⟩
  obtain ⟨s, hs⟩ : ∃ s, b % 256 = s := ⟨_, rfl⟩
  obtain ⟨t, htt⟩ : ∃ t, c % 256 = t := ⟨_, rfl⟩
  rw [hp, hq] at c1
  rw [hp] at hp0 hp1
  rw [hq] at hq0 hq1
  rw [hs] at hs0 hs1
  rw [htt] at ht0 ht1
  have c2 := fun W hW => add_first (360 + p * 12 + q) (s - 128) (360 + p * 12 + q + (s - 128)) rfl (by omega) (by omega) (by omega) (by omega) (by omega) (by omega) W hW
  have c3 := fun W hW => add_first (360 + p * 12 + q + (s - 128)) (t - 128) (360 + p * 12 + q + (s - 128) + (t - 128)) rfl (by omega) (by omega) (by omega) (by omega) (by omega) (by omega) W hW
  have c4 := fun W hW => add_first (360 + p * 12 + q) (s - 128 + (t - 128)) (360 + p * 12 + q + (s - 128) + (t - 128)) (by omega) (by omega) (by omega) (by omega) (by omega) (by omega) (by omega) W hW
  have c5 := fun W hW => add_first (360 + p * 12 + q + (s - 128)) (-(s - 128)) (360 + p * 12 + q) (by omega) (by omega) (by omega) (by omega) (by omega) (by omega) (by omega) W hW
  generalize firstZ (360 + p * 12 + q + (s - 128) + (t - 128)) = f3 at *
  generalize firstZ (360 + p * 12 + q + (s - 128)) = f2 at *
  generalize firstZ (360 + p * 12 + q) = f1 at *
  have C1 := Lib.hid c1
  have C2 := Lib.hid c2
  have C3 := Lib.hid c3
  have C4 := Lib.hid c4
  have C5 := Lib.hid c5
  have HT := Lib.hid ht
  clear c1 c2 c3 c4 c5 ht
  go_enter Tryd.func7, Tryd.ntmps7
  go_wp2_with fail
  refine (C1.out _ HT.out).mono ?_
  rintro e w' ⟨rfl, rfl⟩
  go_wp2_with fail
  refine (C2.out _ HT.out).mono ?_
  rintro e w' ⟨rfl, rfl⟩
  go_wp2_with fail
  refine (C3.out _ HT.out).mono ?_
  rintro e w' ⟨rfl, rfl⟩
  go_wp2_with fail
  refine (C4.out _ HT.out).mono ?_
  rintro e w' ⟨rfl, rfl⟩
  go_wp2_with fail
  refine (C5.out _ HT.out).mono ?_
  rintro e w' ⟨rfl, rfl⟩
  go_wp2_with fail
  refine (known_any _ HT.out).mono ?_
  rintro e w' ⟨rfl, hb⟩
  go_wp2_with fail
  go_ret
  exact ⟨rfl, hb⟩

end Go.Proofs.YtfeaflbohfclmaaDoor
