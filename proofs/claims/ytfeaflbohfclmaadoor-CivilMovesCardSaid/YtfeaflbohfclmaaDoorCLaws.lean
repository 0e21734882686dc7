/-
  The laws CivilDays, CivilDates, CivilMonths and CivilMoves.
-/
import Derived.Test.YtfeaflbohfclmaaDoorCKnown
import Derived.Test.YtfeaflbohfclmaaDoorCMonths
set_option linter.unusedVariables false
namespace Go.Proofs.YtfeaflbohfclmaaDoor
open Go.RowKit Wh

theorem and_11 (x : Int) : bits .and .i64 x 2047 = x % 2048 := by
  have h := and_mask x 11 2047 rfl (by omega)
  simp only [Nat.reducePow] at h
  rw [show ((2047 : Nat) : Int) = 2047 from rfl] at h
  omega

set_option maxRecDepth 100000 in
theorem days_walk (a : Int) (_ : -9223372036854775808 ≤ a) (_ : a ≤ 9223372036854775807) (b : Int) (_ : -9223372036854775808 ≤ b) (_ : b ≤ 9223372036854775807) (c : Int) (_ : -9223372036854775808 ≤ c) (_ : c ≤ 9223372036854775807) (w : World) (ht : Tab w) :
    Calls Tryd.prog 3 #[.int .i64 a, .int .i64 b, .int .i64 c] w fun e w' => e = .returned (.bool true) ∧ Below w.heap.size w w' := by
  have b11 := and_11
  have b4 := and_15
  have b6 := and_63
  have c1 := fun W hW => days_any a b c W hW
  have c2 := fun W => rdays_any a b c W
  have c3 := fun W hW => days_any (1960 + a % 2048 % 1200) (b % 16) (c % 64) W hW
  have c4 := fun W => rdays_any (1960 + a % 2048 % 1200) (b % 16) (c % 64) W
  generalize daysZ a b c = z1 at *
  generalize daysB a b c = x1 at *
  generalize daysZ (1960 + a % 2048 % 1200) (b % 16) (c % 64) = z2 at *
  generalize daysB (1960 + a % 2048 % 1200) (b % 16) (c % 64) = x2 at *
  have C1 := Lib.hid c1
  have C2 := Lib.hid c2
  have C3 := Lib.hid c3
  have C4 := Lib.hid c4
  have HT := Lib.hid ht
  clear c1 c2 c3 c4 ht
  go_enter Tryd.func3, Tryd.ntmps3
  go_wp2_with fail
  refine (C1.out _ HT.out).mono ?_
  rintro e w' ⟨rfl, rfl⟩
  go_wp2_with fail
  refine (C2.out _).mono ?_
  rintro e w' ⟨rfl, rfl⟩
  go_wp2_with fail
  refine (C3.out _ HT.out).mono ?_
  rintro e w' ⟨rfl, rfl⟩
  go_wp2_with fail
  refine (C4.out _).mono ?_
  rintro e w' ⟨rfl, rfl⟩
  go_wp2_with fail
  refine (known_any _ HT.out).mono ?_
  rintro e w' ⟨rfl, hb⟩
  go_wp2_with fail
  go_ret
  exact ⟨rfl, hb⟩

theorem date_gen (a : Int) : ∃ y m d : Int, ∀ W, Tab W → Calls Tryd.prog 13 #[.int .i64 a] W (IsDate y m d (decide (0 ≤ a) && decide (a ≤ 400000)) W) := by
  by_cases h : 0 ≤ a ∧ a ≤ 400000
  · obtain ⟨y, k, d, hd, rfl⟩ := date_of h.1 h.2
    refine ⟨y, (k : Int) + 1, d, fun W hW => ?_⟩
    rw [decide_eq_true h.1, decide_eq_true h.2]
    exact date_any y k d hd W hW
  · refine ⟨0, 0, 0, fun W hW => ?_⟩
    rw [show (decide (0 ≤ a) && decide (a ≤ 400000)) = false by simp; omega]
    exact date_bad a (by omega) W

set_option maxRecDepth 100000 in
set_option maxHeartbeats 2000000 in
theorem dates_tail (a : Int) (b : Int) (m : Nat) (hm : b % 16777216 % 400001 = (m : Int)) (y : Int) (k : Nat) (d : Int) (hd : Dt y k d) (e : dayZ y k d = m) (u v x : Int) (nx : Bool)
    (hn : ∀ W, Tab W → Calls Tryd.prog 13 #[.int .i64 ((m : Int) + 1)] W (IsDate u v x nx W))
    (hc : nx = false ∨ (nx = true ∧ v = (k : Int) + 1 ∧ u = y ∧ x = d + 1) ∨ (nx = true ∧ x = 1 ∧ v = (k : Int) + 1 + 1 ∧ u = y) ∨ (nx = true ∧ x = 1 ∧ v = 1 ∧ k = 11 ∧ u = y + 1)) (w : World) (ht : Tab w) :
    Calls Tryd.prog 4 #[.int .i64 a, .int .i64 b] w fun e w' => e = .returned (.bool true) ∧ Below w.heap.size w w' := by
  have b24 := and_24
  have hm9 : m ≤ 400000 := by omega
  obtain ⟨y1, m1, d1, c1⟩ := date_gen a
  have c2 := fun W hW => date_any y k d hd W hW
  have c3 := fun W => rdate_any y k d hd W
  have c4 := fun W hW => days_any y ((k : Int) + 1) d W hW
  obtain ⟨e1, e2⟩ := daysB_of hd
  rw [e1, e2] at c4
  rw [e] at c2 c3 c4
  have y0 := hd.y0
  have y9 := hd.year
  have d0 := hd.d0
  have hl := hd.d1
  have k1 := hd.k1
  have d9 : d ≤ 31 := by have := lenZ_bd y ((k : Int) + 1); omega
  have C1 := Lib.hid c1
  have C2 := Lib.hid c2
  have C3 := Lib.hid c3
  have C4 := Lib.hid c4
  have C5 := Lib.hid hn
  have HT := Lib.hid ht
  clear c1 c2 c3 c4 ht hd hn e e1 e2 hl
  obtain ⟨ok, hok⟩ : ∃ ok, (decide (0 ≤ a) && decide (a ≤ 400000)) = ok := ⟨_, rfl⟩
  rw [hok] at C1
  rcases (show a < 0 ∨ (0 ≤ a ∧ 400000 < a) ∨ (0 ≤ a ∧ a ≤ 400000) by omega) with h1 | ⟨h1, h2⟩ | ⟨h1, h2⟩
  case inl => obtain rfl : ok = false := by rw [← hok]; simp; omega
              clear hok
              rcases hc with rfl | ⟨rfl, rfl, rfl, rfl⟩ | ⟨rfl, rfl, rfl, rfl⟩ | ⟨rfl, rfl, rfl, rfl, rfl⟩
              all_goals
                go_enter Tryd.func4, Tryd.ntmps4
                go_wp2_with fail
                refine (C1.out _ HT.out).mono ?_
                rintro e w' ⟨rfl, rfl⟩
                go_wp2_with fail
                refine (C2.out _ HT.out).mono ?_
                rintro e w' ⟨rfl, rfl⟩
                go_wp2_with fail
                refine (C3.out _).mono ?_
                rintro e w' ⟨rfl, rfl⟩
                go_wp2_with fail
                refine (C4.out _ HT.out).mono ?_
                rintro e w' ⟨rfl, rfl⟩
                go_wp2_with fail
                refine (C5.out _ HT.out).mono ?_
                rintro e w' ⟨rfl, rfl⟩
                go_wp2_with fail
                refine (known_any _ HT.out).mono ?_
                rintro e w' ⟨rfl, hb⟩
                go_wp2_with fail
                go_ret
                exact ⟨rfl, hb⟩
  case inr.inl => obtain rfl : ok = false := by rw [← hok]; simp; omega
                  clear hok
                  rcases hc with rfl | ⟨rfl, rfl, rfl, rfl⟩ | ⟨rfl, rfl, rfl, rfl⟩ | ⟨rfl, rfl, rfl, rfl, rfl⟩
                  all_goals
                    go_enter Tryd.func4, Tryd.ntmps4
                    go_wp2_with fail
                    refine (C1.out _ HT.out).mono ?_
                    rintro e w' ⟨rfl, rfl⟩
                    go_wp2_with fail
                    refine (C2.out _ HT.out).mono ?_
                    rintro e w' ⟨rfl, rfl⟩
                    go_wp2_with fail
                    refine (C3.out _).mono ?_
                    rintro e w' ⟨rfl, rfl⟩
                    go_wp2_with fail
                    refine (C4.out _ HT.out).mono ?_
                    rintro e w' ⟨rfl, rfl⟩
                    go_wp2_with fail
                    refine (C5.out _ HT.out).mono ?_
                    rintro e w' ⟨rfl, rfl⟩
                    go_wp2_with fail
                    refine (known_any _ HT.out).mono ?_
                    rintro e w' ⟨rfl, hb⟩
                    go_wp2_with fail
                    go_ret
                    exact ⟨rfl, hb⟩
  case inr.inr => obtain rfl : ok = true := by rw [← hok]; simp; omega
                  clear hok
                  rcases hc with rfl | ⟨rfl, rfl, rfl, rfl⟩ | ⟨rfl, rfl, rfl, rfl⟩ | ⟨rfl, rfl, rfl, rfl, rfl⟩
                  all_goals
                    go_enter Tryd.func4, Tryd.ntmps4
                    go_wp2_with fail
                    refine (C1.out _ HT.out).mono ?_
                    rintro e w' ⟨rfl, rfl⟩
                    go_wp2_with fail
                    refine (C2.out _ HT.out).mono ?_
                    rintro e w' ⟨rfl, rfl⟩
                    go_wp2_with fail
                    refine (C3.out _).mono ?_
                    rintro e w' ⟨rfl, rfl⟩
                    go_wp2_with fail
                    refine (C4.out _ HT.out).mono ?_
                    rintro e w' ⟨rfl, rfl⟩
                    go_wp2_with fail
                    refine (C5.out _ HT.out).mono ?_
                    rintro e w' ⟨rfl, rfl⟩
                    go_wp2_with fail
                    refine (known_any _ HT.out).mono ?_
                    rintro e w' ⟨rfl, hb⟩
                    go_wp2_with fail
                    go_ret
                    exact ⟨rfl, hb⟩

theorem dates_walk (a : Int) (_ : -9223372036854775808 ≤ a) (_ : a ≤ 9223372036854775807) (b : Int) (_ : -9223372036854775808 ≤ b) (_ : b ≤ 9223372036854775807) (w : World) (ht : Tab w) :
    Calls Tryd.prog 4 #[.int .i64 a, .int .i64 b] w fun e w' => e = .returned (.bool true) ∧ Below w.heap.size w w' := by
  obtain ⟨m, hm⟩ : ∃ m : Nat, b % 16777216 % 400001 = (m : Int) := ⟨(b % 16777216 % 400001).toNat, by omega⟩
  obtain ⟨y, k, d, hd, e⟩ := date_of (n := (m : Int)) (by omega) (by omega)
  by_cases h : m < 400000
  · obtain ⟨z, l, f, hl, hf, hf1, e2, hc⟩ := date_next hd.k1 hd.d0 hd.d1
    have hz : 1970 ≤ z := by have := hd.y0; omega
    have hd2 : Dt z l f := ⟨hz, hl, hf, hf1, by omega⟩
    refine dates_tail a b m hm y k d hd e z ((l : Int) + 1) f true (fun W hW => ?_) ?_ w ht
    · have := date_any z l f hd2 W hW
      rw [e2, e] at this
      exact this
    · rcases hc with ⟨rfl, rfl, rfl⟩ | ⟨rfl, ⟨rfl, rfl⟩ | ⟨rfl, rfl, rfl⟩⟩
      · exact .inr (.inl ⟨rfl, rfl, rfl, rfl⟩)
      · exact .inr (.inr (.inl ⟨rfl, rfl, by omega, rfl⟩))
      · exact .inr (.inr (.inr ⟨rfl, rfl, rfl, rfl, rfl⟩))
  · exact dates_tail a b m hm y k d hd e 0 0 0 false (fun W _ => date_bad _ (by omega) W) (.inl rfl) w ht

end Go.Proofs.YtfeaflbohfclmaaDoor
