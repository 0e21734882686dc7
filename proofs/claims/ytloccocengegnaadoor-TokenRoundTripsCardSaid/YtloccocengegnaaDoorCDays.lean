/-
  Days, of civil and of its reference.
-/
import Derived.Test.YtloccocengegnaaDoorCLeaf
import Derived.LoopTactic
set_option linter.unusedVariables false
namespace Go.Proofs.YtloccocengegnaaDoor
open Go.RowKit Wh

theorem days_bad (y m d : Int) (h : y < 1970 ∨ 3065 < y ∨ m < 1 ∨ 12 < m) (w : World) :
    Calls Tryd.prog 71 #[.int .i64 y, .int .i64 m, .int .i64 d] w (IsPair 0 false w) := by
  rcases (show y < 1970 ∨ (1970 ≤ y ∧ 3065 < y) ∨ (1970 ≤ y ∧ y ≤ 3065 ∧ m < 1) ∨ (1970 ≤ y ∧ y ≤ 3065 ∧ 1 ≤ m ∧ 12 < m) by omega) with h1 | ⟨h1, h2⟩ | ⟨h1, h2, h3⟩ | ⟨h1, h2, h3, h4⟩
  all_goals
    clear h
    go_enter Tryd.func71, Tryd.ntmps71
    go_wp2_with fail
    go_ret2
    exact ⟨rfl, rfl⟩

theorem days_short (y : Int) (k : Nat) (d : Int) (h0 : 1970 ≤ y) (h1 : y ≤ 3065) (hk : k < 12) (h : d < 1 ∨ lenZ y ((k : Int) + 1) < d) (w : World) (ht : Tab w) :
    Calls Tryd.prog 71 #[.int .i64 y, .int .i64 ((k : Int) + 1), .int .i64 d] w (IsPair 0 false w) := by
  have c1 := fun W hW => monthLength_any y k (by omega) (by omega) hk W hW
  have HT := Lib.hid ht
  clear ht
  generalize lenZ y ((k : Int) + 1) = l at *
  have C1 := Lib.hid c1
  clear c1
  by_cases hd : d < 1
  all_goals
    go_enter Tryd.func71, Tryd.ntmps71
    go_wp2_with (go_at_call 63; refine (C1.out _ HT.out).mono ?_; rintro e w' ⟨rfl, rfl⟩)
    go_ret2
    exact ⟨rfl, rfl⟩

theorem days_in (y : Int) (k : Nat) (d : Int) (h0 : 1970 ≤ y) (h1 : y ≤ 3065) (hk : k < 12) (hd0 : 1 ≤ d) (hd1 : d ≤ lenZ y ((k : Int) + 1)) (w : World) (ht : Tab w) :
    Calls Tryd.prog 71 #[.int .i64 y, .int .i64 ((k : Int) + 1), .int .i64 d] w (IsPair (if dayZ y k d ≤ 400000 then dayZ y k d else 0) (decide (dayZ y k d ≤ 400000)) w) := by
  have c1 := fun W hW => monthLength_any y k (by omega) (by omega) hk W hW
  have c2 := fun W => daysBefore_any y h0 (by omega) W
  have hz : dayZ y k d = yzZ y + msZ y k + d - 1 := rfl
  have y0 := yzZ_low h0
  have y1 := yzZ_high h0
  have hl := lenZ_bd y ((k : Int) + 1)
  have HT := Lib.hid ht
  clear ht
  generalize yzZ y = Y at *
  generalize dayZ y k d = n at *
  have hl1 : d ≤ 31 := by omega
  have C1 := Lib.hid c1
  have C2 := Lib.hid c2
  have HZ := Lib.hid hz
  clear c1 c2 hz
  generalize ez : (if n ≤ 400000 then n else 0) = z
  generalize eb : decide (n ≤ 400000) = b
  have EZ := Lib.hid ez
  have EB := Lib.hid eb
  clear ez eb
  go_enter Tryd.func71, Tryd.ntmps71
  go_wp2_with (first | (go_at_call 63; refine (C1.out _ HT.out).mono ?_; rintro e w' ⟨rfl, rfl⟩) | (go_at_call 62; refine (C2.out _).mono ?_; rintro e w' ⟨rfl, rfl⟩))
  clear hd1 hl
  go_loop [8, 9] (fun s i => ∃ j : Nat, j ≤ k ∧ i = .int .i64 ((j : Int) + 1) ∧ s = .int .i64 (Y + d - 1 + msZ y j)) (fun _ i => k + 1 - (intOf i).toNat)
  case atStart => exact ⟨0, Nat.zero_le _, rfl, by simp [msZ]⟩
  case round =>
    obtain ⟨j, hj, rfl, rfl⟩ := hrel
    have b0 := msZ_low y j
    have b1 := msZ_high y j
    by_cases hlt : j < k
    · have hs : msZ y (j + 1) = msZ y j + lenZ y ((j : Int) + 1) := rfl
      have c3 := fun W hW => monthLength_any y j (by omega) (by omega) (by omega) W hW
      have hl2 := lenZ_bd y ((j : Int) + 1)
      generalize lenZ y ((j : Int) + 1) = l at *
      generalize msZ y j = s at *
      have C3 := Lib.hid c3
      have HS := Lib.hid hs
      clear c3 hs
      go_wp2_with (go_at_call 63; refine (C3.out _ HT.out).mono ?_; rintro e w' ⟨rfl, rfl⟩)
      go_round
      case rel => exact ⟨j + 1, by omega, by go_num, by rw [HS.out]; go_num⟩
      case measure => simp [intOf]; omega
    · obtain rfl : j = k := by omega
      have hn : n = Y + d - 1 + msZ y j := by have := HZ.out; omega
      generalize msZ y j = s at *
      have hn0 : 0 ≤ n := by omega
      have hn1 : n ≤ 2000000 := by omega
      rw [show Y + d - 1 + s = n from hn.symm]
      have e0 : decide (0 ≤ n) = true := decide_eq_true hn0
      clear hn C1 C2 HZ b0 b1 y0 y1
      by_cases hm : n ≤ 400000
      · have e1 : decide (n ≤ 400000) = true := decide_eq_true hm
        go_wp2_with (go_at_call 61; refine (isDay_any _ _).mono ?_; rintro e w' ⟨rfl, rfl⟩)
        go_ret2
        exact ⟨ret_pair (by rw [← EZ.out, if_pos (by omega)]) (by rw [← EB.out, e1]), rfl⟩
      · have e1 : decide (n ≤ 400000) = false := decide_eq_false hm
        go_wp2_with (go_at_call 61; refine (isDay_any _ _).mono ?_; rintro e w' ⟨rfl, rfl⟩)
        go_ret2
        exact ⟨ret_pair (by rw [← EZ.out, if_neg (by omega)]) (by rw [← EB.out, e1]), rfl⟩

theorem days_any (y m d : Int) (w : World) (ht : Tab w) :
    Calls Tryd.prog 71 #[.int .i64 y, .int .i64 m, .int .i64 d] w (IsPair (daysZ y m d) (daysB y m d) w) := by
  by_cases h : y < 1970 ∨ 3065 < y ∨ m < 1 ∨ 12 < m
  · have e := daysB_out (y := y) (m := m) (d := d) (by omega)
    rw [daysZ_no e, e]
    exact days_bad y m d h w
  · obtain ⟨k, rfl⟩ : ∃ k : Nat, m = (k : Int) + 1 := ⟨(m - 1).toNat, by omega⟩
    have ek : ((k : Int) + 1 - 1).toNat = k := by omega
    by_cases hd : d < 1 ∨ lenZ y ((k : Int) + 1) < d
    · have e := daysB_out (y := y) (m := (k : Int) + 1) (d := d) (by omega)
      rw [daysZ_no e, e]
      exact days_short y k d (by omega) (by omega) (by omega) hd w ht
    · have h2 := days_in y k d (by omega) (by omega) (by omega) (by omega) (by omega) w ht
      by_cases hm : dayZ y k d ≤ 400000
      · obtain ⟨e1, e2⟩ := daysB_of (y := y) (k := k) (d := d) ⟨by omega, by omega, by omega, by omega, hm⟩
        rw [e1, e2]
        rw [if_pos hm, decide_eq_true hm] at h2
        exact h2
      · have e : daysB y ((k : Int) + 1) d = false := by
          cases e : daysB y ((k : Int) + 1) d with
          | false => rfl
          | true =>
            exfalso
            obtain ⟨l, e1, e2, _⟩ := daysB_dt e
            obtain rfl : k = l := by omega
            exact hm e2.n1
        rw [daysZ_no e, e]
        rw [if_neg hm, decide_eq_false hm] at h2
        exact h2

end Go.Proofs.YtloccocengegnaaDoor

