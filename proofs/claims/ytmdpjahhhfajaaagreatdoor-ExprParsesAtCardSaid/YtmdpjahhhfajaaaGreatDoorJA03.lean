/-
  Plain functions on integers: leap years, lengths of months, day numbers (layer 3). No program is imported. · What the small functions of layer 3 and of its reference return. · Days, of civil and of its reference.
-/
import Derived.Laws.Entries
import Derived.Test.YtmdpjahhhfajaaaGreatDoorRows
import Derived.Test.YtmdpjahhhfajaaaGreatDoorJA01
import Derived.WalkKit
import Derived.WalkLawsBesides
import Derived.WalkSpells
import Derived.Outline
import Derived.BigQuiet
import Derived.IntWalk
import Derived.Deep.QuietTactic
import Derived.Lib.Hide
import Derived.Below
import Derived.LoopTactic
set_option linter.unusedVariables false
namespace Wh

/-- Is it a leap year? -/
def leapB (y : Int) : Bool := (decide (y % 4 = 0) && !decide (y % 100 = 0)) || decide (y % 400 = 0)
def leapZ (y : Int) : Int := if leapB y = true then 1 else 0

theorem leapZ_bd (y : Int) : 0 ≤ leapZ y ∧ leapZ y ≤ 1 := by unfold leapZ; split <;> omega

/-- The number of days of a month. -/
def lenZ (y m : Int) : Int := if m = 2 then 28 + leapZ y else if m = 4 ∨ m = 6 ∨ m = 9 ∨ m = 11 then 30 else 31

theorem lenZ_bd (y m : Int) : 28 ≤ lenZ y m ∧ lenZ y m ≤ 31 := by
  have := leapZ_bd y
  unfold lenZ
  split
  · omega
  · split <;> omega

/-- The number of leap years from year 1 to a year. -/
def lyZ (y : Int) : Int := y / 4 - y / 100 + y / 400

theorem lyZ_step (y : Int) : lyZ y = lyZ (y - 1) + leapZ y := by
  unfold lyZ leapZ leapB
  by_cases h4 : y % 4 = 0
  · by_cases h100 : y % 100 = 0
    · by_cases h400 : y % 400 = 0
      · simp [h4, h100, h400]; omega
      · simp [h4, h100, h400]; omega
    · have h400 : ¬ y % 400 = 0 := by omega
      simp [h4, h100, h400]; omega
  · have h100 : ¬ y % 100 = 0 := by omega
    have h400 : ¬ y % 400 = 0 := by omega
    simp [h4, h100, h400]; omega

/-- The number of days from 1970-01-01 to the first day of a year. -/
def yzZ (y : Int) : Int := (y - 1970) * 365 + lyZ (y - 1) - 477

theorem yzZ_first : yzZ 1970 = 0 := by decide

theorem yzZ_step (y : Int) : yzZ (y + 1) = yzZ y + 365 + leapZ y := by
  unfold yzZ
  have h := lyZ_step y
  rw [show y + 1 - 1 = y by omega, h]
  omega

theorem yzZ_low {y : Int} (h : 1970 ≤ y) : (y - 1970) * 365 ≤ yzZ y := by
  unfold yzZ lyZ
  omega

theorem yzZ_high {y : Int} (h : 1970 ≤ y) : yzZ y ≤ (y - 1970) * 366 := by
  unfold yzZ lyZ
  omega

/-- The number of days of a year before its month k + 1. -/
def msZ (y : Int) : Nat → Int
  | 0 => 0
  | k + 1 => msZ y k + lenZ y ((k : Int) + 1)

theorem msZ_low (y : Int) : ∀ k : Nat, 28 * (k : Int) ≤ msZ y k
  | 0 => by simp [msZ]
  | k + 1 => by
    have := msZ_low y k
    have := lenZ_bd y ((k : Int) + 1)
    simp only [msZ, Int.natCast_add]
    omega

theorem msZ_high (y : Int) : ∀ k : Nat, msZ y k ≤ 31 * (k : Int)
  | 0 => by simp [msZ]
  | k + 1 => by
    have := msZ_high y k
    have := lenZ_bd y ((k : Int) + 1)
    simp only [msZ, Int.natCast_add]
    omega

theorem msZ_mono (y : Int) {i j : Nat} (h : i ≤ j) : msZ y i ≤ msZ y j := by
  induction j with
  | zero => obtain rfl : i = 0 := by omega
            exact Int.le_refl _
  | succ j ih =>
    by_cases e : i = j + 1
    · subst e; exact Int.le_refl _
    · have := ih (by omega)
      have := lenZ_bd y ((j : Int) + 1)
      simp only [msZ]
      omega

theorem msZ_year (y : Int) : msZ y 12 = 365 + leapZ y := by
  simp only [msZ, lenZ]
  simp
  omega

/-- The day number of a day of a year's month k + 1. -/
def dayZ (y : Int) (k : Nat) (d : Int) : Int := yzZ y + msZ y k + d - 1

/-- Is it a date with a day number? -/
structure Dt (y : Int) (k : Nat) (d : Int) : Prop where
  y0 : 1970 ≤ y
  k1 : k < 12
  d0 : 1 ≤ d
  d1 : d ≤ lenZ y ((k : Int) + 1)
  n1 : dayZ y k d ≤ 400000

theorem Dt.year {y : Int} {k : Nat} {d : Int} (h : Dt y k d) : y ≤ 3065 := by
  have h1 := h.n1
  unfold dayZ at h1
  have := yzZ_low h.y0
  have := msZ_low y k
  have := h.d0
  omega

theorem Dt.n0 {y : Int} {k : Nat} {d : Int} (h : Dt y k d) : 0 ≤ dayZ y k d := by
  unfold dayZ
  have := yzZ_low h.y0
  have := h.y0
  have := msZ_low y k
  have := h.d0
  omega

/-- The days of one year come before those of the next one. -/
theorem yzZ_mono {y z : Int} (h : y < z) : yzZ y + 365 + leapZ y ≤ yzZ z := by
  obtain ⟨n, rfl⟩ : ∃ n : Nat, z = y + 1 + n := ⟨(z - y - 1).toNat, by omega⟩
  clear h
  induction n with
  | zero => rw [show y + 1 + ((0 : Nat) : Int) = y + 1 by omega, yzZ_step]; exact Int.le_refl _
  | succ n ih =>
    have h1 := yzZ_step (y + 1 + (n : Int))
    have := leapZ_bd (y + 1 + (n : Int))
    rw [show y + 1 + ((n + 1 : Nat) : Int) = y + 1 + (n : Int) + 1 by omega, h1]
    omega

theorem day_in_year {y : Int} {k : Nat} {d : Int} (hk : k < 12) (h0 : 1 ≤ d) (h1 : d ≤ lenZ y ((k : Int) + 1)) : 0 ≤ msZ y k + d - 1 ∧ msZ y k + d - 1 < 365 + leapZ y := by
  have a := msZ_low y k
  have b := msZ_mono y (show k + 1 ≤ 12 by omega)
  rw [msZ_year] at b
  simp only [msZ] at b
  omega

/-- A day number has one date. -/
theorem date_one {y z : Int} {k l : Nat} {d e : Int} (hk : k < 12) (hl : l < 12) (hd : 1 ≤ d) (hd1 : d ≤ lenZ y ((k : Int) + 1)) (he : 1 ≤ e) (he1 : e ≤ lenZ z ((l : Int) + 1)) (h : dayZ y k d = dayZ z l e) : y = z ∧ k = l ∧ d = e := by
  have a := day_in_year hk hd hd1
  have b := day_in_year hl he he1
  unfold dayZ at h
  rcases (show y < z ∨ y = z ∨ z < y by omega) with c | c | c
  · have := yzZ_mono c
    omega
  · subst c
    refine ⟨rfl, ?_⟩
    rcases (show k < l ∨ k = l ∨ l < k by omega) with c | c | c
    · have := msZ_mono y (show k + 1 ≤ l by omega)
      simp only [msZ] at this
      omega
    · subst c
      exact ⟨rfl, by omega⟩
    · have := msZ_mono y (show l + 1 ≤ k by omega)
      simp only [msZ] at this
      omega
  · have := yzZ_mono c
    omega

/-- A year that begins no later than a day is no later than its year. -/
theorem year_le {x y : Int} {k : Nat} {d : Int} (hk : k < 12) (hd : 1 ≤ d) (hd1 : d ≤ lenZ y ((k : Int) + 1)) (h : yzZ x ≤ dayZ y k d) : x ≤ y := by
  have a := day_in_year hk hd hd1
  unfold dayZ at h
  by_cases c : y < x
  · have := yzZ_mono c
    omega
  · omega

/-- The date of the next day. -/
theorem date_next {y : Int} {k : Nat} {d : Int} (hk : k < 12) (h0 : 1 ≤ d) (h1 : d ≤ lenZ y ((k : Int) + 1)) :
    ∃ (z : Int) (l : Nat) (e : Int), l < 12 ∧ 1 ≤ e ∧ e ≤ lenZ z ((l : Int) + 1) ∧ dayZ z l e = dayZ y k d + 1 ∧ (z = y ∧ l = k ∧ e = d + 1 ∨ e = 1 ∧ (z = y ∧ l = k + 1 ∨ z = y + 1 ∧ l = 0 ∧ k = 11)) := by
  by_cases a : d < lenZ y ((k : Int) + 1)
  · exact ⟨y, k, d + 1, hk, by omega, by omega, by unfold dayZ; omega, .inl ⟨rfl, rfl, rfl⟩⟩
  · by_cases b : k < 11
    · refine ⟨y, k + 1, 1, by omega, by omega, Int.le_trans (by decide) (lenZ_bd _ _).1, ?_, .inr ⟨rfl, .inl ⟨rfl, rfl⟩⟩⟩
      unfold dayZ
      simp only [msZ]
      omega
    · obtain rfl : k = 11 := by omega
      refine ⟨y + 1, 0, 1, by omega, by omega, Int.le_trans (by decide) (lenZ_bd _ _).1, ?_, .inr ⟨rfl, .inr ⟨rfl, rfl, rfl⟩⟩⟩
      unfold dayZ
      have h2 := msZ_year y
      have h3 := yzZ_step y
      simp only [msZ] at h2 ⊢
      omega

/-- Every day number has a date. -/
theorem date_some (n : Nat) : ∃ (y : Int) (k : Nat) (d : Int), 1970 ≤ y ∧ k < 12 ∧ 1 ≤ d ∧ d ≤ lenZ y ((k : Int) + 1) ∧ dayZ y k d = n := by
  induction n with
  | zero => exact ⟨1970, 0, 1, by omega, by omega, by omega, by decide, by decide⟩
  | succ n ih =>
    obtain ⟨y, k, d, h0, hk, hd, hd1, e⟩ := ih
    obtain ⟨z, l, f, hl, hf, hf1, e2, h⟩ := date_next hk hd hd1
    exact ⟨z, l, f, by omega, hl, hf, hf1, by omega⟩

theorem date_of {n : Int} (h0 : 0 ≤ n) (h1 : n ≤ 400000) : ∃ (y : Int) (k : Nat) (d : Int), Dt y k d ∧ dayZ y k d = n := by
  obtain ⟨y, k, d, a, b, c, e, f⟩ := date_some n.toNat
  exact ⟨y, k, d, ⟨a, b, c, e, by omega⟩, by omega⟩

/-- Is a year, month and day a date with a day number? -/
def daysB (y m d : Int) : Bool := decide (1970 ≤ y) && decide (1 ≤ m) && decide (m ≤ 12) && decide (1 ≤ d) && decide (d ≤ lenZ y m) && decide (dayZ y (m - 1).toNat d ≤ 400000)
def daysZ (y m d : Int) : Int := if daysB y m d = true then dayZ y (m - 1).toNat d else 0

theorem daysB_dt {y m d : Int} (h : daysB y m d = true) : ∃ k : Nat, m = (k : Int) + 1 ∧ Dt y k d ∧ daysZ y m d = dayZ y k d := by
  have hz : daysZ y m d = dayZ y (m - 1).toNat d := by unfold daysZ; rw [if_pos h]
  unfold daysB at h
  simp only [Bool.and_eq_true, decide_eq_true_eq] at h
  obtain ⟨⟨⟨⟨⟨h0, h1⟩, h2⟩, h3⟩, h4⟩, h5⟩ := h
  refine ⟨(m - 1).toNat, by omega, ⟨h0, by omega, h3, ?_, h5⟩, hz⟩
  rw [show (((m - 1).toNat : Nat) : Int) + 1 = m by omega]
  exact h4

theorem daysB_of {y : Int} {k : Nat} {d : Int} (h : Dt y k d) : daysB y ((k : Int) + 1) d = true ∧ daysZ y ((k : Int) + 1) d = dayZ y k d := by
  have e : ((k : Int) + 1 - 1).toNat = k := by omega
  have hb : daysB y ((k : Int) + 1) d = true := by
    unfold daysB
    rw [e]
    simp only [Bool.and_eq_true, decide_eq_true_eq]
    have := h.k1
    exact ⟨⟨⟨⟨⟨h.y0, by omega⟩, by omega⟩, h.d0⟩, h.d1⟩, h.n1⟩
  exact ⟨hb, by unfold daysZ; rw [if_pos hb, e]⟩

theorem daysZ_no {y m d : Int} (h : daysB y m d = false) : daysZ y m d = 0 := by unfold daysZ; rw [h]; rfl

/-- What is false of a date that does not exist. -/
theorem daysB_parts {y m d : Int} (h : daysB y m d = false) (h0 : 1970 ≤ y) (h1 : 1 ≤ m) (h2 : m ≤ 12) (h3 : 1 ≤ d) (h4 : d ≤ lenZ y m) : 400000 < dayZ y (m - 1).toNat d := by
  unfold daysB at h
  rw [decide_eq_true h0, decide_eq_true h1, decide_eq_true h2, decide_eq_true h3, decide_eq_true h4] at h
  have h5 := of_decide_eq_false (show decide (dayZ y (m - 1).toNat d ≤ 400000) = false from h)
  omega

theorem daysB_out {y m d : Int} (h : y < 1970 ∨ 3065 < y ∨ m < 1 ∨ 12 < m ∨ d < 1 ∨ lenZ y m < d) : daysB y m d = false := by
  cases e : daysB y m d with
  | false => rfl
  | true =>
    exfalso
    obtain ⟨k, rfl, hd, _⟩ := daysB_dt e
    have a := hd.year
    have b := hd.y0
    have c := hd.k1
    have := hd.d0
    have := hd.d1
    omega

end Wh
namespace Go.Proofs.YtmdpjahhhfajaaaGreatDoor
open Go.RowKit Wh


/-- The lengths of the months as the program's table has them. -/
def tab : List Int := [31, 28, 31, 30, 31, 30, 31, 31, 30, 31, 30, 31]

/-- The table lies in the world. -/
def Tab (w : World) : Prop := 6 < w.heap.size ∧ ∀ i : Nat, i < 12 → w.cell? ⟨6, i, none⟩ = some (.int .i64 (tab.getD i 0))

theorem Tab.below {w w' : World} {B : Nat} (h : Tab w) (hb : Below B w w') (hB : w.heap.size ≤ B) : Tab w' :=
  ⟨Nat.lt_of_lt_of_le h.1 hb.size, fun i hi => by rw [hb.cell (p := ⟨6, i, none⟩) (Nat.lt_of_lt_of_le h.1 hB)]; exact h.2 i hi⟩

theorem tab_len (y : Int) {k : Nat} (hk : k < 12) (h : ((k : Int) + 1 == 2 && leapB y) = false) : tab.getD k 0 = lenZ y ((k : Int) + 1) := by
  have e : ¬ k = 1 ∨ leapB y = false := by
    rcases Bool.and_eq_false_iff.1 h with h | h
    · left; intro e; subst e; simp at h
    · exact .inr h
  rcases (show k = 0 ∨ k = 1 ∨ k = 2 ∨ k = 3 ∨ k = 4 ∨ k = 5 ∨ k = 6 ∨ k = 7 ∨ k = 8 ∨ k = 9 ∨ k = 10 ∨ k = 11 by omega) with rfl | rfl | rfl | rfl | rfl | rfl | rfl | rfl | rfl | rfl | rfl | rfl
  all_goals first
    | (simp [tab, lenZ]; done)
    | (rcases e with e | e <;> simp_all [tab, lenZ, leapZ])

theorem isDay_any (x : Int) (w : World) :
    Calls Tryz.prog 203 #[.int .i64 x] w fun e w' => e = .returned (.bool (decide (0 ≤ x) && decide (x ≤ 400000))) ∧ w = w' := by
  go_enter Tryz.func203, Tryz.ntmps203
  go_wp2
  all_goals
    go_ret
    refine ⟨ret_bool ?_, rfl⟩
    simp_all
    try omega

theorem isLeap_any (y : Int) (h0 : 0 ≤ y) (h1 : y ≤ 1000000000) (w : World) :
    Calls Tryz.prog 221 #[.int .i64 y] w fun e w' => e = .returned (.bool (leapB y)) ∧ w = w' := by
  go_enter Tryz.func221, Tryz.ntmps221
  go_wp2
  all_goals
    go_ret
    refine ⟨ret_bool ?_, rfl⟩
    unfold leapB
    simp_all
    try (first | rfl | omega)

theorem rleap_any (y : Int) (h0 : 0 ≤ y) (h1 : y ≤ 1000000000) (w : World) :
    Calls Tryz.prog 137 #[.int .i64 y] w fun e w' => e = .returned (.bool (leapB y)) ∧ w = w' := by
  go_enter Tryz.func137, Tryz.ntmps137
  go_wp2
  all_goals
    go_ret
    refine ⟨ret_bool ?_, rfl⟩
    unfold leapB
    simp_all
    try (first | rfl | omega)

theorem leapYears_any (y : Int) (h0 : 0 ≤ y) (h1 : y ≤ 1000000000) (w : World) :
    Calls Tryz.prog 222 #[.int .i64 y] w fun e w' => e = .returned (.int .i64 (lyZ y)) ∧ w = w' := by
  go_enter Tryz.func222, Tryz.ntmps222
  go_wp2
  go_ret
  exact ⟨rfl, rfl⟩

theorem daysBefore_any (y : Int) (h0 : 1970 ≤ y) (h1 : y ≤ 1000000) (w : World) :
    Calls Tryz.prog 202 #[.int .i64 y] w fun e w' => e = .returned (.int .i64 (yzZ y)) ∧ w = w' := by
  have hz : yzZ y = (y - 1970) * 365 + lyZ (y - 1) - 477 := rfl
  have HZ := Lib.hid hz
  clear hz
  have c1 := fun W => leapYears_any (y - 1) (by omega) (by omega) W
  have c2 := fun W => leapYears_any 1969 (by omega) (by omega) W
  rw [show lyZ 1969 = 477 by decide] at c2
  have hb : -1000000 ≤ lyZ (y - 1) ∧ lyZ (y - 1) ≤ 1000000 := by unfold lyZ; omega
  generalize lyZ (y - 1) = a at *
  have C1 := Lib.hid c1
  have C2 := Lib.hid c2
  clear c1 c2
  go_enter Tryz.func202, Tryz.ntmps202
  go_wp2_with fail
  refine (C1.out _).mono ?_
  rintro e w' ⟨rfl, rfl⟩
  go_wp2_with fail
  refine (C2.out _).mono ?_
  rintro e w' ⟨rfl, rfl⟩
  go_wp2_with fail
  go_ret
  exact ⟨ret_int HZ.out.symm, rfl⟩

theorem monthLength_any (y : Int) (k : Nat) (h0 : 0 ≤ y) (h1 : y ≤ 1000000000) (hk : k < 12) (w : World) (ht : Tab w) :
    Calls Tryz.prog 201 #[.int .i64 y, .int .i64 ((k : Int) + 1)] w fun e w' => e = .returned (.int .i64 (lenZ y ((k : Int) + 1))) ∧ w = w' := by
  have hc := ht.2 k hk
  by_cases hl : ((k : Int) + 1 == 2 && leapB y) = true
  · simp only [Bool.and_eq_true, beq_iff_eq] at hl
    obtain ⟨h2, h3⟩ := hl
    obtain rfl : k = 1 := by omega
    have hz : lenZ y (((1 : Nat) : Int) + 1) = 29 := by unfold lenZ leapZ; rw [h3]; rfl
    have HZ := Lib.hid hz
    clear hz hc
    go_enter Tryz.func201, Tryz.ntmps201
    go_wp2_with (go_at_call 221; refine (isLeap_any _ h0 h1 _).mono ?_; rintro e w' ⟨rfl, rfl⟩)
    go_ret
    exact ⟨ret_int HZ.out.symm, rfl⟩
  · have hf : ((k : Int) + 1 == 2 && leapB y) = false := by simpa using hl
    have HZ := Lib.hid (tab_len y hk hf)
    have hl2 : (k : Int) + 1 = 2 → leapB y = false := by
      intro e
      rw [e] at hf
      simpa using hf
    clear hl hf
    by_cases e2 : k = 1
    · subst e2
      have h3 := hl2 rfl
      clear hl2
      go_enter Tryz.func201, Tryz.ntmps201
      go_wp2_with (go_at_call 221; refine (isLeap_any _ h0 h1 _).mono ?_; rintro e w' ⟨rfl, rfl⟩)
      go_ret
      exact ⟨ret_int HZ.out, rfl⟩
    · clear hl2
      go_enter Tryz.func201, Tryz.ntmps201
      go_wp2_with fail
      go_ret
      exact ⟨ret_int HZ.out, rfl⟩

theorem rlength_any (y m : Int) (h0 : 0 ≤ y) (h1 : y ≤ 1000000000) (w : World) :
    Calls Tryz.prog 136 #[.int .i64 y, .int .i64 m] w fun e w' => e = .returned (.int .i64 (lenZ y m)) ∧ w = w' := by
  have hz : lenZ y m = if m = 2 then 28 + (if leapB y = true then 1 else 0) else if m = 4 ∨ m = 6 ∨ m = 9 ∨ m = 11 then 30 else 31 := rfl
  have HZ := Lib.hid hz
  clear hz
  cases hl : leapB y
  all_goals
    go_enter Tryz.func136, Tryz.ntmps136
    go_wp2_with (go_at_call 137; refine (rleap_any _ h0 h1 _).mono ?_; rintro e w' ⟨rfl, rfl⟩)
    all_goals
      go_ret
      refine ⟨ret_int ?_, rfl⟩
      rw [HZ.out, hl]
      simp_all

end Go.Proofs.YtmdpjahhhfajaaaGreatDoor
set_option linter.unusedVariables false
namespace Go.Proofs.YtmdpjahhhfajaaaGreatDoor
open Go.RowKit Wh

theorem days_bad (y m d : Int) (h : y < 1970 ∨ 3065 < y ∨ m < 1 ∨ 12 < m) (w : World) :
    Calls Tryz.prog 180 #[.int .i64 y, .int .i64 m, .int .i64 d] w (IsPair 0 false w) := by
  rcases (show y < 1970 ∨ (1970 ≤ y ∧ 3065 < y) ∨ (1970 ≤ y ∧ y ≤ 3065 ∧ m < 1) ∨ (1970 ≤ y ∧ y ≤ 3065 ∧ 1 ≤ m ∧ 12 < m) by omega) with h1 | ⟨h1, h2⟩ | ⟨h1, h2, h3⟩ | ⟨h1, h2, h3, h4⟩
  all_goals
    clear h
    go_enter Tryz.func180, Tryz.ntmps180
    go_wp2_with fail
    go_ret2
    exact ⟨rfl, rfl⟩

theorem days_short (y : Int) (k : Nat) (d : Int) (h0 : 1970 ≤ y) (h1 : y ≤ 3065) (hk : k < 12) (h : d < 1 ∨ lenZ y ((k : Int) + 1) < d) (w : World) (ht : Tab w) :
    Calls Tryz.prog 180 #[.int .i64 y, .int .i64 ((k : Int) + 1), .int .i64 d] w (IsPair 0 false w) := by
  have c1 := fun W hW => monthLength_any y k (by omega) (by omega) hk W hW
  have HT := Lib.hid ht
  clear ht
  generalize lenZ y ((k : Int) + 1) = l at *
  have C1 := Lib.hid c1
  clear c1
  by_cases hd : d < 1
  all_goals
    go_enter Tryz.func180, Tryz.ntmps180
    go_wp2_with (go_at_call 201; refine (C1.out _ HT.out).mono ?_; rintro e w' ⟨rfl, rfl⟩)
    go_ret2
    exact ⟨rfl, rfl⟩

theorem days_in (y : Int) (k : Nat) (d : Int) (h0 : 1970 ≤ y) (h1 : y ≤ 3065) (hk : k < 12) (hd0 : 1 ≤ d) (hd1 : d ≤ lenZ y ((k : Int) + 1)) (w : World) (ht : Tab w) :
    Calls Tryz.prog 180 #[.int .i64 y, .int .i64 ((k : Int) + 1), .int .i64 d] w (IsPair (if dayZ y k d ≤ 400000 then dayZ y k d else 0) (decide (dayZ y k d ≤ 400000)) w) := by
  have c1 := fun W hW => monthLength_any y k (by omega) (by omega) hk W hW
  have c2 := fun W => daysBefore_any y h0 (by omega) W
  have hz : dayZ y k d = yzZ y + msZ y k + d - 1 := rfl
  have y0 := yzZ_low h0
  have y1 := yzZ_high h0
  have hl := lenZ_bd y ((k : Int) + 1)
  have HT := Lib.hid ht
  clear ht
  generalize yzZ y = Y at *
  generalize dayZ y k d = n at *
  have hl1 : d ≤ 31 := by omega
  have C1 := Lib.hid c1
  have C2 := Lib.hid c2
  have HZ := Lib.hid hz
  clear c1 c2 hz
  generalize ez : (if n ≤ 400000 then n else 0) = z
  generalize eb : decide (n ≤ 400000) = b
  have EZ := Lib.hid ez
  have EB := Lib.hid eb
  clear ez eb
  go_enter Tryz.func180, Tryz.ntmps180
  go_wp2_with (first | (go_at_call 201; refine (C1.out _ HT.out).mono ?_; rintro e w' ⟨rfl, rfl⟩) | (go_at_call 202; refine (C2.out _).mono ?_; rintro e w' ⟨rfl, rfl⟩))
  clear hd1 hl
  go_loop [8, 9] (fun s i => ∃ j : Nat, j ≤ k ∧ i = .int .i64 ((j : Int) + 1) ∧ s = .int .i64 (Y + d - 1 + msZ y j)) (fun _ i => k + 1 - (intOf i).toNat)
  case atStart => exact ⟨0, Nat.zero_le _, rfl, by simp [msZ]⟩
  case round =>
    obtain ⟨j, hj, rfl, rfl⟩ := hrel
    have b0 := msZ_low y j
    have b1 := msZ_high y j
    by_cases hlt : j < k
    · have hs : msZ y (j + 1) = msZ y j + lenZ y ((j : Int) + 1) := rfl
      have c3 := fun W hW => monthLength_any y j (by omega) (by omega) (by omega) W hW
      have hl2 := lenZ_bd y ((j : Int) + 1)
      generalize lenZ y ((j : Int) + 1) = l at *
      generalize msZ y j = s at *
      have C3 := Lib.hid c3
      have HS := Lib.hid hs
      clear c3 hs
      go_wp2_with (go_at_call 201; refine (C3.out _ HT.out).mono ?_; rintro e w' ⟨rfl, rfl⟩)
      go_round
      case rel => exact ⟨j + 1, by omega, by go_num, by rw [HS.out]; go_num⟩
      case measure => simp [intOf]; omega
    · obtain rfl : j = k := by omega
      have hn : n = Y + d - 1 + msZ y j := by have := HZ.out; omega
      generalize msZ y j = s at *
      have hn0 : 0 ≤ n := by omega
      have hn1 : n ≤ 2000000 := by omega
      rw [show Y + d - 1 + s = n from hn.symm]
      have e0 : decide (0 ≤ n) = true := decide_eq_true hn0
      clear hn C1 C2 HZ b0 b1 y0 y1
      by_cases hm : n ≤ 400000
      · have e1 : decide (n ≤ 400000) = true := decide_eq_true hm
        go_wp2_with (go_at_call 203; refine (isDay_any _ _).mono ?_; rintro e w' ⟨rfl, rfl⟩)
        go_ret2
        exact ⟨ret_pair (by rw [← EZ.out, if_pos (by omega)]) (by rw [← EB.out, e1]), rfl⟩
      · have e1 : decide (n ≤ 400000) = false := decide_eq_false hm
        go_wp2_with (go_at_call 203; refine (isDay_any _ _).mono ?_; rintro e w' ⟨rfl, rfl⟩)
        go_ret2
        exact ⟨ret_pair (by rw [← EZ.out, if_neg (by omega)]) (by rw [← EB.out, e1]), rfl⟩

theorem days_any (y m d : Int) (w : World) (ht : Tab w) :
    Calls Tryz.prog 180 #[.int .i64 y, .int .i64 m, .int .i64 d] w (IsPair (daysZ y m d) (daysB y m d) w) := by
  by_cases h : y < 1970 ∨ 3065 < y ∨ m < 1 ∨ 12 < m
  · have e := daysB_out (y := y) (m := m) (d := d) (by omega)
    rw [daysZ_no e, e]
    exact days_bad y m d h w
  · obtain ⟨k, rfl⟩ : ∃ k : Nat, m = (k : Int) + 1 := ⟨(m - 1).toNat, by omega⟩
    have ek : ((k : Int) + 1 - 1).toNat = k := by omega
    by_cases hd : d < 1 ∨ lenZ y ((k : Int) + 1) < d
    · have e := daysB_out (y := y) (m := (k : Int) + 1) (d := d) (by omega)
      rw [daysZ_no e, e]
      exact days_short y k d (by omega) (by omega) (by omega) hd w ht
    · have h2 := days_in y k d (by omega) (by omega) (by omega) (by omega) (by omega) w ht
      by_cases hm : dayZ y k d ≤ 400000
      · obtain ⟨e1, e2⟩ := daysB_of (y := y) (k := k) (d := d) ⟨by omega, by omega, by omega, by omega, hm⟩
        rw [e1, e2]
        rw [if_pos hm, decide_eq_true hm] at h2
        exact h2
      · have e : daysB y ((k : Int) + 1) d = false := by
          cases e : daysB y ((k : Int) + 1) d with
          | false => rfl
          | true =>
            exfalso
            obtain ⟨l, e1, e2, _⟩ := daysB_dt e
            obtain rfl : k = l := by omega
            exact hm e2.n1
        rw [daysZ_no e, e]
        rw [if_neg hm, decide_eq_false hm] at h2
        exact h2

theorem rdays_bad (y m d : Int) (h : y < 1970 ∨ 3066 < y ∨ m < 1 ∨ 12 < m ∨ d < 1) (w : World) :
    Calls Tryz.prog 103 #[.int .i64 y, .int .i64 m, .int .i64 d] w (IsPair 0 false w) := by
  rcases (show y < 1970 ∨ (1970 ≤ y ∧ 3066 < y) ∨ (1970 ≤ y ∧ y ≤ 3066 ∧ m < 1) ∨ (1970 ≤ y ∧ y ≤ 3066 ∧ 1 ≤ m ∧ 12 < m) ∨ (1970 ≤ y ∧ y ≤ 3066 ∧ 1 ≤ m ∧ m ≤ 12 ∧ d < 1) by omega) with h1 | ⟨h1, h2⟩ | ⟨h1, h2, h3⟩ | ⟨h1, h2, h3, h4⟩ | ⟨h1, h2, h3, h4, h5⟩
  all_goals
    clear h
    go_enter Tryz.func103, Tryz.ntmps103
    go_wp2_with fail
    go_ret2
    exact ⟨rfl, rfl⟩

theorem rdays_short (y : Int) (k : Nat) (d : Int) (h0 : 1970 ≤ y) (h1 : y ≤ 3066) (hk : k < 12) (h2 : 1 ≤ d) (h : lenZ y ((k : Int) + 1) < d) (w : World) :
    Calls Tryz.prog 103 #[.int .i64 y, .int .i64 ((k : Int) + 1), .int .i64 d] w (IsPair 0 false w) := by
  have c1 := fun W => rlength_any y ((k : Int) + 1) (by omega) (by omega) W
  generalize lenZ y ((k : Int) + 1) = l at *
  have C1 := Lib.hid c1
  clear c1
  go_enter Tryz.func103, Tryz.ntmps103
  go_wp2_with (go_at_call 136; refine (C1.out _).mono ?_; rintro e w' ⟨rfl, rfl⟩)
  go_ret2
  exact ⟨rfl, rfl⟩

theorem rdays_in (y : Int) (k : Nat) (d : Int) (h0 : 1970 ≤ y) (h1 : y ≤ 3066) (hk : k < 12) (hd0 : 1 ≤ d) (hd1 : d ≤ lenZ y ((k : Int) + 1)) (w : World) :
    Calls Tryz.prog 103 #[.int .i64 y, .int .i64 ((k : Int) + 1), .int .i64 d] w (IsPair (if dayZ y k d ≤ 400000 then dayZ y k d else 0) (decide (dayZ y k d ≤ 400000)) w) := by
  have c1 := fun W => rlength_any y ((k : Int) + 1) (by omega) (by omega) W
  have hz : dayZ y k d = yzZ y + msZ y k + d - 1 := rfl
  have hl := lenZ_bd y ((k : Int) + 1)
  generalize dayZ y k d = n at *
  have hl1 : d ≤ 31 := by omega
  have C1 := Lib.hid c1
  have HZ := Lib.hid hz
  clear c1 hz
  generalize ez : (if n ≤ 400000 then n else 0) = z
  generalize eb : decide (n ≤ 400000) = b
  have EZ := Lib.hid ez
  have EB := Lib.hid eb
  clear ez eb
  go_enter Tryz.func103, Tryz.ntmps103
  go_wp2_with (first | (go_at_call 136; refine (C1.out _).mono ?_; rintro e w' ⟨rfl, rfl⟩))
  clear hd1 hl
  go_loop [8, 9] (fun s i => ∃ j : Int, 1970 ≤ j ∧ j ≤ y ∧ i = .int .i64 j ∧ s = .int .i64 (d - 1 + yzZ j)) (fun _ i => (y - intOf i).toNat)
  case atStart => exact ⟨1970, by omega, h0, rfl, by simp [yzZ_first]⟩
  case round =>
    obtain ⟨j, hj0, hj, rfl, rfl⟩ := hrel
    have b0 := yzZ_low hj0
    have b1 := yzZ_high hj0
    by_cases hlt : j < y
    · have hs := yzZ_step j
      unfold leapZ at hs
      have c3 := fun W => rleap_any j (by omega) (by omega) W
      cases hlp : leapB j
      all_goals
        rw [hlp] at hs c3
        generalize yzZ j = s at *
        have C3 := Lib.hid c3
        have HS := Lib.hid hs
        clear c3 hs
        go_wp2_with (go_at_call 137; refine (C3.out _).mono ?_; rintro e w' ⟨rfl, rfl⟩)
        go_round
        case rel => exact ⟨j + 1, by omega, by omega, rfl, by have := HS.out; simp at this; rw [this]; go_num⟩
        case measure => simp [intOf]; omega
    · obtain rfl : j = y := by omega
      generalize yzZ j = Y at *
      go_wp2_with fail
      go_loop [8, 10] (fun s i => ∃ l : Nat, l ≤ k ∧ i = .int .i64 ((l : Int) + 1) ∧ s = .int .i64 (d - 1 + Y + msZ j l)) (fun _ i => k + 1 - (intOf i).toNat)
      case atStart => exact ⟨0, Nat.zero_le _, rfl, by simp [msZ]⟩
      case round =>
        obtain ⟨l, hl, rfl, rfl⟩ := hrel
        have b2 := msZ_low j l
        have b3 := msZ_high j l
        by_cases hlt2 : l < k
        · have hs : msZ j (l + 1) = msZ j l + lenZ j ((l : Int) + 1) := rfl
          have c3 := fun W => rlength_any j ((l : Int) + 1) (by omega) (by omega) W
          have hl2 := lenZ_bd j ((l : Int) + 1)
          generalize lenZ j ((l : Int) + 1) = q at *
          generalize msZ j l = s at *
          have C3 := Lib.hid c3
          have HS := Lib.hid hs
          clear c3 hs
          go_wp2_with (go_at_call 136; refine (C3.out _).mono ?_; rintro e w' ⟨rfl, rfl⟩)
          go_round
          case rel => exact ⟨l + 1, by omega, by go_num, by rw [HS.out]; go_num⟩
          case measure => simp [intOf]; omega
        · obtain rfl : l = k := by omega
          have hn : n = d - 1 + Y + msZ j l := by have := HZ.out; omega
          generalize msZ j l = s at *
          have hn0 : 0 ≤ n := by omega
          have hn1 : n ≤ 2000000 := by omega
          rw [show d - 1 + Y + s = n from hn.symm]
          clear hn C1 HZ b0 b1 b2 b3
          by_cases hm : n ≤ 400000
          · have e1 : decide (n ≤ 400000) = true := decide_eq_true hm
            go_wp2_with fail
            go_ret2
            exact ⟨ret_pair (by rw [← EZ.out, if_pos (by omega)]) (by rw [← EB.out, e1]), rfl⟩
          · have e1 : decide (n ≤ 400000) = false := decide_eq_false hm
            go_wp2_with fail
            go_ret2
            exact ⟨ret_pair (by rw [← EZ.out, if_neg (by omega)]) (by rw [← EB.out, e1]), rfl⟩

theorem rdays_any (y m d : Int) (w : World) :
    Calls Tryz.prog 103 #[.int .i64 y, .int .i64 m, .int .i64 d] w (IsPair (daysZ y m d) (daysB y m d) w) := by
  by_cases h : y < 1970 ∨ 3066 < y ∨ m < 1 ∨ 12 < m ∨ d < 1
  · have e := daysB_out (y := y) (m := m) (d := d) (by omega)
    rw [daysZ_no e, e]
    exact rdays_bad y m d h w
  · obtain ⟨k, rfl⟩ : ∃ k : Nat, m = (k : Int) + 1 := ⟨(m - 1).toNat, by omega⟩
    by_cases hd : lenZ y ((k : Int) + 1) < d
    · have e := daysB_out (y := y) (m := (k : Int) + 1) (d := d) (by omega)
      rw [daysZ_no e, e]
      exact rdays_short y k d (by omega) (by omega) (by omega) (by omega) hd w
    · have h2 := rdays_in y k d (by omega) (by omega) (by omega) (by omega) (by omega) w
      by_cases hm : dayZ y k d ≤ 400000
      · obtain ⟨e1, e2⟩ := daysB_of (y := y) (k := k) (d := d) ⟨by omega, by omega, by omega, by omega, hm⟩
        rw [e1, e2]
        rw [if_pos hm, decide_eq_true hm] at h2
        exact h2
      · have e : daysB y ((k : Int) + 1) d = false := by
          cases e : daysB y ((k : Int) + 1) d with
          | false => rfl
          | true =>
            exfalso
            obtain ⟨l, e1, e2, _⟩ := daysB_dt e
            obtain rfl : k = l := by omega
            exact hm e2.n1
        rw [daysZ_no e, e]
        rw [if_neg hm, decide_eq_false hm] at h2
        exact h2

end Go.Proofs.YtmdpjahhhfajaaaGreatDoor
