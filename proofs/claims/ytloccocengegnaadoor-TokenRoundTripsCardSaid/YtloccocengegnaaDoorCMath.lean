/-
  Plain functions on integers: leap years, lengths of months, day numbers (layer 3). No program is imported.
-/
import Derived.Laws.Entries
set_option linter.unusedVariables false
namespace Wh

/-- Is it a leap year? -/
def leapB (y : Int) : Bool := (decide (y % 4 = 0) && !decide (y % 100 = 0)) || decide (y % 400 = 0)
def leapZ (y : Int) : Int := if leapB y = true then 1 else 0

theorem leapZ_bd (y : Int) : 0 ≤ leapZ y ∧ leapZ y ≤ 1 := by unfold leapZ; split <;> omega

/-- The number of days of a month. -/
def lenZ (y m : Int) : Int := if m = 2 then 28 + leapZ y else if m = 4 ∨ m = 6 ∨ m = 9 ∨ m = 11 then 30 else 31

theorem lenZ_bd (y m : Int) : 28 ≤ lenZ y m ∧ lenZ y m ≤ 31 := by
  have := leapZ_bd y
  unfold lenZ
  split
  · omega
  · split <;> omega

/-- The number of leap years from year 1 to a year. -/
def lyZ (y : Int) : Int := y / 4 - y / 100 + y / 400

theorem lyZ_step (y : Int) : lyZ y = lyZ (y - 1) + leapZ y := by
  unfold lyZ leapZ leapB
  by_cases h4 : y % 4 = 0
  · by_cases h100 : y % 100 = 0
    · by_cases h400 : y % 400 = 0
      · simp [h4, h100, h400]; omega
      · simp [h4, h100, h400]; omega
    · have h400 : ¬ y % 400 = 0 := by omega
      simp [h4, h100, h400]; omega
  · have h100 : ¬ y % 100 = 0 := by omega
    have h400 : ¬ y % 400 = 0 := by omega
    simp [h4, h100, h400]; omega

/-- The number of days from 1970-01-01 to the first day of a year. -/
def yzZ (y : Int) : Int := (y - 1970) * 365 + lyZ (y - 1) - 477

theorem yzZ_first : yzZ 1970 = 0 := by decide

theorem yzZ_step (y : Int) : yzZ (y + 1) = yzZ y + 365 + leapZ y := by
  unfold yzZ
  have h := lyZ_step y
  rw [show y + 1 - 1 = y by omega, h]
  omega

theorem yzZ_low {y : Int} (h : 1970 ≤ y) : (y - 1970) * 365 ≤ yzZ y := by
  unfold yzZ lyZ
  omega

theorem yzZ_high {y : Int} (h : 1970 ≤ y) : yzZ y ≤ (y - 1970) * 366 := by
  unfold yzZ lyZ
  omega

/-- The number of days of a year before its month k + 1. -/
def msZ (y : Int) : Nat → Int
  | 0 => 0
  | k + 1 => msZ y k + lenZ y ((k : Int) + 1)

theorem msZ_low (y : Int) : ∀ k : Nat, 28 * (k : Int) ≤ msZ y k
  | 0 => by simp [msZ]
  | k + 1 => by
    have := msZ_low y k
    have := lenZ_bd y ((k : Int) + 1)
    simp only [msZ, Int.natCast_add]
    omega

theorem msZ_high (y : Int) : ∀ k : Nat, msZ y k ≤ 31 * (k : Int)
  | 0 => by simp [msZ]
  | k + 1 => by
    have := msZ_high y k
    have := lenZ_bd y ((k : Int) + 1)
    simp only [msZ, Int.natCast_add]
    omega

theorem msZ_mono (y : Int) {i j : Nat} (h : i ≤ j) : msZ y i ≤ msZ y j := by
  induction j with
  | zero => obtain rfl : i = 0 := by omega
            exact Int.le_refl _
  | succ j ih =>
    by_cases e : i = j + 1
    · subst e; exact Int.le_refl _
    · have := ih (by omega)
      have := lenZ_bd y ((j : Int) + 1)
      simp only [msZ]
      omega

theorem msZ_year (y : Int) : msZ y 12 = 365 + leapZ y := by
  simp only [msZ, lenZ]
  simp
  omega

/-- The day number of a day of a year's month k + 1. -/
def dayZ (y : Int) (k : Nat) (d : Int) : Int := yzZ y + msZ y k + d - 1

/-- Is it a date with a day number? -/
structure Dt (y : Int) (k : Nat) (d : Int) : Prop where
  y0 : 1970 ≤ y
  k1 : k < 12
  d0 : 1 ≤ d
  d1 : d ≤ lenZ y ((k : Int) + 1)
  n1 : dayZ y k d ≤ 400000

theorem Dt.year {y : Int} {k : Nat} {d : Int} (h : Dt y k d) : y ≤ 3065 := by
  have h1 := h.n1
  unfold dayZ at h1
  have := yzZ_low h.y0
  have := msZ_low y k
  have := h.d0
  omega

theorem Dt.n0 {y : Int} {k : Nat} {d : Int} (h : Dt y k d) : 0 ≤ dayZ y k d := by
  unfold dayZ
  have := yzZ_low h.y0
  have := h.y0
  have := msZ_low y k
  have := h.d0
  omega

/-- The days of one year come before those of the next one. -/
theorem yzZ_mono {y z : Int} (h : y < z) : yzZ y + 365 + leapZ y ≤ yzZ z := by
  obtain ⟨n, rfl⟩ : ∃ n : Nat, z = y + 1 + n := ⟨(z - y - 1).toNat, by omega⟩
  clear h
  induction n with
  | zero => rw [show y + 1 + ((0 : Nat) : Int) = y + 1 by omega, yzZ_step]; exact Int.le_refl _
  | succ n ih =>
    have h1 := yzZ_step (y + 1 + (n : Int))
    have := leapZ_bd (y + 1 + (n : Int))
    rw [show y + 1 + ((n + 1 : Nat) : Int) = y + 1 + (n : Int) + 1 by omega, h1]
    omega

theorem day_in_year {y : Int} {k : Nat} {d : Int} (hk : k < 12) (h0 : 1 ≤ d) (h1 : d ≤ lenZ y ((k : Int) + 1)) : 0 ≤ msZ y k + d - 1 ∧ msZ y k + d - 1 < 365 + leapZ y := by
  have a := msZ_low y k
  have b := msZ_mono y (show k + 1 ≤ 12 by omega)
  rw [msZ_year] at b
  simp only [msZ] at b
  omega

/-- A day number has one date. -/
theorem date_one {y z : Int} {k l : Nat} {d e : Int} (hk : k < 12) (hl : l < 12) (hd : 1 ≤ d) (hd1 : d ≤ lenZ y ((k : Int) + 1)) (he : 1 ≤ e) (he1 : e ≤ lenZ z ((l : Int) + 1)) (h : dayZ y k d = dayZ z l e) : y = z ∧ k = l ∧ d = e := by
  have a := day_in_year hk hd hd1
  have b := day_in_year hl he he1
  unfold dayZ at h
  rcases (show y < z ∨ y = z ∨ z < y by omega) with c | c | c
  · have := yzZ_mono c
    omega
  · subst c
    refine ⟨rfl, ?_⟩
    rcases (show k < l ∨ k = l ∨ l < k by omega) with c | c | c
    · have := msZ_mono y (show k + 1 ≤ l by omega)
      simp only [msZ] at this
      omega
    · subst c
      exact ⟨rfl, by omega⟩
    · have := msZ_mono y (show l + 1 ≤ k by omega)
      simp only [msZ] at this
      omega
  · have := yzZ_mono c
    omega

/-- A year that begins no later than a day is no later than its year. -/
theorem year_le {x y : Int} {k : Nat} {d : Int} (hk : k < 12) (hd : 1 ≤ d) (hd1 : d ≤ lenZ y ((k : Int) + 1)) (h : yzZ x ≤ dayZ y k d) : x ≤ y := by
  have a := day_in_year hk hd hd1
  unfold dayZ at h
  by_cases c : y < x
  · have := yzZ_mono c
    omega
  · omega

/-- The date of the next day. -/
theorem date_next {y : Int} {k : Nat} {d : Int} (hk : k < 12) (h0 : 1 ≤ d) (h1 : d ≤ lenZ y ((k : Int) + 1)) :
    ∃ (z : Int) (l : Nat) (e : Int), l < 12 ∧ 1 ≤ e ∧ e ≤ lenZ z ((l : Int) + 1) ∧ dayZ z l e = dayZ y k d + 1 ∧ (z = y ∧ l = k ∧ e = d + 1 ∨ e = 1 ∧ (z = y ∧ l = k + 1 ∨ z = y + 1 ∧ l = 0 ∧ k = 11)) := by
  by_cases a : d < lenZ y ((k : Int) + 1)
  · exact ⟨y, k, d + 1, hk, by omega, by omega, by unfold dayZ; omega, .inl ⟨rfl, rfl, rfl⟩⟩
  · by_cases b : k < 11
    · refine ⟨y, k + 1, 1, by omega, by omega, Int.le_trans (by decide) (lenZ_bd _ _).1, ?_, .inr ⟨rfl, .inl ⟨rfl, rfl⟩⟩⟩
      unfold dayZ
      simp only [msZ]
      omega
    · obtain rfl : k = 11 := by omega
      refine ⟨y + 1, 0, 1, by omega, by omega, Int.le_trans (by decide) (lenZ_bd _ _).1, ?_, .inr ⟨rfl, .inr ⟨rfl, rfl, rfl⟩⟩⟩
      unfold dayZ
      have h2 := msZ_year y
      have h3 := yzZ_step y
      simp only [msZ] at h2 ⊢
      omega

/-- Every day number has a date. -/
theorem date_some (n : Nat) : ∃ (y : Int) (k : Nat) (d : Int), 1970 ≤ y ∧ k < 12 ∧ 1 ≤ d ∧ d ≤ lenZ y ((k : Int) + 1) ∧ dayZ y k d = n := by
  induction n with
  | zero => exact ⟨1970, 0, 1, by omega, by omega, by omega, by decide, by decide⟩
  | succ n ih =>
    obtain ⟨y, k, d, h0, hk, hd, hd1, e⟩ := ih
    obtain ⟨z, l, f, hl, hf, hf1, e2, h⟩ := date_next hk hd hd1
    exact ⟨z, l, f, by omega, hl, hf, hf1, by omega⟩

theorem date_of {n : Int} (h0 : 0 ≤ n) (h1 : n ≤ 400000) : ∃ (y : Int) (k : Nat) (d : Int), Dt y k d ∧ dayZ y k d = n := by
  obtain ⟨y, k, d, a, b, c, e, f⟩ := date_some n.toNat
  exact ⟨y, k, d, ⟨a, b, c, e, by omega⟩, by omega⟩

/-- Is a year, month and day a date with a day number? -/
def daysB (y m d : Int) : Bool := decide (1970 ≤ y) && decide (1 ≤ m) && decide (m ≤ 12) && decide (1 ≤ d) && decide (d ≤ lenZ y m) && decide (dayZ y (m - 1).toNat d ≤ 400000)
def daysZ (y m d : Int) : Int := if daysB y m d = true then dayZ y (m - 1).toNat d else 0

theorem daysB_dt {y m d : Int} (h : daysB y m d = true) : ∃ k : Nat, m = (k : Int) + 1 ∧ Dt y k d ∧ daysZ y m d = dayZ y k d := by
  have hz : daysZ y m d = dayZ y (m - 1).toNat d := by unfold daysZ; rw [if_pos h]
  unfold daysB at h
  simp only [Bool.and_eq_true, decide_eq_true_eq] at h
  obtain ⟨⟨⟨⟨⟨h0, h1⟩, h2⟩, h3⟩, h4⟩, h5⟩ := h
  refine ⟨(m - 1).toNat, by omega, ⟨h0, by omega, h3, ?_, h5⟩, hz⟩
  rw [show (((m - 1).toNat : Nat) : Int) + 1 = m by omega]
  exact h4

theorem daysB_of {y : Int} {k : Nat} {d : Int} (h : Dt y k d) : daysB y ((k : Int) + 1) d = true ∧ daysZ y ((k : Int) + 1) d = dayZ y k d := by
  have e : ((k : Int) + 1 - 1).toNat = k := by omega
  have hb : daysB y ((k : Int) + 1) d = true := by
    unfold daysB
    rw [e]
    simp only [Bool.and_eq_true, decide_eq_true_eq]
    have := h.k1
    exact ⟨⟨⟨⟨⟨h.y0, by omega⟩, by omega⟩, h.d0⟩, h.d1⟩, h.n1⟩
  exact ⟨hb, by unfold daysZ; rw [if_pos hb, e]⟩

theorem daysZ_no {y m d : Int} (h : daysB y m d = false) : daysZ y m d = 0 := by unfold daysZ; rw [h]; rfl

/-- What is false of a date that does not exist. -/
theorem daysB_parts {y m d : Int} (h : daysB y m d = false) (h0 : 1970 ≤ y) (h1 : 1 ≤ m) (h2 : m ≤ 12) (h3 : 1 ≤ d) (h4 : d ≤ lenZ y m) : 400000 < dayZ y (m - 1).toNat d := by
  unfold daysB at h
  rw [decide_eq_true h0, decide_eq_true h1, decide_eq_true h2, decide_eq_true h3, decide_eq_true h4] at h
  have h5 := of_decide_eq_false (show decide (dayZ y (m - 1).toNat d ≤ 400000) = false from h)
  omega

theorem daysB_out {y m d : Int} (h : y < 1970 ∨ 3065 < y ∨ m < 1 ∨ 12 < m ∨ d < 1 ∨ lenZ y m < d) : daysB y m d = false := by
  cases e : daysB y m d with
  | false => rfl
  | true =>
    exfalso
    obtain ⟨k, rfl, hd, _⟩ := daysB_dt e
    have a := hd.year
    have b := hd.y0
    have c := hd.k1
    have := hd.d0
    have := hd.d1
    omega

end Wh

