/-
  Plain functions on integers: what layer 2 (exact) computes. No program is imported.
-/
import Derived.Laws.Entries
set_option linter.unusedVariables false
namespace Wh

/-- Is it small? -/
def smB (x : Int) : Bool := decide (-1073741824 ≤ x) && decide (x ≤ 1073741824)

theorem smB_true {x : Int} (h0 : -1073741824 ≤ x) (h1 : x ≤ 1073741824) : smB x = true := by simp [smB, h0, h1]
theorem smB_bd {x : Int} (h : smB x = true) : -1073741824 ≤ x ∧ x ≤ 1073741824 := by simpa [smB] using h
theorem smB_out {x : Int} (h : smB x = false) : x < -1073741824 ∨ 1073741824 < x := by simp [smB] at h; omega

/-- A result that is checked. -/
def chkZ (r : Int) : Int := if smB r = true then r else 0

/-- A result of two arguments that are checked with it. -/
def okB (a b r : Int) : Bool := smB a && smB b && smB r
def okZ (a b r : Int) : Int := if okB a b r = true then r else 0

/-- The number near a limit that a number stands for. -/
def nearZ (n : Int) : Int :=
  if n / 256 % 4 = 0 then 1073741827 - n % 8 else if n / 256 % 4 = 1 then n % 8 - 1073741827 else n % 256 - 128

theorem nearZ_bounds (n : Int) : -1073741827 ≤ nearZ n ∧ nearZ n ≤ 1073741827 := by
  unfold nearZ
  split
  · omega
  · split <;> omega

theorem tmod_sign (a b : Int) (hb : b ≠ 0) : (0 ≤ a → 0 ≤ a.tmod b) ∧ (a ≤ 0 → a.tmod b ≤ 0) := by
  constructor
  · intro h
    rw [Int.tmod_eq_emod_of_nonneg h]
    exact Int.emod_nonneg _ hb
  · intro h
    have e : a.tmod b = -((-a).tmod b) := by rw [Int.neg_tmod]; omega
    rw [e, Int.tmod_eq_emod_of_nonneg (by omega)]
    have := Int.emod_nonneg (-a) hb
    omega

theorem floor_pos (a b : Int) (hb : 0 < b) : a / b = if a.tmod b < 0 then a.tdiv b - 1 else a.tdiv b := by
  by_cases ha : 0 ≤ a
  · rw [if_neg (by have := (tmod_sign a b (by omega)).1 ha; omega), Int.tdiv_eq_ediv_of_nonneg ha]
  · have h1 : a.tmod b = -((-a) % b) := by
      have e : a.tmod b = -((-a).tmod b) := by rw [Int.neg_tmod]; omega
      rw [e, Int.tmod_eq_emod_of_nonneg (by omega)]
    have h2 : a.tdiv b = -((-a) / b) := by
      have e : a.tdiv b = -((-a).tdiv b) := by rw [Int.neg_tdiv]; omega
      rw [e, Int.tdiv_eq_ediv_of_nonneg (by omega)]
    have h3 := Int.mul_ediv_add_emod (-a) b
    have h4 := Int.emod_nonneg (-a) (show b ≠ 0 by omega)
    have h5 := Int.emod_lt_of_pos (-a) hb
    rw [h1, h2]
    generalize (-a) / b = q at *
    generalize (-a) % b = r at *
    by_cases hr : -r < 0
    · rw [if_pos hr]
      exact ((Int.ediv_emod_unique (r := b - r) (q := -q - 1) hb).2 ⟨by rw [Int.mul_sub, Int.mul_neg]; omega, by omega, by omega⟩).1
    · rw [if_neg hr]
      exact ((Int.ediv_emod_unique (r := -r) (q := -q) hb).2 ⟨by rw [Int.mul_neg]; omega, by omega, by omega⟩).1

/-- The quotient, rounded toward negative infinity. -/
def floorZ (a b : Int) : Int := if 0 < b then a / b else (-a) / (-b)

theorem floorZ_go (a b : Int) (hb : b ≠ 0) : floorZ a b = if a.tmod b ≠ 0 ∧ (a < 0 ↔ ¬ b < 0) then a.tdiv b - 1 else a.tdiv b := by
  have hs := tmod_sign a b hb
  unfold floorZ
  by_cases h : 0 < b
  · rw [if_pos h, floor_pos a b h]
    by_cases hm : a.tmod b < 0
    · rw [if_pos hm, if_pos ⟨by omega, by omega⟩]
    · rw [if_neg hm, if_neg]
      rintro ⟨h1, h2⟩
      by_cases ha : 0 ≤ a
      · omega
      · have := hs.2 (by omega)
        omega
  · rw [if_neg h, floor_pos (-a) (-b) (by omega)]
    have e1 : (-a).tmod (-b) = -(a.tmod b) := by rw [Int.tmod_neg, Int.neg_tmod]
    have e2 : (-a).tdiv (-b) = a.tdiv b := by rw [Int.tdiv_neg, Int.neg_tdiv]; omega
    rw [e1, e2]
    by_cases hm : -(a.tmod b) < 0
    · rw [if_pos hm, if_pos ⟨by omega, by omega⟩]
    · rw [if_neg hm, if_neg]
      rintro ⟨h1, h2⟩
      by_cases ha : 0 ≤ a
      · have := hs.1 ha
        omega
      · omega

theorem floorZ_rest (a b : Int) (hb : b ≠ 0) : (0 < b → 0 ≤ a - floorZ a b * b ∧ a - floorZ a b * b < b) ∧ (b < 0 → b < a - floorZ a b * b ∧ a - floorZ a b * b ≤ 0) := by
  unfold floorZ
  constructor
  · intro h
    rw [if_pos h]
    have h3 := Int.mul_ediv_add_emod a b
    have h4 := Int.emod_nonneg a hb
    have h5 := Int.emod_lt_of_pos a h
    rw [Int.mul_comm] at h3
    omega
  · intro h
    rw [if_neg (by omega)]
    have h3 := Int.mul_ediv_add_emod (-a) (-b)
    have h4 := Int.emod_nonneg (-a) (show -b ≠ 0 by omega)
    have h5 := Int.emod_lt_of_pos (-a) (show 0 < -b by omega)
    rw [Int.mul_comm, Int.mul_neg] at h3
    omega

theorem tdiv_small (a b : Int) (h0 : -1073741824 ≤ a) (h1 : a ≤ 1073741824) : -1073741824 ≤ a.tdiv b ∧ a.tdiv b ≤ 1073741824 := by
  have h : (a.tdiv b).natAbs ≤ a.natAbs := by
    rw [Int.natAbs_tdiv]
    exact Nat.div_le_self _ _
  omega

theorem floorZ_small (a b : Int) (hb : b ≠ 0) (h0 : -1073741824 ≤ a) (h1 : a ≤ 1073741824) : -1073741825 ≤ floorZ a b ∧ floorZ a b ≤ 1073741824 := by
  have := tdiv_small a b h0 h1
  rw [floorZ_go a b hb]
  split <;> omega

/-- Is there a quotient? -/
def divB (a b : Int) : Bool := smB a && smB b && !(b == 0)
def divZ (a b : Int) : Int := if divB a b = true then floorZ a b else 0
def modZ (a b : Int) : Int := if divB a b = true then a - floorZ a b * b else 0

/-- A product of two numbers of at most 31 bits. -/
theorem mul_bd {a b m n : Int} (a0 : -m ≤ a) (a1 : a ≤ m) (b0 : -n ≤ b) (b1 : b ≤ n) : -(m * n) ≤ a * b ∧ a * b ≤ m * n := by
  have h : (a * b).natAbs ≤ m.natAbs * n.natAbs := by
    rw [Int.natAbs_mul]
    exact Nat.mul_le_mul (by omega) (by omega)
  have e : m * n = ((m.natAbs * n.natAbs : Nat) : Int) := by
    rw [Int.natCast_mul, Int.natAbs_of_nonneg (by omega), Int.natAbs_of_nonneg (by omega)]
  rw [e]
  omega

theorem mul_small {a b : Int} (ha : smB a = true) (hb : smB b = true) : -1152921504606846976 ≤ a * b ∧ a * b ≤ 1152921504606846976 := by
  have := mul_bd (smB_bd ha).1 (smB_bd ha).2 (smB_bd hb).1 (smB_bd hb).2
  omega

/-- -1, 0 or 1. -/
def cmpZ (a b : Int) : Int := if a < b then -1 else if b < a then 1 else 0

theorem cmpZ_neg (a b : Int) : cmpZ b a = -(cmpZ a b) := by
  unfold cmpZ
  (repeat' split) <;> omega

theorem cmpZ_vals (a b : Int) : -1 ≤ cmpZ a b ∧ cmpZ a b ≤ 1 := by
  unfold cmpZ
  (repeat' split) <;> omega

theorem cmpZ_le (a b : Int) : cmpZ a b ≤ 0 ↔ a ≤ b := by
  unfold cmpZ
  (repeat' split) <;> omega

end Wh
