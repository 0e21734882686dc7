/-
  Plain arithmetic: 'x & m' of an int for a mask m, and the inputs that the laws build from numbers. No program is imported.
-/
import Derived.Laws.Entries
import Derived.Laws.BitsLemmas
import Derived.Test.YtnmlbafhdnffgaaPlain
set_option linter.unusedVariables false
namespace Wh
open Go

theorem and_nat (x : Int) (m : Nat) (hm : m < 9223372036854775808) : bits .and .i64 x (m : Int) = (((x % 18446744073709551616).toNat &&& m : Nat) : Int) := by
  have h1 : (BitVec.ofInt 64 x).toNat = (x % 18446744073709551616).toNat := by
    rw [BitVec.toNat_ofInt]
    rfl
  have h2 : (BitVec.ofInt 64 (m : Int)).toNat = m := by
    rw [BitVec.ofInt_natCast, BitVec.toNat_ofNat]
    exact Nat.mod_eq_of_lt (by omega)
  have h3 : (x % 18446744073709551616).toNat &&& m ≤ m := Nat.and_le_right
  show IntKind.i64.wrap ((BitVec.ofInt 64 x &&& BitVec.ofInt 64 (m : Int)).toNat : Int) = _
  rw [BitVec.toNat_and, h1, h2, IntKind.wrap_i64]
  omega

theorem and_65535 (x : Int) : bits .and .i64 x 65535 = x % 65536 := by
  have h := and_nat x 65535 (by omega)
  rw [show (65535 : Nat) = 2 ^ 16 - 1 from rfl, Nat.and_two_pow_sub_one_eq_mod] at h
  have e : ((2 ^ 16 - 1 : Nat) : Int) = 65535 := rfl
  rw [e] at h
  rw [h]
  omega
theorem and_31 (x : Int) : bits .and .i64 x 31 = x % 32 := by
  have h := and_nat x 31 (by omega)
  rw [show (31 : Nat) = 2 ^ 5 - 1 from rfl, Nat.and_two_pow_sub_one_eq_mod] at h
  have e : ((2 ^ 5 - 1 : Nat) : Int) = 31 := rfl
  rw [e] at h
  rw [h]
  omega
theorem and_15 (x : Int) : bits .and .i64 x 15 = x % 16 := by
  have h := and_nat x 15 (by omega)
  rw [show (15 : Nat) = 2 ^ 4 - 1 from rfl, Nat.and_two_pow_sub_one_eq_mod] at h
  have e : ((2 ^ 4 - 1 : Nat) : Int) = 15 := rfl
  rw [e] at h
  rw [h]
  omega
theorem and_7 (x : Int) : bits .and .i64 x 7 = x % 8 := by
  have h := and_nat x 7 (by omega)
  rw [show (7 : Nat) = 2 ^ 3 - 1 from rfl, Nat.and_two_pow_sub_one_eq_mod] at h
  have e : ((2 ^ 3 - 1 : Nat) : Int) = 7 := rfl
  rw [e] at h
  rw [h]
  omega
theorem and_3 (x : Int) : bits .and .i64 x 3 = x % 4 := by
  have h := and_nat x 3 (by omega)
  rw [show (3 : Nat) = 2 ^ 2 - 1 from rfl, Nat.and_two_pow_sub_one_eq_mod] at h
  have e : ((2 ^ 2 - 1 : Nat) : Int) = 3 := rfl
  rw [e] at h
  rw [h]
  omega
theorem and_1 (x : Int) : bits .and .i64 x 1 = x % 2 := by
  have h := and_nat x 1 (by omega)
  rw [show (1 : Nat) = 2 ^ 1 - 1 from rfl, Nat.and_two_pow_sub_one_eq_mod] at h
  have e : ((2 ^ 1 - 1 : Nat) : Int) = 1 := rfl
  rw [e] at h
  rw [h]
  omega

/-- An instant. -/
def momentZ (n : Int) : Int :=
  if n % 65536 / 256 % 16 = 0 then [0, 1, 575999999, 575999998, 1439, 1440].getD (n % 65536 % 6).toNat 0
  else 144000 + n % 65536 / 8 % 4 * 1440 + n % 65536 % 7 * 200 + n % 65536 / 32 % 2 * 1439 - 600

theorem momentZ_bounds (n : Int) : 0 ≤ momentZ n ∧ momentZ n ≤ 575999999 := by
  unfold momentZ
  split
  · generalize hj : (n % 65536 % 6).toNat = j
    have hj6 : j < 6 := by omega
    match j, hj6 with
    | 0, _ => decide
    | 1, _ => decide
    | 2, _ => decide
    | 3, _ => decide
    | 4, _ => decide
    | 5, _ => decide
  · omega

/-- An integer value. -/
def intZ (n : Int) : Int :=
  if n % 65536 / 256 % 32 = 0 then 1073741824 - n % 65536 % 2 else if n % 65536 / 256 % 32 = 1 then n % 65536 % 4 - 1073741824 else n % 65536 % 7 - 2

def texts : List ByteArray := [⟨#[97]⟩, ⟨#[98]⟩, ⟨#[99]⟩, ⟨#[]⟩, ⟨#[105, 116, 39, 115]⟩, ⟨#[97, 32, 98]⟩]

/-- The value of a kind that a number stands for. -/
def valueV (k n : Int) : V :=
  if k = 1 then ⟨1, n % 65536 % 2, ⟨#[]⟩⟩ else if k = 2 then ⟨2, intZ n, ⟨#[]⟩⟩ else if k = 3 then ⟨3, 0, texts.getD (n % 65536 % 6).toNat ⟨#[]⟩⟩ else if k = 4 then ⟨4, momentZ n, ⟨#[]⟩⟩ else ⟨0, 0, ⟨#[]⟩⟩

/-- The value that a number stands for. -/
def anyV (n : Int) : V := valueV (n.tmod 5) (n.tdiv 5)

theorem valid_null : validB 0 0 ⟨#[]⟩ = true := by simp [validB, Lib.toList_data]

theorem valueV_valid (k n : Int) : validB (valueV k n).k (valueV k n).n (valueV k n).s = true := by
  unfold valueV
  split
  · have : n % 2 = 0 ∨ n % 2 = 1 := by omega
    simpa [validB, Lib.toList_data] using this
  · split
    · have : -1073741824 ≤ intZ n ∧ intZ n ≤ 1073741824 := by unfold intZ; split <;> (try split) <;> omega
      simp [validB, Lib.toList_data, this.1, this.2]
    · split
      · generalize hj : (n % 65536 % 6).toNat = j
        have hj6 : j < 6 := by omega
        match j, hj6 with
        | 0, _ => decide
        | 1, _ => decide
        | 2, _ => decide
        | 3, _ => decide
        | 4, _ => decide
        | 5, _ => decide
      · split
        · have := momentZ_bounds n
          simp [validB, Lib.toList_data, this.1, this.2]
        · exact valid_null

theorem anyV_valid (n : Int) : validB (anyV n).k (anyV n).n (anyV n).s = true := valueV_valid _ _

/-- The natural number for a position in a list of numbers. -/
def atZ (zs : List Int) (i : Int) : Int :=
  if zs.length = 0 then i % 65536 else zs.getD (i % 65536 % zs.length).toNat 0 % 65536 + i % 65536 / zs.length

theorem atZ_bounds (zs : List Int) (i : Int) : 0 ≤ atZ zs i ∧ atZ zs i ≤ 131070 := by
  unfold atZ
  split
  · omega
  · rename_i h
    have h1 : 0 ≤ i % 65536 / zs.length := Int.ediv_nonneg (by omega) (by omega)
    have h2 : i % 65536 / (zs.length : Int) ≤ i % 65536 := Int.ediv_le_self _ (by omega)
    omega

/-- A row of n values, from a list of numbers. -/
def rowV (zs : List Int) (n : Nat) : List V := (List.range n).map fun (i : Nat) => anyV (atZ zs (i : Int))

end Wh
