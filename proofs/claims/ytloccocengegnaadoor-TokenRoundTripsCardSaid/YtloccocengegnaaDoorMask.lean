/-
  Plain arithmetic: 'x & m' of an int for a mask m = 2^k - 1. No program is imported.
-/
import Derived.Laws.Entries
import Derived.Laws.BitsLemmas
set_option linter.unusedVariables false
namespace Wh
open Go

theorem and_nat (x : Int) (m : Nat) (hm : m < 9223372036854775808) : bits .and .i64 x (m : Int) = (((x % 18446744073709551616).toNat &&& m : Nat) : Int) := by
  have h1 : (BitVec.ofInt 64 x).toNat = (x % 18446744073709551616).toNat := by
    rw [BitVec.toNat_ofInt]
    rfl
  have h2 : (BitVec.ofInt 64 (m : Int)).toNat = m := by
    rw [BitVec.ofInt_natCast, BitVec.toNat_ofNat]
    exact Nat.mod_eq_of_lt (by omega)
  have h3 : (x % 18446744073709551616).toNat &&& m ≤ m := Nat.and_le_right
  show IntKind.i64.wrap ((BitVec.ofInt 64 x &&& BitVec.ofInt 64 (m : Int)).toNat : Int) = _
  rw [BitVec.toNat_and, h1, h2, IntKind.wrap_i64]
  omega

theorem and_mask (x : Int) (k m : Nat) (hm : m = 2 ^ k - 1) (hk : k ≤ 32) : bits .and .i64 x (m : Int) = (x % 18446744073709551616) % ((2 ^ k : Nat) : Int) := by
  have hp : 2 ^ k ≤ 2 ^ 32 := Nat.pow_le_pow_right (by omega) hk
  have h := and_nat x m (by omega)
  rw [hm, Nat.and_two_pow_sub_one_eq_mod] at h
  rw [hm, h, Int.natCast_emod, Int.toNat_of_nonneg (by omega)]

theorem and_1 (x : Int) : bits .and .i64 x 1 = x % 2 := by
  have h := and_mask x 1 1 rfl (by omega)
  simp only [Nat.reducePow] at h
  rw [show ((1 : Nat) : Int) = 1 from rfl] at h
  omega
theorem and_3 (x : Int) : bits .and .i64 x 3 = x % 4 := by
  have h := and_mask x 2 3 rfl (by omega)
  rw [show ((3 : Nat) : Int) = 3 from rfl] at h
  omega
theorem and_7 (x : Int) : bits .and .i64 x 7 = x % 8 := by
  have h := and_mask x 3 7 rfl (by omega)
  rw [show ((7 : Nat) : Int) = 7 from rfl] at h
  omega
theorem and_15 (x : Int) : bits .and .i64 x 15 = x % 16 := by
  have h := and_mask x 4 15 rfl (by omega)
  rw [show ((15 : Nat) : Int) = 15 from rfl] at h
  omega
theorem and_31 (x : Int) : bits .and .i64 x 31 = x % 32 := by
  have h := and_mask x 5 31 rfl (by omega)
  rw [show ((31 : Nat) : Int) = 31 from rfl] at h
  omega
theorem and_63 (x : Int) : bits .and .i64 x 63 = x % 64 := by
  have h := and_mask x 6 63 rfl (by omega)
  rw [show ((63 : Nat) : Int) = 63 from rfl] at h
  omega
theorem and_255 (x : Int) : bits .and .i64 x 255 = x % 256 := by
  have h := and_mask x 8 255 rfl (by omega)
  rw [show ((255 : Nat) : Int) = 255 from rfl] at h
  omega
theorem and_1023 (x : Int) : bits .and .i64 x 1023 = x % 1024 := by
  have h := and_mask x 10 1023 rfl (by omega)
  rw [show ((1023 : Nat) : Int) = 1023 from rfl] at h
  omega
theorem and_4095 (x : Int) : bits .and .i64 x 4095 = x % 4096 := by
  have h := and_mask x 12 4095 rfl (by omega)
  rw [show ((4095 : Nat) : Int) = 4095 from rfl] at h
  omega
theorem and_65535 (x : Int) : bits .and .i64 x 65535 = x % 65536 := by
  have h := and_mask x 16 65535 rfl (by omega)
  rw [show ((65535 : Nat) : Int) = 65535 from rfl] at h
  omega

end Wh

