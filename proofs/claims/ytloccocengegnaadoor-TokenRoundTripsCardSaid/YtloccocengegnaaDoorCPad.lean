/-
  Digits; what padded of the reference returns.
-/
import Derived.Test.YtloccocengegnaaDoorCText
set_option linter.unusedVariables false
namespace Wh

/-- The last digit of a number, as a byte. -/
def dig (n : Nat) : UInt8 := UInt8.ofNat (48 + n % 10)
/-- The last k digits of a number. -/
def digs : Nat → Nat → List UInt8
  | 0, _ => []
  | k + 1, n => digs k (n / 10) ++ [dig n]

theorem dig_nat (n : Nat) : (dig n).toNat = 48 + n % 10 := by
  unfold dig
  rw [UInt8.toNat_ofNat']
  omega

theorem digs_length : ∀ k n, (digs k n).length = k
  | 0, _ => rfl
  | k + 1, n => by simp [digs, digs_length k]

end Wh
namespace Go.Proofs.YtloccocengegnaaDoor
open Go.RowKit Wh

end Go.Proofs.YtloccocengegnaaDoor

