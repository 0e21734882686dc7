/-
  For every layer: the instants that the laws draw (warehousebase.Moment).
-/
import Derived.Test.YtdhhhmehkldliaaRows
import Derived.Test.YtdhhhmehkldliaaMask
import Derived.WalkKit
import Derived.Below
import Derived.IntWalk
import Derived.Lib.Hide
set_option linter.unusedVariables false
namespace Wh

/-- An instant. -/
def momentZ (n : Int) : Int :=
  if n % 65536 / 256 % 16 = 0 then [0, 1, 575999999, 575999998, 1439, 1440].getD (n % 65536 % 6).toNat 0
  else 144000 + n % 65536 / 8 % 4 * 1440 + n % 65536 % 7 * 200 + n % 65536 / 32 % 2 * 1439 - 600

theorem momentZ_bounds (n : Int) : 0 ≤ momentZ n ∧ momentZ n ≤ 575999999 := by
  unfold momentZ
  split
  · generalize hj : (n % 65536 % 6).toNat = j
    have hj6 : j < 6 := by omega
    match j, hj6 with
    | 0, _ => decide
    | 1, _ => decide
    | 2, _ => decide
    | 3, _ => decide
    | 4, _ => decide
    | 5, _ => decide
  · omega

end Wh
namespace Go.Proofs.Ytdhhhmehkldliaa
open Go.RowKit Wh

theorem pick6 (a b c d e f : Int) (j : Nat) (h : j < 6) :
    [Value.int .i64 a, Value.int .i64 b, Value.int .i64 c, Value.int .i64 d, Value.int .i64 e, Value.int .i64 f][j]? = some (.int .i64 ([a, b, c, d, e, f].getD j 0)) := by
  match j, h with
  | 0, _ => rfl
  | 1, _ => rfl
  | 2, _ => rfl
  | 3, _ => rfl
  | 4, _ => rfl
  | 5, _ => rfl

theorem moment_any (n : Int) (w : World) :
    Calls Try.prog 78 #[.int .i64 n] w fun e w' => e = .returned (.int .i64 (momentZ n)) ∧ Below w.heap.size w w' := by
  have b1 := and_65535
  have b2 := and_15
  have b3 := and_3
  have b4 := and_1
  have h0 : 0 ≤ n % 65536 := by omega
  have h1 : n % 65536 < 65536 := by omega
  by_cases hz : n % 65536 / 256 % 16 = 0
  · have hb : (n % 65536 / 256 % 16 == 0) = true := by rw [hz]; rfl
    have hm : momentZ n = [0, 1, 575999999, 575999998, 1439, 1440].getD (n % 65536 % 6).toNat 0 := by unfold momentZ; rw [if_pos hz]
    have hp := pick6 0 1 575999999 575999998 1439 1440 (n % 65536 % 6).toNat (by omega)
    rw [← hm] at hp
    clear hm hz
    go_enter Try.func78, Try.ntmps78
    go_wp2_with fail
    go_ret
    exact ⟨rfl, (Below.refl _ _).alloc (Nat.le_refl _) _⟩
  · have hb : (n % 65536 / 256 % 16 == 0) = false := by simpa using hz
    have hm : momentZ n = 144000 + n % 65536 / 8 % 4 * 1440 + n % 65536 % 7 * 200 + n % 65536 / 32 % 2 * 1439 - 600 := by unfold momentZ; rw [if_neg hz]
    have HM := Lib.hid hm
    clear hm hz
    go_enter Try.func78, Try.ntmps78
    go_wp2_with fail
    go_ret
    exact ⟨by rw [HM.out]; rfl, Below.refl _ _⟩

end Go.Proofs.Ytdhhhmehkldliaa
