/-
  What the small functions of layer 2 and of its reference return.
-/
import Derived.Test.YtknpjfmpflbcfaaRows
import Derived.Test.YtknpjfmpflbcfaaMask
import Derived.Test.YtknpjfmpflbcfaaXMath
import Derived.WalkKit
import Derived.WalkLawsBesides
import Derived.WalkSpells
import Derived.Outline
import Derived.BigQuiet
import Derived.IntWalk
import Derived.Deep.QuietTactic
import Derived.Lib.Hide
import Derived.Below
namespace Go.Proofs.Ytknpjfmpflbcfaa
open Go.RowKit Wh

theorem ret_bool {a b : Bool} (h : a = b) : Ending.returned (.bool a) = .returned (.bool b) := by rw [h]
theorem ret_int {k : IntKind} {a b : Int} (h : a = b) : Ending.returned (.int k a) = .returned (.int k b) := by rw [h]
theorem ret_pair {k : IntKind} {a b : Int} {x y : Bool} (h : a = b) (g : x = y) : Ending.returned (.tuple #[.int k a, .bool x]) = .returned (.tuple #[.int k b, .bool y]) := by rw [h, g]

theorem small_any (x : Int) (w : World) :
    Calls Try.prog 31 #[.int .i64 x] w fun e w' => e = .returned (.bool (smB x)) ∧ w = w' := by
  go_enter Try.func31, Try.ntmps31
  go_wp2
  all_goals
    go_ret
    refine ⟨ret_bool ?_, rfl⟩
    simp_all [smB]
    try omega

theorem rsmall_any (x : Int) (w : World) :
    Calls Try.prog 34 #[.int .i64 x] w fun e w' => e = .returned (.bool (smB x)) ∧ w = w' := by
  go_enter Try.func34, Try.ntmps34
  go_wp2
  all_goals
    go_ret
    refine ⟨ret_bool ?_, rfl⟩
    simp_all [smB]
    try omega

theorem checked_any (x : Int) (w : World) :
    Calls Try.prog 32 #[.int .i64 x] w fun e w' => e = .returned (.tuple #[.int .i64 (chkZ x), .bool (smB x)]) ∧ w = w' := by
  cases h : smB x
  all_goals
    have hz : chkZ x = if smB x = true then x else 0 := rfl
    have HZ := Lib.hid hz
    clear hz
    go_enter Try.func32, Try.ntmps32
    go_wp2_with (go_at_call 31; refine (small_any _ _).mono ?_; rintro e w' ⟨rfl, rfl⟩)
    go_ret2
    exact ⟨ret_pair (by rw [HZ.out, h]; rfl) rfl, rfl⟩

theorem rchecked_any (a b r : Int) (w : World) :
    Calls Try.prog 33 #[.int .i64 a, .int .i64 b, .int .i64 r] w fun e w' => e = .returned (.tuple #[.int .i64 (okZ a b r), .bool (okB a b r)]) ∧ w = w' := by
  have hb : okB a b r = (smB a && smB b && smB r) := rfl
  have hz : okZ a b r = if okB a b r = true then r else 0 := rfl
  have HB := Lib.hid hb
  have HZ := Lib.hid hz
  clear hb hz
  cases h1 : smB a <;> cases h2 : smB b <;> cases h3 : smB r
  all_goals
    go_enter Try.func33, Try.ntmps33
    go_wp2_with (go_at_call 34; refine (rsmall_any _ _).mono ?_; rintro e w' ⟨rfl, rfl⟩)
    go_ret2
    exact ⟨ret_pair (by rw [HZ.out, HB.out, h1, h2, h3]; rfl) (by rw [HB.out, h1, h2, h3]; rfl), rfl⟩

end Go.Proofs.Ytknpjfmpflbcfaa
