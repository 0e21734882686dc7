/-
  The law ValueValidates: value.Valid says what the document says, for any struct.
-/
import Derived.Test.YtnmlbafhdnffgaaLift
import Derived.Test.YtnmlbafhdnffgaaBase
import Derived.Test.YtnmlbafhdnffgaaKeep
import Derived.Deep.RegionHeld3
set_option linter.unusedVariables false
namespace Go.Proofs.Ytnmlbafhdnffgaa
open Go.ChangeShapes Go.WideShapes Go.ChangeAt Go.RowKit Wh

theorem anyV_bounds (n : Int) : 0 ≤ (anyV n).k ∧ (anyV n).k ≤ 4 ∧ -1073741824 ≤ (anyV n).n ∧ (anyV n).n ≤ 1073741824 := by
  rcases valid_cases (anyV_valid n) with ⟨a, b, _⟩ | ⟨a, b, _⟩ | ⟨a, b, _⟩ | ⟨a, b, c, _⟩ | ⟨a, b, _⟩ | ⟨a, b, c, _⟩ <;> omega

set_option maxHeartbeats 400000 in
theorem validates_walk (k m : Int) (s : ByteArray) (n : Int) (h0 : -9223372036854775808 ≤ n) (h1 : n ≤ 9223372036854775807) (w : World) :
    Calls Try.prog 3 #[agg k m s, .int .i64 n] w fun e w' => e = .returned (.bool true) ∧ Below w.heap.size w w' := by
  have b1 := and_1
  have hab := anyV_bounds n
  generalize hx : anyV n = x at hab
  have HX := Lib.hid hx
  clear hx
  obtain ⟨xk, xn, xs⟩ := x
  obtain ⟨_, _, x1, x2⟩ := hab
  go_enter Try.func3, Try.ntmps3
  go_wp2_with fail
  have hA := fun W => any_any n h0 h1 W
  rw [HX.out] at hA
  refine (hA _).mono ?_
  clear hA
  rintro e w1 ⟨rfl, hb1⟩
  obtain ⟨hc, hf⟩ := bcell hb1
  have hs : w.heap.size < w1.heap.size := by have := hb1.size; simp at this; omega
  go_wp2_with fail
  have hB : Below w.heap.size w w1 := ((Below.refl _ _).alloc (Nat.le_refl _) _).trans (hb1.mono (by simp))
  have hB2 : ∀ o, Below w.heap.size w (w1.alloc o).drew := fun o => (hB.alloc (by omega) o).drew
  have hS2 : ∀ o, w.heap.size < (w1.alloc o).drew.heap.size := fun o => by show w.heap.size < (w1.heap.push o).size; rw [Array.size_push]; omega
  have hS3 : ∀ o, w.heap.size ≤ (w1.alloc o).drew.heap.size := fun o => Nat.le_of_lt (hS2 o)
  go_region_held3 (fun w' => w'.cell? ⟨w.heap.size, 0, none⟩ = some (.int .i64 k) ∧ w'.cell? ⟨w.heap.size, 1, none⟩ = some (.int .i64 m) ∧ w'.cell? ⟨w.heap.size, 2, none⟩ = some (.string s) ∧
      w'.cell? ⟨w1.heap.size, 0, none⟩ = some (.int .i64 xk) ∧ w'.cell? ⟨w1.heap.size, 1, none⟩ = some (.int .i64 (xn + n / 1048576 % 2)) ∧ w'.cell? ⟨w1.heap.size, 2, none⟩ = some (.string xs) ∧
      w.heap.size < w'.heap.size ∧ w1.heap.size < w'.heap.size ∧ w.heap.size ≤ w'.heap.size ∧ Below w.heap.size w w')
    (first | exact keepTwo (by assumption) (by assumption) | (refine ⟨?_, ?_, ?_, ?_, ?_, ?_, ?_, ?_, ?_, ?_⟩ <;> first | exact hB2 _ | exact hS2 _ | exact hS3 _ | go_keep))
    (first | (go_at_call 11; refine (valid_any _ _ _ _).mono ?_; rintro e w' ⟨rfl, hb⟩) | (go_at_call 12; refine (rvalid_any _ _ _ _).mono ?_; rintro e w' ⟨rfl, hb⟩) | (go_at_call 13; refine (known_any _).mono ?_; rintro e w' ⟨rfl, hb⟩))
  all_goals
    go_wp2_with fail
  go_ways
  all_goals
    go_ret
    refine ⟨rfl, ?_⟩
    go_split_ands
    assumption

end Go.Proofs.Ytnmlbafhdnffgaa
