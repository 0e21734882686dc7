/-
  The law ExactAdds: sums, differences and products are what the document says.
-/
import Derived.Test.YtknpjfmpflbcfaaXKnown
set_option linter.unusedVariables false
namespace Go.Proofs.Ytknpjfmpflbcfaa
open Go.RowKit Wh

set_option maxRecDepth 100000 in
set_option maxHeartbeats 400000 in
theorem adds_walk (a : Int) (_ : -9223372036854775808 ≤ a) (_ : a ≤ 9223372036854775807) (b : Int) (_ : -9223372036854775808 ≤ b) (_ : b ≤ 9223372036854775807) (w : World) :
    Calls Try.prog 3 #[.int .i64 a, .int .i64 b] w fun e w' => e = .returned (.bool true) ∧ Below w.heap.size w w' := by
  go_enter Try.func3, Try.ntmps3
  go_wp2_with fail
  go_loop [0, 1, 5] (fun x y i => ∃ (m n : Int) (k : Nat), k ≤ 2 ∧ x = .int .i64 m ∧ y = .int .i64 n ∧ i = .int .i64 k) (fun _ _ i => 2 - (intOf i).toNat)
  case atStart => exact ⟨a, b, 0, by omega, rfl, rfl, rfl⟩
  case round =>
    obtain ⟨m, n, k, hk, rfl, rfl, rfl⟩ := hrel
    by_cases hlt : k < 2
    · have c1 := fun W => add_any m n W
      have c2 := fun W => radd_any m n W
      have c3 := fun W => sub_any m n W
      have c4 := fun W => rsub_any m n W
      have c5 := fun W => mul_any m n W
      have c6 := fun W => rmul_any m n W
      generalize okZ m n (m + n) = z1 at c1 c2
      generalize okB m n (m + n) = x1 at c1 c2
      generalize okZ m n (m - n) = z2 at c3 c4
      generalize okB m n (m - n) = x2 at c3 c4
      generalize okZ m n (m * n) = z3 at c5 c6
      generalize okB m n (m * n) = x3 at c5 c6
      have C1 := Lib.hid c1
      have C2 := Lib.hid c2
      have C3 := Lib.hid c3
      have C4 := Lib.hid c4
      have C5 := Lib.hid c5
      have C6 := Lib.hid c6
      clear c1 c2 c3 c4 c5 c6
      go_wp2_with (first | (go_at_call 10; refine (C1.out _).mono ?_; rintro e w' ⟨rfl, rfl⟩) | (go_at_call 11; refine (C2.out _).mono ?_; rintro e w' ⟨rfl, rfl⟩) | (go_at_call 12; refine (C3.out _).mono ?_; rintro e w' ⟨rfl, rfl⟩) | (go_at_call 13; refine (C4.out _).mono ?_; rintro e w' ⟨rfl, rfl⟩) | (go_at_call 14; refine (C5.out _).mono ?_; rintro e w' ⟨rfl, rfl⟩) | (go_at_call 15; refine (C6.out _).mono ?_; rintro e w' ⟨rfl, rfl⟩) | (go_at_call 16; refine (near_any _ _).mono ?_; rintro e w' ⟨rfl, rfl⟩))
      go_round
      case rel => exact ⟨nearZ m, nearZ n, k + 1, by omega, rfl, rfl, by go_num⟩
      case measure => simp [intOf]; omega
    · go_wp2_with fail
      refine (known_any _).mono ?_
      rintro e w' ⟨rfl, hb⟩
      go_wp2_with fail
      go_ret
      exact ⟨rfl, hb⟩

end Go.Proofs.Ytknpjfmpflbcfaa
