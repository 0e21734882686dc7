/-
  The law ExactDivides: division and remainder are what the document says, and fit together.
-/
import Derived.Test.YtknpjfmpflbcfaaXKnown
set_option linter.unusedVariables false
namespace Go.Proofs.Ytknpjfmpflbcfaa
open Go.RowKit Wh

set_option maxRecDepth 100000 in
set_option maxHeartbeats 1000000 in
theorem divides_walk (a : Int) (_ : -9223372036854775808 ≤ a) (_ : a ≤ 9223372036854775807) (b : Int) (_ : -9223372036854775808 ≤ b) (_ : b ≤ 9223372036854775807) (w : World) :
    Calls Try.prog 4 #[.int .i64 a, .int .i64 b] w fun e w' => e = .returned (.bool true) ∧ Below w.heap.size w w' := by
  go_enter Try.func4, Try.ntmps4
  go_wp2_with fail
  go_loop [0, 1, 5] (fun x y i => ∃ (m n : Int) (k : Nat), k ≤ 2 ∧ x = .int .i64 m ∧ y = .int .i64 n ∧ i = .int .i64 k) (fun _ _ i => 2 - (intOf i).toNat)
  case atStart => exact ⟨a, b, 0, by omega, rfl, rfl, rfl⟩
  case round =>
    obtain ⟨m, n, k, hk, rfl, rfl, rfl⟩ := hrel
    by_cases hlt : k < 2
    · have c1 := fun W => divide_any m n W
      have c2 := fun W => rdivide_any m n W
      have c3 := fun W => modulo_any m n W
      have c4 := fun W => rmodulo_any m n W
      by_cases hd : divB m n = true
      · obtain ⟨h1, h2, h3⟩ := divB_parts hd
        have b1 := smB_bd h1
        have b2 := smB_bd h2
        have b0 : n ≠ 0 := by simpa using h3
        have hr := floorZ_rest m n b0
        rw [(divB_yes hd).1, hd] at c1 c2
        rw [(divB_yes hd).2, hd] at c3 c4
        generalize floorZ m n = q at *
        have q0 : -9223372036854775808 ≤ q * n := by omega
        have q1 : q * n ≤ 9223372036854775807 := by omega
        generalize hu : m - q * n = u at *
        have hs : q * n + u = m := by omega
        have q2 : -9223372036854775808 ≤ q * n + u := by omega
        have q3 : q * n + u ≤ 9223372036854775807 := by omega
        have HS2 : (q * n + u != m) = false := by simpa using hs
        have HR := Lib.hid hr
        have C1 := Lib.hid c1
        have C2 := Lib.hid c2
        have C3 := Lib.hid c3
        have C4 := Lib.hid c4
        clear c1 c2 c3 c4 hd hu hs hr h1 h2 h3
        rcases (show 0 < n ∨ n < 0 by omega) with hn | hn
        · have hr := HR.out.1 hn
          have u0 := hr.1
          have u1 := hr.2
          clear hr
          go_wp2_with (first | (go_at_call 18; refine (C1.out _).mono ?_; rintro e w' ⟨rfl, rfl⟩) | (go_at_call 19; refine (C2.out _).mono ?_; rintro e w' ⟨rfl, rfl⟩) | (go_at_call 20; refine (C3.out _).mono ?_; rintro e w' ⟨rfl, rfl⟩) | (go_at_call 21; refine (C4.out _).mono ?_; rintro e w' ⟨rfl, rfl⟩) | (go_at_call 16; refine (near_any _ _).mono ?_; rintro e w' ⟨rfl, rfl⟩))
          go_round
          case rel => exact ⟨nearZ m, nearZ n, k + 1, by omega, rfl, rfl, by go_num⟩
          case measure => simp [intOf]; omega
        · have hr := HR.out.2 hn
          have u0 := hr.1
          have u1 := hr.2
          clear hr
          go_wp2_with (first | (go_at_call 18; refine (C1.out _).mono ?_; rintro e w' ⟨rfl, rfl⟩) | (go_at_call 19; refine (C2.out _).mono ?_; rintro e w' ⟨rfl, rfl⟩) | (go_at_call 20; refine (C3.out _).mono ?_; rintro e w' ⟨rfl, rfl⟩) | (go_at_call 21; refine (C4.out _).mono ?_; rintro e w' ⟨rfl, rfl⟩) | (go_at_call 16; refine (near_any _ _).mono ?_; rintro e w' ⟨rfl, rfl⟩))
          go_round
          case rel => exact ⟨nearZ m, nearZ n, k + 1, by omega, rfl, rfl, by go_num⟩
          case measure => simp [intOf]; omega
      · have hf : divB m n = false := by simpa using hd
        rw [(divB_of hf).1, hf] at c1 c2
        rw [(divB_of hf).2, hf] at c3 c4
        have C1 := Lib.hid c1
        have C2 := Lib.hid c2
        have C3 := Lib.hid c3
        have C4 := Lib.hid c4
        clear c1 c2 c3 c4 hd hf
        go_wp2_with (first | (go_at_call 18; refine (C1.out _).mono ?_; rintro e w' ⟨rfl, rfl⟩) | (go_at_call 19; refine (C2.out _).mono ?_; rintro e w' ⟨rfl, rfl⟩) | (go_at_call 20; refine (C3.out _).mono ?_; rintro e w' ⟨rfl, rfl⟩) | (go_at_call 21; refine (C4.out _).mono ?_; rintro e w' ⟨rfl, rfl⟩) | (go_at_call 16; refine (near_any _ _).mono ?_; rintro e w' ⟨rfl, rfl⟩))
        go_round
        case rel => exact ⟨nearZ m, nearZ n, k + 1, by omega, rfl, rfl, by go_num⟩
        case measure => simp [intOf]; omega
    · go_wp2_with fail
      refine (known_any _).mono ?_
      rintro e w' ⟨rfl, hb⟩
      go_wp2_with fail
      go_ret
      exact ⟨rfl, hb⟩

end Go.Proofs.Ytknpjfmpflbcfaa
