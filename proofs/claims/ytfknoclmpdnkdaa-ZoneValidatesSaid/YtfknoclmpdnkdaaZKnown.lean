/-
  The sanity check that every law of layer 4 calls.
-/
import Derived.Test.YtfknoclmpdnkdaaZFns2
import Derived.Test.YtfknoclmpdnkdaaZDraw
set_option linter.unusedVariables false
namespace Wh

theorem start_60_1 : StartZ 60 [] 1 1380 := by
  refine ⟨by omega, fun t ht => ?_, fun _ => ?_⟩
  · show max 0 (((t : Int) + 60) / 1440) < 1
    omega
  · show (1 : Int) ≤ max 0 ((((1380 : Nat) : Int) + 60) / 1440)
    omega
theorem start_60_2 : StartZ 60 [] 2 2820 := by
  refine ⟨by omega, fun t ht => ?_, fun _ => ?_⟩
  · show max 0 (((t : Int) + 60) / 1440) < 2
    omega
  · show (2 : Int) ≤ max 0 ((((2820 : Nat) : Int) + 60) / 1440)
    omega

end Wh
namespace Go.Proofs.Ytfknoclmpdnkdaa
open Go.RowKit Wh

theorem known_any (w : World) : Calls Try.prog 10 #[] w fun e w' => e = .returned (.bool true) ∧ Below w.heap.size w w' := by
  obtain ⟨W0, hW0⟩ : ∃ W0, W0 = (w.alloc (.cells #[.int .i64 1330, .int .i64 0] 28)).alloc (.cells #[.string ⟨#[]⟩, .int .i64 120, .slice (some ⟨w.heap.size, 0, none⟩) 1 1] 24) := ⟨_, rfl⟩
  have hB0 : Below w.heap.size w W0 := by rw [hW0]; exact ((Below.refl _ w).alloc (Nat.le_refl _) _).alloc (by simp) _
  have hs0 : IsShifts W0 (some ⟨w.heap.size, 0, none⟩) 1 [(1330, 0)] := by
    refine ⟨rfl, .inr ⟨w.heap.size, 0, rfl, by rw [hW0]; simp; omega, fun i s hs => ?_⟩⟩
    have e0 : W0.heap[w.heap.size]? = some (.cells #[.int .i64 1330, .int .i64 0] 28) := by
      rw [hW0, Below.heap_alloc _ _ _ (by simp)]
      exact heap_alloc_new w _
    cases i with
    | zero => simp at hs; subst hs; exact ⟨cell_of_row _ _ 0 _ _ _ e0, cell_of_row _ _ 1 _ _ _ e0⟩
    | succ i => simp at hs
  have c1 := day_any ⟨#[]⟩ 120 (some ⟨w.heap.size, 0, none⟩) 1 1 [(1330, 0)] 1330 W0 hs0 (by omega)
  rw [show dayR 120 [(1330, 0)] 1330 = 1 by decide +kernel, show chkE 120 [(1330, 0)] 1330 575999999 = 0 by decide +kernel] at c1
  have c2 := fun W => span_any ⟨#[]⟩ 60 none 0 0 [] 1 1380 2820 W ⟨rfl, .inl rfl⟩ (by omega) ⟨fun _ => ⟨start_60_1, start_60_2⟩, fun h => absurd (show chkE 60 [] 1 400000 = 0 by decide +kernel) h⟩
  rw [show chkE 60 [] 1 400000 = 0 by decide +kernel] at c2
  have C1 := Lib.hid c1
  have C2 := Lib.hid c2
  clear c1 c2 hs0
  go_enter Try.func10, Try.ntmps10
  go_wp2_with (first | (go_at_call 17; rw [← hW0]; refine C1.out.mono ?_; rintro e w' ⟨rfl, hb⟩) | (go_at_call 21; refine (C2.out _).mono ?_; rintro e w2 ⟨rfl, hb2⟩))
  go_ret
  exact ⟨rfl, (hB0.trans (hb.mono hB0.size)).trans (hb2.mono (by have := hB0.size; have := hb.size; omega))⟩

end Go.Proofs.Ytfknoclmpdnkdaa
