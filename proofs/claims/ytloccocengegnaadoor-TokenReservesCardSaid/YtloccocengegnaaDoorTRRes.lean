/-
  Reserved, of the reference.
-/
import Derived.Test.YtloccocengegnaaDoorGHas
import Derived.Test.YtloccocengegnaaDoorTPLeaf
set_option linter.unusedVariables false
set_option maxRecDepth 100000
namespace Go.Proofs.YtloccocengegnaaDoor
open Go.RowKit Wh

theorem hasB_res (s : ByteArray) : hasB resL s = resB s := rfl

set_option maxHeartbeats 1000000 in
theorem rreserved_any (s : ByteArray) (w : World) : Calls Tryd.prog 7 #[.string s] w fun e w' => e = .returned (.bool (resB s)) ∧ Below w.heap.size w w' := by
  go_enter Tryd.func7, Tryd.ntmps7
  go_wp2_with fail
  have HS : IsStrs (w.alloc (.cells #[.string ⟨#[97, 110, 100]⟩, .string ⟨#[111, 114]⟩, .string ⟨#[110, 111, 116]⟩, .string ⟨#[110, 117, 108, 108]⟩, .string ⟨#[116, 114, 117, 101]⟩, .string ⟨#[102, 97, 108, 115, 101]⟩, .string ⟨#[98, 121]⟩, .string ⟨#[115, 101, 108, 102]⟩] 9)) (some ⟨w.heap.size, 0, none⟩) 8 resL := by
    refine ⟨rfl, .inr ⟨w.heap.size, 0, rfl, by simp, fun i x hx => ?_⟩⟩
    have h1 : (resL.map Value.string)[i]? = some (.string x) := by rw [List.getElem?_map, hx]; rfl
    rw [Nat.zero_add]
    exact (cell_of_row _ _ i _ _ _ (heap_alloc_new w _)).trans (by rw [← Array.getElem?_toList]; exact h1)
  refine (has_any _ 8 8 resL s _ HS (by decide)).mono ?_
  rintro e w1 ⟨rfl, rfl⟩
  go_wp2_with fail
  go_ret
  exact ⟨by rw [hasB_res]; rfl, (Below.refl _ _).alloc (Nat.le_refl _) _⟩

end Go.Proofs.YtloccocengegnaaDoor

