/-
  The sanity check that every law of layer 1 calls: it returns true and makes new memory alone.
-/
import Derived.Test.YtnmlbafhdnffgaaVals
import Derived.Laws.IdiomStrings
set_option linter.unusedVariables false
namespace Go.Proofs.Ytnmlbafhdnffgaa
open Go.RowKit Wh

/-- 'string(b)' of a value that owns the bytes l. -/
theorem own_string {w : World} {base : Nat} {bv : Value} {l : List UInt8} (h : w.ownsRow base 5 1 bv l.length (l.map B)) :
    (convert 37 9 bv).run Try.prog w = .ok (.string ⟨l.toArray⟩) w := by
  rcases h.2 with ⟨rfl, h0⟩ | ⟨g, cap, cur, rfl, _, hg, _, _, _, ht⟩
  · have : l = [] := List.eq_nil_of_length_eq_zero h0
    subst this
    rw [run_convert_bytes_string w _ _ _ none 0 0 Try.underlying37 Try.underlying5 Try.underlying9]
    rfl
  · refine run_convert_bytes_back w _ _ 5 ⟨g, 0, none⟩ cap l Try.underlying37 Try.underlying5 Try.underlying9 fun j hj => ?_
    have h1 := h.cells (g := g) rfl j (B l[j]) (by simp [hj])
    exact h1

def kA : V := ⟨1, 1, ⟨#[]⟩⟩
def kB : V := ⟨3, 0, ⟨#[97, 98]⟩⟩

theorem known_out : encOut [kA, kB] = ([2, 1, 1, 3, 2, 97, 98], 0) := by
  simp [encOut, allValid, validB, encR, encV, kA, kB, Lib.toList_data]
  decide

set_option maxHeartbeats 400000 in
theorem known_any (w : World) : Calls Try.prog 13 #[] w fun e w' => e = .returned (.bool true) ∧ Below w.heap.size w w' := by
  have c1 : ∀ w, Calls Try.prog 14 #[agg 0 0 ⟨#[]⟩, agg 1 1 ⟨#[]⟩] w fun e w' => e = .returned (.int .i64 (-1)) ∧ Below w.heap.size w w' := fun w => compare_any ⟨0, 0, ⟨#[]⟩⟩ kA w
  have c2 : ∀ w, Calls Try.prog 11 #[agg 3 0 ⟨#[97, 98]⟩] w fun e w' => e = .returned (.bool true) ∧ Below w.heap.size w w' := fun w => valid_any 3 0 ⟨#[97, 98]⟩ w
  have c3 : ∀ w, Calls Try.prog 19 #[agg 1 1 ⟨#[]⟩] w fun e w' => e = .returned (.int .i64 1) ∧ Below w.heap.size w w' := fun w => by
    have h := truth_any 1 1 ⟨#[]⟩ w
    rw [show truthZ 1 1 ⟨#[]⟩ = 1 from by simp [truthZ, Lib.toList_data]] at h
    exact h
  have C1 := Lib.hid c1
  have C2 := Lib.hid c2
  have C3 := Lib.hid c3
  clear c1 c2 c3
  go_enter Try.func13, Try.ntmps13
  go_wp2_with fail
  refine (encode_any _ 2 2 [kA, kB] _ ⟨rfl, .inr ⟨w.heap.size, 0, rfl, by simp, ?hat⟩⟩ (by decide)).mono ?_
  case hat =>
    intro i v hv
    match i, hv with
    | 0, hv => cases hv; exact ⟨cell_of_row _ _ _ _ _ _ (heap_alloc_new w _), cell_of_row _ _ _ _ _ _ (heap_alloc_new w _), cell_of_row _ _ _ _ _ _ (heap_alloc_new w _)⟩
    | 1, hv => cases hv; exact ⟨cell_of_row _ _ _ _ _ _ (heap_alloc_new w _), cell_of_row _ _ _ _ _ _ (heap_alloc_new w _), cell_of_row _ _ _ _ _ _ (heap_alloc_new w _)⟩
  rintro e w1 ⟨bv, rfl, hown, hb1⟩
  rw [known_out] at hown ⊢
  have HS := Lib.hid (own_string hown)
  have hcv : (convert 37 9 bv).run Try.prog w1 = .ok (.string ⟨#[2, 1, 1, 3, 2, 97, 98]⟩) w1 := HS.out
  clear hown
  have hs1 : w.heap.size < w1.heap.size := by have := hb1.size; simp at this; omega
  obtain ⟨hc1, hf1⟩ := bcell hb1
  go_wp2_with fail
  refine (C1.out _).mono ?_
  rintro e w2 ⟨rfl, hb2⟩
  obtain ⟨hc2, hf2⟩ := bcell hb2
  have hs2 : w.heap.size < w2.heap.size := by have := hb2.size; omega
  go_wp2_with fail
  refine (C2.out _).mono ?_
  rintro e w3 ⟨rfl, hb3⟩
  obtain ⟨hc3, hf3⟩ := bcell hb3
  have hs3 : w.heap.size < w3.heap.size := by have := hb3.size; omega
  go_wp2_with fail
  refine (C3.out _).mono ?_
  rintro e w4 ⟨rfl, hb4⟩
  go_wp2_with fail
  go_ret
  exact ⟨rfl, ((((Below.refl _ _).alloc (Nat.le_refl _) _).trans (hb1.mono (by simp))).trans (hb2.mono (by omega))).trans ((hb3.mono (by omega)).trans (hb4.mono (by omega)))⟩

end Go.Proofs.Ytnmlbafhdnffgaa
