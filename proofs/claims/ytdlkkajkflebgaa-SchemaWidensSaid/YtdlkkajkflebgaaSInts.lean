/-
  For every layer: the number at a place of a slice that came in.
-/
import Derived.Test.YtdlkkajkflebgaaGInts
import Derived.Test.YtdlkkajkflebgaaGOwn
set_option linter.unusedVariables false
namespace Go.Proofs.Ytdlkkajkflebgaa
open Go.RowKit

theorem IsInts.at {w : World} {a : Option Addr} {len : Nat} {zs : List Int} (h : IsInts w a len zs) {k : Nat} (hk : k < len) :
    ∃ z b off, zs[k]? = some z ∧ a = some ⟨b, off, none⟩ ∧ b < w.heap.size ∧ w.cell? ⟨b, off + k, none⟩ = some (.int .i64 z) := by
  obtain ⟨h1, h2⟩ := h
  obtain ⟨z, hs⟩ : ∃ s, zs[k]? = some s := ⟨_, List.getElem?_eq_getElem (by omega)⟩
  rcases h2 with rfl | ⟨b, off, ha, hlt, hc⟩
  · simp at hs
  · exact ⟨z, b, off, hs, ha, hlt, hc k _ hs⟩

end Go.Proofs.Ytdlkkajkflebgaa
