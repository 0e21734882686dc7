/-
  Rows of integers that the call itself makes: what an owned row reads as; when two of them lie apart.
-/
import Derived.Test.YtloccocengegnaaDoorGInts
import Derived.Laws.AppendOwn
import Derived.Laws.AppendOwnNone
import Derived.Deep.AppendLies
import Derived.Lib.AppendStr
import Derived.Below
set_option linter.unusedVariables false
namespace Go.Proofs.YtloccocengegnaaDoor
open Go.RowKit

theorem info_int : (Tryd.prog.info? 3).map (fun i => (i.zero, i.size, i.bytes)) = some (some (.int .i64 0), 1, 8) := by kernel_rfl

theorem own_below {W w1 : World} {base E sz n : Nat} {v : Value} {xs : List Value} (h : W.ownsRow base E sz v n xs) (hb : Below W.heap.size W w1) : w1.ownsRow base E sz v n xs := by
  refine h.kept (row := none) ⟨hb.os, hb.tape, hb.output, hb.size, fun k hk _ => hb.block k hk⟩ ?_
  cases e : v.ownBlock with
  | none => exact .inl rfl
  | some g => exact .inr (by simp)

/-- Two values that own different blocks. -/
def Apart (v u : Value) : Prop := ∀ g, v.ownBlock = some g → u.ownBlock = some g → False

theorem Apart.kept {v u : Value} (h : Apart v u) : u.ownBlock = none ∨ u.ownBlock ≠ v.ownBlock := by
  cases e : u.ownBlock with
  | none => exact .inl rfl
  | some g =>
    right
    intro e2
    exact h g e2.symm e

/-- What an owned row of integers reads as. -/
theorem own_ints {w : World} {base n : Nat} {v : Value} {zs : List Int} (h : w.ownsRow base 3 1 v n (zs.map (Value.int .i64))) :
    ∃ a cap, v = .slice a n cap ∧ IsInts w a n zs ∧ n ≤ cap ∧ cap ≤ maxLen ∧ (a = none → n = 0 ∧ cap = 0) ∧ (∀ x, a = some x → ∃ g, x = ⟨g, 0, none⟩ ∧ base ≤ g ∧ g < w.heap.size) := by
  have hl : zs.length = n := by have := h.1; simpa using this
  rcases h.2 with ⟨rfl, rfl⟩ | ⟨g, cap, cur, rfl, hb, hg, hn, hm, hs, ht⟩
  · exact ⟨none, 0, rfl, ⟨hl, .inl (List.eq_nil_of_length_eq_zero hl)⟩, Nat.le_refl _, Nat.zero_le _, fun _ => ⟨rfl, rfl⟩, fun x hx => by cases hx⟩
  · have hlt : g < w.heap.size := (h.lt g rfl).2
    refine ⟨some ⟨g, 0, none⟩, cap, rfl, ⟨hl, .inr ⟨g, 0, rfl, hlt, fun i z hz => ?_⟩⟩, hn, hm, fun hx => (by cases hx), fun x hx => ⟨g, by cases hx; rfl, hb, hlt⟩⟩
    have h1 := h.cells (g := g) rfl i (.int .i64 z) (by simp [hz])
    have hadd : (⟨g, 0, none⟩ : Addr).add i = ⟨g, 0 + i, none⟩ := by unfold Addr.add; split <;> simp_all
    rw [hadd] at h1
    exact h1

theorem IsInts.below {w w' : World} {a : Option Addr} {len : Nat} {zs : List Int} {B : Nat} (h : IsInts w a len zs) (hb : Below B w w') (hB : w.heap.size ≤ B) : IsInts w' a len zs := by
  refine ⟨h.1, ?_⟩
  rcases h.2 with h0 | ⟨b, off, ha, hlt, hat⟩
  · exact .inl h0
  · exact .inr ⟨b, off, ha, Nat.lt_of_lt_of_le hlt hb.size, fun i z hz => by rw [hb.cell (p := ⟨b, off + i, none⟩) (Nat.lt_of_lt_of_le hlt hB)]; exact hat i z hz⟩

end Go.Proofs.YtloccocengegnaaDoor

