/-
  For every layer: boxes of the call's own, and what lies in them while callees make new memory.
-/
import Derived.Test.YtloccocengegnaaDoorRows
import Derived.WalkKit
import Derived.Below
import Derived.Laws.OwnMore
import Derived.Deep.Draws
import Derived.Deep.QuietTactic
set_option linter.unusedVariables false
namespace Go.Proofs.YtloccocengegnaaDoor
open Go.RowKit

theorem bcell {W w1 : World} (hb : Below W.heap.size W w1) : (∀ b o, b < W.heap.size → w1.cell? ⟨b, o, none⟩ = W.cell? ⟨b, o, none⟩) ∧ (∀ b o, b < W.heap.size → w1.frozen? ⟨b, o, none⟩ = W.frozen? ⟨b, o, none⟩) :=
  ⟨fun b o h => hb.cell (p := ⟨b, o, none⟩) h, fun b o h => hb.frozen (p := ⟨b, o, none⟩) h⟩

theorem Below.drewN' {B : Nat} {a w : World} (h : Below B a w) (n : Nat) : Below B a (w.drewN n) := ⟨h.os, h.tape, h.output, h.size, h.block⟩

/-- Three cells in a box of the call's own. -/
theorem box_cells {w wr : World} {v0 v1 v2 : Value} {t : TypeId} (h : Below (w.heap.size + 1) (w.alloc (.cells #[v0, v1, v2] t)) wr) :
    wr.cell? ⟨w.heap.size, 0, none⟩ = some v0 ∧ wr.cell? ⟨w.heap.size, 1, none⟩ = some v1 ∧ wr.cell? ⟨w.heap.size, 2, none⟩ = some v2 ∧ w.heap.size + 1 ≤ wr.heap.size ∧ Below w.heap.size w wr := by
  have e : (w.alloc (.cells #[v0, v1, v2] t)).heap[w.heap.size]? = some (.cells #[v0, v1, v2] t) := heap_alloc_new w _
  have hs := h.size
  simp only [World.size_alloc] at hs
  refine ⟨?_, ?_, ?_, hs, ((Below.refl _ _).alloc (Nat.le_refl _) _).trans (h.mono (by omega))⟩
  · rw [h.cell (p := ⟨w.heap.size, 0, none⟩) (by show w.heap.size < _; omega)]
    exact cell_of_row _ _ 0 _ _ _ e
  · rw [h.cell (p := ⟨w.heap.size, 1, none⟩) (by show w.heap.size < _; omega)]
    exact cell_of_row _ _ 1 _ _ _ e
  · rw [h.cell (p := ⟨w.heap.size, 2, none⟩) (by show w.heap.size < _; omega)]
    exact cell_of_row _ _ 2 _ _ _ e

/-- A box of three cells and one of one cell, while callees make new memory. -/
theorem keepPair {W w' : World} {B1 B2 : Nat} {v0 v1 v2 x : Value}
    (h : W.cell? ⟨B1, 0, none⟩ = some v0 ∧ W.cell? ⟨B1, 1, none⟩ = some v1 ∧ W.cell? ⟨B1, 2, none⟩ = some v2 ∧ W.cell? ⟨B2, 0, none⟩ = some x) (h1 : B1 < W.heap.size) (h2 : B2 < W.heap.size) (hb : Below W.heap.size W w') :
    w'.cell? ⟨B1, 0, none⟩ = some v0 ∧ w'.cell? ⟨B1, 1, none⟩ = some v1 ∧ w'.cell? ⟨B1, 2, none⟩ = some v2 ∧ w'.cell? ⟨B2, 0, none⟩ = some x := by
  obtain ⟨c0, c1, c2, c3⟩ := h
  have hc := (bcell hb).1
  refine ⟨?_, ?_, ?_, ?_⟩ <;> (rw [hc _ _ (by omega)]; assumption)

theorem two_boxes (w : World) (v0 v1 v2 x : Value) (t u : TypeId) {W0 : World} (hW0 : W0 = (w.alloc (.cells #[v0, v1, v2] t)).alloc (.cells #[x] u)) :
    W0.heap.size = w.heap.size + 1 + 1 ∧ Below w.heap.size w W0 ∧ W0.cell? ⟨w.heap.size, 0, none⟩ = some v0 ∧ W0.cell? ⟨w.heap.size, 1, none⟩ = some v1 ∧ W0.cell? ⟨w.heap.size, 2, none⟩ = some v2 ∧ W0.cell? ⟨w.heap.size + 1, 0, none⟩ = some x := by
  have e0 : W0.heap[w.heap.size]? = some (.cells #[v0, v1, v2] t) := by
    rw [hW0, Below.heap_alloc _ _ _ (by simp)]
    exact heap_alloc_new w _
  have e1 : W0.heap[w.heap.size + 1]? = some (.cells #[x] u) := by
    have := heap_alloc_new (w.alloc (.cells #[v0, v1, v2] t)) (.cells #[x] u)
    rw [World.size_alloc] at this
    rw [hW0]
    exact this
  exact ⟨by rw [hW0]; simp, by rw [hW0]; exact ((Below.refl _ w).alloc (Nat.le_refl _) _).alloc (by simp) _, cell_of_row _ _ 0 _ _ _ e0, cell_of_row _ _ 1 _ _ _ e0, cell_of_row _ _ 2 _ _ _ e0, cell_of_row _ _ 0 _ _ _ e1⟩

/-- A box of three cells, while callees make new memory. -/
theorem keepZone {W0 W w' : World} {B : Nat} {v0 v1 v2 : Value}
    (h : W.cell? ⟨B, 0, none⟩ = some v0 ∧ W.cell? ⟨B, 1, none⟩ = some v1 ∧ W.cell? ⟨B, 2, none⟩ = some v2 ∧ B + 1 ≤ W.heap.size ∧ Below B W0 W) (hb : Below W.heap.size W w') :
    w'.cell? ⟨B, 0, none⟩ = some v0 ∧ w'.cell? ⟨B, 1, none⟩ = some v1 ∧ w'.cell? ⟨B, 2, none⟩ = some v2 ∧ B + 1 ≤ w'.heap.size ∧ Below B W0 w' := by
  obtain ⟨h0, h1, h2, h3, h4⟩ := h
  have hc := (bcell hb).1
  have hs := hb.size
  refine ⟨?_, ?_, ?_, by omega, h4.trans (hb.mono (by omega))⟩ <;> (rw [hc _ _ (by omega)]; assumption)

/-- Two boxes of three cells. -/
theorem keepTwo {W0 W w' : World} {B0 B1 B2 : Nat} {a0 a1 a2 b0 b1 b2 : Value}
    (h : W.cell? ⟨B1, 0, none⟩ = some a0 ∧ W.cell? ⟨B1, 1, none⟩ = some a1 ∧ W.cell? ⟨B1, 2, none⟩ = some a2 ∧ W.cell? ⟨B2, 0, none⟩ = some b0 ∧ W.cell? ⟨B2, 1, none⟩ = some b1 ∧ W.cell? ⟨B2, 2, none⟩ = some b2 ∧
      B1 < W.heap.size ∧ B2 < W.heap.size ∧ B0 ≤ W.heap.size ∧ Below B0 W0 W)
    (hb : Below W.heap.size W w') :
    w'.cell? ⟨B1, 0, none⟩ = some a0 ∧ w'.cell? ⟨B1, 1, none⟩ = some a1 ∧ w'.cell? ⟨B1, 2, none⟩ = some a2 ∧ w'.cell? ⟨B2, 0, none⟩ = some b0 ∧ w'.cell? ⟨B2, 1, none⟩ = some b1 ∧ w'.cell? ⟨B2, 2, none⟩ = some b2 ∧
      B1 < w'.heap.size ∧ B2 < w'.heap.size ∧ B0 ≤ w'.heap.size ∧ Below B0 W0 w' := by
  obtain ⟨h0, h1, h2, h3, h4, h5, h6, h7, h8, h9⟩ := h
  have hc := (bcell hb).1
  have hs := hb.size
  refine ⟨?_, ?_, ?_, ?_, ?_, ?_, by omega, by omega, by omega, h9.trans (hb.mono (by omega))⟩ <;> (rw [hc _ _ (by omega)]; assumption)

theorem own_mono {w : World} {base base' E sz n : Nat} {v : Value} {xs : List Value} (h : w.ownsRow base E sz v n xs) (hb : base' ≤ base) : w.ownsRow base' E sz v n xs := by
  refine ⟨h.1, ?_⟩
  rcases h.2 with h | ⟨g, cap, cur, e, hg, rest⟩
  · exact .inl h
  · exact .inr ⟨g, cap, cur, e, by omega, rest⟩

/-- A block of three cells. -/
structure Box3 (w : World) (b : Nat) (x y z : Value) (t : TypeId) : Prop where
  block : w.heap[b]? = some (.cells #[x, y, z] t (0, 0))

theorem Box3.c0 {w : World} {b : Nat} {x y z : Value} {t : TypeId} (h : Box3 w b x y z t) : w.cell? ⟨b, 0, none⟩ = some x := cell_of_row _ _ 0 _ _ _ h.block
theorem Box3.c1 {w : World} {b : Nat} {x y z : Value} {t : TypeId} (h : Box3 w b x y z t) : w.cell? ⟨b, 1, none⟩ = some y := cell_of_row _ _ 1 _ _ _ h.block
theorem Box3.c2 {w : World} {b : Nat} {x y z : Value} {t : TypeId} (h : Box3 w b x y z t) : w.cell? ⟨b, 2, none⟩ = some z := cell_of_row _ _ 2 _ _ _ h.block
theorem Box3.free {w : World} {b : Nat} {x y z : Value} {t : TypeId} (h : Box3 w b x y z t) (j : Nat) : w.frozen? ⟨b, j, none⟩ = false := by simp [World.frozen?, h.block]
theorem Box3.lt {w : World} {b : Nat} {x y z : Value} {t : TypeId} (h : Box3 w b x y z t) : b < w.heap.size := (Array.getElem?_eq_some_iff.1 h.block).1
theorem Box3.set2 {w : World} {b : Nat} {x y z u : Value} {t : TypeId} (h : Box3 w b x y z t) : Box3 (w.setCell ⟨b, 2, none⟩ u) b x y u t := by
  refine ⟨?_⟩
  have hb := h.block
  simp only [World.setCell, Array.getElem?_modify, if_pos]
  rw [hb]
  rfl
theorem Box3.far {w : World} {b : Nat} {x y z u : Value} {t : TypeId} (h : Box3 w b x y z t) {a : Addr} (ha : b ≠ a.block) : Box3 (w.setCell a u) b x y z t := ⟨by rw [Below.heap_setCell _ _ _ _ ha]; exact h.block⟩
theorem Box3.alloc {w : World} {b : Nat} {x y z : Value} {t : TypeId} (h : Box3 w b x y z t) (o : Obj) : Box3 (w.alloc o) b x y z t := ⟨by rw [Below.heap_alloc _ _ _ h.lt]; exact h.block⟩
theorem Box3.drew {w : World} {b : Nat} {x y z : Value} {t : TypeId} (h : Box3 w b x y z t) : Box3 w.drew b x y z t := ⟨h.block⟩
theorem Box3.grown {w w' : World} {b : Nat} {x y z : Value} {t : TypeId} {row : Option Nat} (h : Box3 w b x y z t) (hg : w.grownBy w' row) (hne : some b ≠ row) : Box3 w' b x y z t := ⟨by rw [hg.block b h.lt hne]; exact h.block⟩

theorem choose_list {α : Type} (P : Nat → α → Prop) : ∀ n : Nat, (∀ i, i < n → ∃ v, P i v) → ∃ vs : List α, vs.length = n ∧ ∀ i v, vs[i]? = some v → P i v
  | 0, _ => ⟨[], rfl, by simp⟩
  | n + 1, h => by
    obtain ⟨vs, hl, hv⟩ := choose_list P n fun i hi => h i (by omega)
    obtain ⟨v, hp⟩ := h n (by omega)
    refine ⟨vs ++ [v], by simp [hl], fun i u hu => ?_⟩
    by_cases hi : i < n
    · rw [List.getElem?_append_left (by omega)] at hu
      exact hv i u hu
    · have hlt := (List.getElem?_eq_some_iff.1 hu).1
      simp only [List.length_append, List.length_cons, List.length_nil] at hlt
      obtain rfl : i = n := by omega
      rw [List.getElem?_append_right (by omega), hl] at hu
      simp at hu
      subst hu
      exact hp

end Go.Proofs.YtloccocengegnaaDoor

