/-
  Structs that a law holds in boxes of its own stay as they are while callees make new memory.
-/
import Derived.Test.YtnmlbafhdnffgaaKnown
set_option linter.unusedVariables false
namespace Go.Proofs.Ytnmlbafhdnffgaa
open Go.RowKit Wh

/-- Two boxes. -/
theorem keepTwo {W0 W w' : World} {B0 B1 B2 : Nat} {a0 a1 a2 b0 b1 b2 : Value}
    (h : W.cell? ⟨B1, 0, none⟩ = some a0 ∧ W.cell? ⟨B1, 1, none⟩ = some a1 ∧ W.cell? ⟨B1, 2, none⟩ = some a2 ∧ W.cell? ⟨B2, 0, none⟩ = some b0 ∧ W.cell? ⟨B2, 1, none⟩ = some b1 ∧ W.cell? ⟨B2, 2, none⟩ = some b2 ∧
      B1 < W.heap.size ∧ B2 < W.heap.size ∧ B0 ≤ W.heap.size ∧ Below B0 W0 W)
    (hb : Below W.heap.size W w') :
    w'.cell? ⟨B1, 0, none⟩ = some a0 ∧ w'.cell? ⟨B1, 1, none⟩ = some a1 ∧ w'.cell? ⟨B1, 2, none⟩ = some a2 ∧ w'.cell? ⟨B2, 0, none⟩ = some b0 ∧ w'.cell? ⟨B2, 1, none⟩ = some b1 ∧ w'.cell? ⟨B2, 2, none⟩ = some b2 ∧
      B1 < w'.heap.size ∧ B2 < w'.heap.size ∧ B0 ≤ w'.heap.size ∧ Below B0 W0 w' := by
  obtain ⟨h0, h1, h2, h3, h4, h5, h6, h7, h8, h9⟩ := h
  have hc := (bcell hb).1
  have hs := hb.size
  refine ⟨?_, ?_, ?_, ?_, ?_, ?_, by omega, by omega, by omega, h9.trans (hb.mono (by omega))⟩ <;> (rw [hc _ _ (by omega)]; assumption)

/-- The third of three new boxes. -/
theorem third_cell (w : World) (o1 o2 : Obj) (cs : Array Value) (T j : Nat) (v : Value) (h : cs[j]? = some v) : (((w.alloc o1).alloc o2).alloc (.cells cs T (0, 0))).drew.cell? ⟨w.heap.size + 1 + 1, j, none⟩ = some v := by
  have e : (((w.alloc o1).alloc o2).alloc (.cells cs T (0, 0))).heap[w.heap.size + 1 + 1]? = some (.cells cs T (0, 0)) := by
    have h := heap_alloc_new ((w.alloc o1).alloc o2) (.cells cs T (0, 0))
    have hs : ((w.alloc o1).alloc o2).heap.size = w.heap.size + 1 + 1 := by simp
    rw [hs] at h
    exact h
  exact (cell_of_row _ _ j cs T (0, 0) e).trans h

/-- Three boxes, side by side. -/
theorem keepThree {W0 W w' : World} {B : Nat} {a0 a1 a2 b0 b1 b2 c0 c1 c2 : Value}
    (h : W.cell? ⟨B, 0, none⟩ = some a0 ∧ W.cell? ⟨B, 1, none⟩ = some a1 ∧ W.cell? ⟨B, 2, none⟩ = some a2 ∧ W.cell? ⟨B + 1, 0, none⟩ = some b0 ∧ W.cell? ⟨B + 1, 1, none⟩ = some b1 ∧ W.cell? ⟨B + 1, 2, none⟩ = some b2 ∧
      W.cell? ⟨B + 1 + 1, 0, none⟩ = some c0 ∧ W.cell? ⟨B + 1 + 1, 1, none⟩ = some c1 ∧ W.cell? ⟨B + 1 + 1, 2, none⟩ = some c2 ∧ B + 1 + 1 < W.heap.size ∧ Below B W0 W)
    (hb : Below W.heap.size W w') :
    w'.cell? ⟨B, 0, none⟩ = some a0 ∧ w'.cell? ⟨B, 1, none⟩ = some a1 ∧ w'.cell? ⟨B, 2, none⟩ = some a2 ∧ w'.cell? ⟨B + 1, 0, none⟩ = some b0 ∧ w'.cell? ⟨B + 1, 1, none⟩ = some b1 ∧ w'.cell? ⟨B + 1, 2, none⟩ = some b2 ∧
      w'.cell? ⟨B + 1 + 1, 0, none⟩ = some c0 ∧ w'.cell? ⟨B + 1 + 1, 1, none⟩ = some c1 ∧ w'.cell? ⟨B + 1 + 1, 2, none⟩ = some c2 ∧ B + 1 + 1 < w'.heap.size ∧ Below B W0 w' := by
  obtain ⟨h0, h1, h2, h3, h4, h5, h6, h7, h8, h9, h10⟩ := h
  have hc := (bcell hb).1
  have hs := hb.size
  refine ⟨?_, ?_, ?_, ?_, ?_, ?_, ?_, ?_, ?_, by omega, h10.trans (hb.mono (by omega))⟩ <;> (rw [hc _ _ (by omega)]; assumption)

end Go.Proofs.Ytnmlbafhdnffgaa
