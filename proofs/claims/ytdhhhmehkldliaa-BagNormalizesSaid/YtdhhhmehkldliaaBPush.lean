/-
  For every layer that holds bags: one entry more by append, in any world behind callees.
-/
import Derived.Test.YtdhhhmehkldliaaGEnts
import Derived.Test.YtdhhhmehkldliaaBSpec
set_option linter.unusedVariables false
namespace Wh

/-- The sum of the counts' absolute values. -/
def absS : List En → Int
  | [] => 0
  | e :: es => (if e.cnt < 0 then - e.cnt else e.cnt) + absS es
theorem absS_nonneg : ∀ es : List En, 0 ≤ absS es
  | [] => Int.le_refl _
  | e :: es => by
    have := absS_nonneg es
    unfold absS
    split <;> omega
theorem absS_append (a b : List En) : absS (a ++ b) = absS a + absS b := by
  induction a with
  | nil => simp [absS]
  | cons e a ih => simp only [List.cons_append, absS, ih]; omega
theorem absS_merge : ∀ (n : Nat) (a b : List En), a.length + b.length ≤ n → absS (mergeL a b) ≤ absS a + absS b
  | _, [], b, _ => by rw [mergeL_nil]; simp [absS]
  | _, x :: a, [], _ => by rw [mergeL_none]; simp [absS]
  | 0, x :: a, y :: b, h => by simp at h
  | n + 1, x :: a, y :: b, h => by
    simp only [List.length_cons] at h
    rw [mergeL_cons]
    split
    · have := absS_merge n a (y :: b) (by simp; omega)
      simp only [absS] at this ⊢
      omega
    · split
      · have := absS_merge n (x :: a) b (by simp; omega)
        simp only [absS] at this ⊢
        omega
      · have := absS_merge n a b (by omega)
        simp only [absS]
        split <;> split <;> split <;> omega
theorem absS_sort : ∀ (n : Nat) (l : List En), l.length ≤ n → absS (sortL l) ≤ absS l := by
  intro n
  induction n with
  | zero => intro l h; rw [sortL_small (by omega)]; exact Int.le_refl _
  | succ n ih =>
    intro l h
    by_cases h2 : l.length < 2
    · rw [sortL_small h2]; exact Int.le_refl _
    · rw [sortL_halves h2]
      have h3 := absS_merge _ _ _ (Nat.le_refl ((sortL (l.take (l.length / 2))).length + (sortL (l.drop (l.length / 2))).length))
      have h4 := ih (l.take (l.length / 2)) (by rw [List.length_take]; omega)
      have h5 := ih (l.drop (l.length / 2)) (by rw [List.length_drop]; omega)
      have h6 := absS_append (l.take (l.length / 2)) (l.drop (l.length / 2))
      rw [List.take_append_drop] at h6
      omega
theorem absS_neg (es : List En) : absS (negL es) = absS es := by
  unfold negL
  induction es with
  | nil => rfl
  | cons e es ih =>
    simp only [List.map_cons, absS, ih]
    split <;> split <;> omega
theorem absS_bd {es : List En} (h : ∀ e ∈ es, -65536 ≤ e.cnt ∧ e.cnt ≤ 65536) : absS es ≤ 65536 * (es.length : Int) := by
  induction es with
  | nil => simp [absS]
  | cons e es ih =>
    have h1 := h e List.mem_cons_self
    have h2 := ih fun x hx => h x (List.mem_cons_of_mem _ hx)
    simp only [absS, List.length_cons]
    split <;> omega

end Wh
namespace Go.Proofs.Ytdhhhmehkldliaa
open Go.RowKit Wh

theorem pushed {w0 wr : World} {v rv : Value} {acc : List En} {r : List V} (n : Int) (hO : OwnEnts wr w0.heap.size v acc) (hrv : IsRow w0 rv r) (hbel : Below w0.heap.size w0 wr) :
    ∃ l : List T2, wr.ownsRow w0.heap.size 30 2 v acc.length (flat2 l) ∧ (∀ W g cap w3, Below wr.heap.size wr W → w3.ownsRow w0.heap.size 30 2 (.slice (some ⟨g, 0, none⟩) (acc.length + 1) cap) (acc.length + 1) (flat2 l ++ [rv, .int .i64 n]) →
      W.grownBy w3 v.ownBlock → (v.ownBlock = some g ∨ W.heap.size ≤ g) → OwnEnts w3 w0.heap.size (.slice (some ⟨g, 0, none⟩) (acc.length + 1) cap) (acc ++ [⟨r, n⟩]) ∧ Below w0.heap.size w0 w3) := by
  obtain ⟨l, h1, h2, h3⟩ := hO
  refine ⟨l, h2, fun W g cap w3 hW hown hgrow hat => ⟨?_, ?_⟩⟩
  · have far : FarOf v.ownBlock rv r := fun hne x m c hx hc => by
      subst hx
      obtain ⟨a, _, _, he, hv, _⟩ := hrv
      cases he
      have := (h2.lt _ hc).1
      rcases hv.2 with h0 | ⟨b, off, hx, hlt, _⟩
      · exact hne h0
      · cases hx
        exact absurd hlt (Nat.not_lt.2 this)
    exact OwnEnts.push (e := ⟨r, n⟩) h1 (fun i e he => by
      obtain ⟨u, a1, a2, a3⟩ := h3 i e he
      exact ⟨u, a1, a2.below hW (Nat.le_refl _), a3⟩) (hrv.below (hbel.trans (hW.mono hbel.size)) (Nat.le_refl _)) far hown hgrow hat
  · exact (hbel.trans (hW.mono hbel.size)).grown hgrow (Nat.le_trans hbel.size hW.size) (fun j hj => (h2.lt j hj).1)

/-- .. whose row was made in between. -/
theorem pushedNew {w0 wr : World} {v rv : Value} {acc : List En} {r : List V} (n : Int) (hO : OwnEnts wr w0.heap.size v acc) (hrv : IsRow wr rv r) (far : FarOf v.ownBlock rv r) (hbel : Below w0.heap.size w0 wr) :
    ∃ l : List T2, wr.ownsRow w0.heap.size 30 2 v acc.length (flat2 l) ∧ (∀ W g cap w3, Below wr.heap.size wr W → w3.ownsRow w0.heap.size 30 2 (.slice (some ⟨g, 0, none⟩) (acc.length + 1) cap) (acc.length + 1) (flat2 l ++ [rv, .int .i64 n]) →
      W.grownBy w3 v.ownBlock → (v.ownBlock = some g ∨ W.heap.size ≤ g) → OwnEnts w3 w0.heap.size (.slice (some ⟨g, 0, none⟩) (acc.length + 1) cap) (acc ++ [⟨r, n⟩]) ∧ Below w0.heap.size w0 w3) := by
  obtain ⟨l, h1, h2, h3⟩ := hO
  refine ⟨l, h2, fun W g cap w3 hW hown hgrow hat => ⟨?_, ?_⟩⟩
  · exact OwnEnts.push (e := ⟨r, n⟩) h1 (fun i e he => by
      obtain ⟨u, a1, a2, a3⟩ := h3 i e he
      exact ⟨u, a1, a2.below hW (Nat.le_refl _), a3⟩) (hrv.below hW (Nat.le_refl _)) far hown hgrow hat
  · exact (hbel.trans (hW.mono hbel.size)).grown hgrow (Nat.le_trans hbel.size hW.size) (fun j hj => (h2.lt j hj).1)

end Go.Proofs.Ytdhhhmehkldliaa
