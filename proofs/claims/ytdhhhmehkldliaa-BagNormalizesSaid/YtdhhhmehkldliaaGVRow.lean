/-
  For every layer: rows of structs of three cells that the call makes (make, stores of whole elements), plainly; values.
-/
import Derived.Test.YtdhhhmehkldliaaGVal
import Derived.Test.YtdhhhmehkldliaaGOwn
import Derived.OwnWalk
set_option linter.unusedVariables false
namespace Go.Proofs.Ytdhhhmehkldliaa
open Go.RowKit Wh

abbrev T3 := Value × Value × Value
def flat3 (l : List T3) : List Value := l.flatMap fun t => [t.1, t.2.1, t.2.2]
def cV (v : V) : T3 := (.int .i64 v.k, .int .i64 v.n, .string v.s)
def vNull : V := ⟨0, 0, ⟨#[]⟩⟩

theorem flat3_length (l : List T3) : (flat3 l).length = l.length * 3 := by
  unfold flat3
  induction l with
  | nil => rfl
  | cons v vs ih => simp only [List.flatMap_cons, List.length_append, ih, List.length_cons, List.length_nil]; omega

theorem flat3_at (l : List T3) (i : Nat) (t : T3) (h : l[i]? = some t) : (flat3 l)[i * 3]? = some t.1 ∧ (flat3 l)[i * 3 + 1]? = some t.2.1 ∧ (flat3 l)[i * 3 + 2]? = some t.2.2 := by
  unfold flat3
  induction l generalizing i with
  | nil => simp at h
  | cons u l ih =>
    cases i with
    | zero => simp at h; subst h; simp
    | succ i =>
      simp only [List.getElem?_cons_succ] at h
      have := ih i h
      rw [show (i + 1) * 3 = i * 3 + 1 + 1 + 1 from by omega]
      simpa [List.flatMap_cons] using this

theorem flat3_set (l : List T3) (k : Nat) (hk : k < l.length) (x y z : Value) : (((flat3 l).set (k * 3) x).set (k * 3 + 1) y).set (k * 3 + 2) z = flat3 (l.set k (x, y, z)) := by
  unfold flat3
  induction l generalizing k with
  | nil => simp at hk
  | cons u l ih =>
    cases k with
    | zero => simp
    | succ k =>
      have := ih k (by simpa using hk)
      rw [show (k + 1) * 3 = k * 3 + 1 + 1 + 1 from by omega]
      simpa [List.flatMap_cons] using this

theorem flat3_made (a b c : Value) (n : Nat) : (madeCells #[a, b, c] (n * 3)).toList = flat3 (List.replicate n (a, b, c)) := by
  apply List.ext_getElem?
  intro j
  by_cases hj : j < n * 3
  · have hi : (List.replicate n ((a, b, c) : T3))[j / 3]? = some (a, b, c) := by rw [List.getElem?_replicate, if_pos (by omega)]
    obtain ⟨h0, h1, h2⟩ := flat3_at _ _ _ hi
    have hl : (madeCells #[a, b, c] (n * 3)).toList[j]? = some (#[a, b, c][j % 3]!) := by
      simp [madeCells, hj]
    rw [hl]
    have h3 : j % 3 = 0 ∨ j % 3 = 1 ∨ j % 3 = 2 := by omega
    rcases h3 with h3 | h3 | h3
    · rw [h3, show j = j / 3 * 3 from by omega, h0]
      rfl
    · rw [h3, show j = j / 3 * 3 + 1 from by omega, h1]
      rfl
    · rw [h3, show j = j / 3 * 3 + 2 from by omega, h2]
      rfl
  · rw [List.getElem?_eq_none (by simp [madeCells]; omega), List.getElem?_eq_none (by rw [flat3_length, List.length_replicate]; omega)]

/-- A row of which the first k elements are laid, the others zero. -/
def half (out : List T3) (z : T3) (k : Nat) : List T3 := out.take k ++ List.replicate (out.length - k) z

theorem half_zero (out : List T3) (z : T3) : half out z 0 = List.replicate out.length z := by simp [half]
theorem half_end (out : List T3) (z : T3) : half out z out.length = out := by simp [half]
theorem half_length {out : List T3} {z : T3} {k : Nat} (h : k ≤ out.length) : (half out z k).length = out.length := by
  unfold half
  rw [List.length_append, List.length_take, List.length_replicate]
  omega
theorem half_set {out : List T3} {z x : T3} {k : Nat} (h : out[k]? = some x) : (half out z k).set k x = half out z (k + 1) := by
  have hk := (List.getElem?_eq_some_iff.1 h).1
  unfold half
  rw [List.take_add_one, h]
  have hl : (out.take k).length = k := by rw [List.length_take]; omega
  rw [List.set_append_right k x (by omega), hl, Nat.sub_self, show out.length - k = (out.length - (k + 1)) + 1 by omega, List.replicate_succ, List.set_cons_zero]
  simp
theorem half_same {out : List T3} {z : T3} {k : Nat} (h : out[k]? = some z) : half out z k = half out z (k + 1) := by
  have hk := (List.getElem?_eq_some_iff.1 h).1
  unfold half
  rw [List.take_add_one, h, show out.length - k = (out.length - (k + 1)) + 1 by omega, List.replicate_succ]
  simp
theorem half_at {out : List T3} {z : T3} {k : Nat} (h : k < out.length) : (half out z k)[k]? = some z := by
  unfold half
  have hl : (out.take k).length = k := by rw [List.length_take]; omega
  rw [List.getElem?_append_right (by omega), hl, Nat.sub_self, List.getElem?_replicate, if_pos (by omega)]

/-- The cells of element k of an owned row, and that they may be written. -/
theorem own3_at {w : World} {base : Nat} {T : TypeId} {g cap n : Nat} {l : List T3} (h : w.ownsRow base T 3 (.slice (some ⟨g, 0, none⟩) n cap) n (flat3 l)) {k : Nat} {t : T3} (ht : l[k]? = some t) (hn : l.length = n) :
    w.cell? ⟨g, k * 3, none⟩ = some t.1 ∧ w.cell? ⟨g, k * 3 + 1, none⟩ = some t.2.1 ∧ w.cell? ⟨g, k * 3 + 2, none⟩ = some t.2.2 ∧ w.frozen? ⟨g, k * 3, none⟩ = false ∧ w.frozen? ⟨g, k * 3 + 1, none⟩ = false ∧ w.frozen? ⟨g, k * 3 + 2, none⟩ = false := by
  obtain ⟨f0, f1, f2⟩ := flat3_at _ _ _ ht
  have hk := (List.getElem?_eq_some_iff.1 ht).1
  exact ⟨(h.cellAt (k * 3) (by omega)).trans f0, (h.cellAt (k * 3 + 1) (by omega)).trans f1, (h.cellAt (k * 3 + 2) (by omega)).trans f2, h.frozenAt _, h.frozenAt _, h.frozenAt _⟩

theorem own3_set {w : World} {base : Nat} {T : TypeId} {g cap n : Nat} {l : List T3} (h : w.ownsRow base T 3 (.slice (some ⟨g, 0, none⟩) n cap) n (flat3 l)) {k : Nat} (hk : k < l.length) (x y z : Value) :
    (((w.setCell ⟨g, k * 3, none⟩ x).setCell ⟨g, k * 3 + 1, none⟩ y).setCell ⟨g, k * 3 + 2, none⟩ z).ownsRow base T 3 (.slice (some ⟨g, 0, none⟩) n cap) n (flat3 (l.set k (x, y, z))) := by
  have h3 := (((h.stored (k * 3) x).1.stored (k * 3 + 1) y).1.stored (k * 3 + 2) z).1
  rw [flat3_set l k hk] at h3
  exact h3

theorem flat_flat3 (vs : List V) : flat vs = flat3 (vs.map cV) := by
  unfold flat flat3
  rw [List.flatMap_map]
  rfl

/-- A slice that owns the cells of values has these values. -/
theorem own_rowv {w : World} {base n : Nat} {sv : Value} {vs : List V} (h : w.ownsRow base 38 3 sv n (flat3 (vs.map cV))) (hn : vs.length = n) :
    ∃ (a : Option Addr) (cap : Nat), sv = .slice a n cap ∧ IsVals w a n vs ∧ n ≤ cap ∧ cap ≤ maxLen ∧ (∀ x, a = some x → ∃ g, x = ⟨g, 0, none⟩ ∧ base ≤ g ∧ g < w.heap.size) := by
  rcases h.2 with ⟨rfl, rfl⟩ | ⟨g, cap, cur, rfl, hg, hh, hnc, hmc, _, ht⟩
  · exact ⟨none, 0, rfl, ⟨hn, .inl (List.eq_nil_of_length_eq_zero hn)⟩, Nat.le_refl _, Nat.zero_le _, by simp⟩
  · have hlt : g < w.heap.size := (Array.getElem?_eq_some_iff.1 hh).1
    refine ⟨_, cap, rfl, ⟨hn, .inr ⟨g, 0, rfl, hlt, fun i c hc => ?_⟩⟩, hnc, hmc, by rintro x ⟨⟩; exact ⟨g, rfl, hg, hlt⟩⟩
    obtain ⟨h0, h1, h2, _⟩ := own3_at h (k := i) (t := cV c) (by rw [List.getElem?_map, hc]; rfl) (by simpa using hn)
    simp only [Nat.zero_add]
    exact ⟨h0, h1, h2⟩

/-- The call returns a new row. -/
def ValsPost (w : World) (out : List V) (e : Ending) (w' : World) : Prop :=
  ∃ sv : Value, e = .returned sv ∧ w'.ownsRow w.heap.size 38 3 sv out.length (flat3 (out.map cV)) ∧ Below w.heap.size w w'

end Go.Proofs.Ytdhhhmehkldliaa
