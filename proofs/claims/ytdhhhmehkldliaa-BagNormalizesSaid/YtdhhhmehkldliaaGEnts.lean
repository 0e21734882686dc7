/-
  For every layer that holds bags: entries (a row and its count) in memory, what came in and what the call makes.
-/
import Derived.Test.YtdhhhmehkldliaaGVRow
import Derived.Test.YtdhhhmehkldliaaBMath
import Derived.Deep.AppendLies
set_option linter.unusedVariables false
namespace Go.Proofs.Ytdhhhmehkldliaa
open Go.RowKit Wh

theorem info_ent : (Try.prog.info? 30).map (fun i => (i.zero, i.size, i.bytes)) = some (some (.agg #[.slice none 0 0, .int .i64 0]), 2, 32) := by kernel_rfl
theorem size_ent (W : World) : (sizeOf 30).run Try.prog W = .ok 2 W := by
  obtain ⟨i0, hi, _, h1, _⟩ := info_parts info_ent
  simp [sizeOf, typeInfo, hi, h1]

/-- The value is a slice with the values of the row. -/
def IsRow (w : World) (v : Value) (r : List V) : Prop := ∃ a n c, v = .slice a n c ∧ IsVals w a n r ∧ n ≤ c ∧ c ≤ maxLen ∧ (a = none → c = 0)

theorem IsVals.grown {w w' : World} {a : Option Addr} {n : Nat} {r : List V} {row : Option Nat} (h : IsVals w a n r) (hg : w.grownBy w' row) (hne : r ≠ [] → ∀ x, a = some x → row ≠ some x.block) : IsVals w' a n r := by
  obtain ⟨h1, h2⟩ := h
  refine ⟨h1, ?_⟩
  by_cases hr : r = []
  · exact .inl hr
  · rcases h2 with h2 | ⟨b, off, ha, hlt, hc⟩
    · exact .inl h2
    · have hb : w'.heap[b]? = w.heap[b]? := hg.block b hlt (fun e => hne hr _ ha e.symm)
      have e : ∀ o, w'.cell? ⟨b, o, none⟩ = w.cell? ⟨b, o, none⟩ := fun o => World.cell?_of_block (a := ⟨b, o, none⟩) hb
      refine .inr ⟨b, off, ha, Nat.lt_of_lt_of_le hlt hg.size, fun i v hv => ?_⟩
      rw [e, e, e]
      exact hc i v hv

theorem IsRow.below {w w' : World} {v : Value} {r : List V} {B : Nat} (h : IsRow w v r) (hb : Below B w w') (hB : w.heap.size ≤ B) : IsRow w' v r := by
  obtain ⟨a, n, c, h1, h2, h3⟩ := h
  exact ⟨a, n, c, h1, h2.below hb hB, h3⟩

/-- The slice (a, len) has the entries es. -/
def IsEnts (w : World) (a : Option Addr) (len : Nat) (es : List En) : Prop :=
  es.length = len ∧ (es = [] ∨ ∃ b off, a = some ⟨b, off, none⟩ ∧ b < w.heap.size ∧ ∀ i e, es[i]? = some e → ∃ v, w.cell? ⟨b, off + i * 2, none⟩ = some v ∧ w.cell? ⟨b, off + i * 2 + 1, none⟩ = some (.int .i64 e.cnt) ∧ IsRow w v e.row)

theorem IsEnts.below {w w' : World} {a : Option Addr} {len B : Nat} {es : List En} (h : IsEnts w a len es) (hb : Below B w w') (hB : w.heap.size ≤ B) : IsEnts w' a len es := by
  obtain ⟨h1, h2⟩ := h
  refine ⟨h1, ?_⟩
  rcases h2 with h2 | ⟨b, off, ha, hlt, hc⟩
  · exact .inl h2
  · have e : ∀ o, w'.cell? ⟨b, o, none⟩ = w.cell? ⟨b, o, none⟩ := fun o => hb.cell (p := ⟨b, o, none⟩) (by show b < B; omega)
    refine .inr ⟨b, off, ha, by have := hb.size; omega, fun i x hx => ?_⟩
    obtain ⟨v, c0, c1, hr⟩ := hc i x hx
    exact ⟨v, by rw [e]; exact c0, by rw [e]; exact c1, hr.below hb hB⟩

theorem IsEnts.at {w : World} {a : Option Addr} {len : Nat} {es : List En} (h : IsEnts w a len es) {k : Nat} (hk : k < len) :
    ∃ r n ra rl rc b off, es[k]? = some ⟨r, n⟩ ∧ a = some ⟨b, off, none⟩ ∧ b < w.heap.size ∧ w.cell? ⟨b, off + k * 2, none⟩ = some (.slice ra rl rc) ∧ w.cell? ⟨b, off + k * 2 + 1, none⟩ = some (.int .i64 n) ∧ IsVals w ra rl r ∧ rl ≤ rc ∧ rc ≤ maxLen ∧ (ra = none → rc = 0) := by
  obtain ⟨h1, h2⟩ := h
  obtain ⟨⟨r, n⟩, hs⟩ : ∃ s, es[k]? = some s := ⟨_, List.getElem?_eq_getElem (by omega)⟩
  rcases h2 with rfl | ⟨b, off, ha, hlt, hc⟩
  · simp at hs
  · obtain ⟨v, c0, c1, ra, rl, rc, rfl, g1, g2, g3, g4⟩ := hc k _ hs
    exact ⟨r, n, ra, rl, rc, b, off, hs, ha, hlt, c0, c1, g1, g2, g3, g4⟩

theorem IsEnts.take {w : World} {a : Option Addr} {len : Nat} {es : List En} (h : IsEnts w a len es) {k : Nat} (hk : k ≤ len) : IsEnts w a k (es.take k) := by
  obtain ⟨h1, h2⟩ := h
  refine ⟨by rw [List.length_take]; omega, ?_⟩
  rcases h2 with rfl | ⟨b, off, ha, hlt, hc⟩
  · exact .inl (by simp)
  · refine .inr ⟨b, off, ha, hlt, fun i c hi => hc i c ?_⟩
    have hlt := (List.getElem?_eq_some_iff.1 hi).1
    rw [List.length_take] at hlt
    rw [List.getElem?_take_of_lt (by omega)] at hi
    exact hi

theorem IsEnts.drop {w : World} {b off len : Nat} {es : List En} (h : IsEnts w (some ⟨b, off, none⟩) len es) {k : Nat} (hk : k ≤ len) : IsEnts w (some ⟨b, off + k * 2, none⟩) (len - k) (es.drop k) := by
  obtain ⟨h1, h2⟩ := h
  refine ⟨by rw [List.length_drop]; omega, ?_⟩
  rcases h2 with rfl | ⟨b', off', ha, hlt, hc⟩
  · exact .inl (by simp)
  · cases ha
    refine .inr ⟨b, off + k * 2, rfl, hlt, fun i c hi => ?_⟩
    rw [List.getElem?_drop] at hi
    have := hc _ _ hi
    rw [show off + (k + i) * 2 = off + k * 2 + i * 2 by omega] at this
    exact this

/-- 'x[:k]' of entries. -/
theorem slice_to_ents (a : Option Addr) (len cap k : Nat) (hk : k ≤ cap) (hm : cap ≤ maxLen) (hn : a = none → cap = 0) (hs : ∀ x, a = some x → x.spot = none) (W : World) :
    (Instr.slice 22 (.slice a len cap) none (some (.int .i64 k)) none).run Try.prog W = .ok (.slice a k cap) W := by
  have ht : Try.prog.underlying 22 = some (.slice (Try.prog.elem 22)) := by simp [Program.elem, Try.underlying22]
  have he : Try.prog.elem 22 = 30 := by simp [Program.elem, Try.underlying22]
  rw [run_slice_h W _ _ _ _ ht .i64 _ (by omega) (by omega), he, size_ent]
  by_cases hc : cap = 0
  · simp [Result.andThen, sliced, hc]
  · cases a with
    | none => exact absurd (hn rfl) hc
    | some x =>
      obtain ⟨b, off, spot⟩ := x
      have := hs _ rfl
      simp only at this
      subst this
      have hadd : (⟨b, off, none⟩ : Addr).add 0 = ⟨b, off, none⟩ := by unfold Addr.add; split <;> simp_all
      simp [Result.andThen, sliced, hc, hadd]

/-- 'x[k:]' of entries: wherever it lies, it has the entries behind the first k. -/
theorem slice_from_ents {w : World} {a : Option Addr} {len cap : Nat} {es : List En} (k : Nat) (ki : Int) (hki : ki = (k : Int)) (h : IsEnts w a len es) (hk : k ≤ len) (hc : len ≤ cap) (hm : cap ≤ maxLen) (hn : a = none → cap = 0) :
    ∃ (a2 : Option Addr) (c2 : Nat), (∀ W, (Instr.slice 22 (.slice a len cap) (some (.int .i64 ki)) none none).run Try.prog W = .ok (.slice a2 (len - k) c2) W) ∧ IsEnts w a2 (len - k) (es.drop k) ∧ len - k ≤ c2 ∧ c2 ≤ maxLen ∧ (a2 = none → c2 = 0) := by
  have ht : Try.prog.underlying 22 = some (.slice (Try.prog.elem 22)) := by simp [Program.elem, Try.underlying22]
  have he : Try.prog.elem 22 = 30 := by simp [Program.elem, Try.underlying22]
  subst hki
  have hr : ∀ W, (Instr.slice 22 (.slice a len cap) (some (.int .i64 (k : Int))) none none).run Try.prog W = .ok (sliced a k len cap 2) W := by
    intro W
    rw [run_slice_l W _ _ _ _ ht .i64 _ (by omega) (by omega), he, size_ent]
    simp [Result.andThen]
  by_cases hcap : cap = k
  · refine ⟨a, cap - k, ?_, ?_, by omega, by omega, fun h => by omega⟩
    · intro W
      rw [hr]
      simp [sliced, hcap]
    · exact ⟨by rw [List.length_drop, h.1], .inl (by apply List.drop_of_length_le; have := h.1; omega)⟩
  · cases a with
    | none => exact absurd (hn rfl) (by omega)
    | some x =>
      by_cases hl0 : len = 0
      · refine ⟨some (x.add (k * 2)), cap - k, ?_, ⟨by rw [List.length_drop, h.1], .inl (by apply List.drop_of_length_le; have := h.1; omega)⟩, by omega, by omega, fun h => by cases h⟩
        intro W
        rw [hr]
        simp [sliced, hcap]
      · obtain ⟨b, off, hx, _⟩ : ∃ b off, some x = some (⟨b, off, none⟩ : Addr) ∧ True := by
          rcases h.2 with h2 | ⟨b, off, hx, _⟩
          · have := h.1; rw [h2] at this; simp at this; omega
          · exact ⟨b, off, hx, trivial⟩
        cases hx
        refine ⟨some ⟨b, off + k * 2, none⟩, cap - k, ?_, h.drop hk, by omega, by omega, fun h => by cases h⟩
        intro W
        rw [hr]
        have hadd : (⟨b, off, none⟩ : Addr).add (k * 2) = ⟨b, off + k * 2, none⟩ := by unfold Addr.add; split <;> simp_all
        simp [sliced, hcap, hadd]

/-! ### Rows of entries that the call makes -/
abbrev T2 := Value × Value
def flat2 (l : List T2) : List Value := l.flatMap fun t => [t.1, t.2]

theorem flat2_length (l : List T2) : (flat2 l).length = l.length * 2 := by
  unfold flat2
  induction l with
  | nil => rfl
  | cons v vs ih => simp only [List.flatMap_cons, List.length_append, ih, List.length_cons, List.length_nil]; omega
theorem flat2_at (l : List T2) (i : Nat) (t : T2) (h : l[i]? = some t) : (flat2 l)[i * 2]? = some t.1 ∧ (flat2 l)[i * 2 + 1]? = some t.2 := by
  unfold flat2
  induction l generalizing i with
  | nil => simp at h
  | cons u l ih =>
    cases i with
    | zero => simp at h; subst h; simp
    | succ i =>
      simp only [List.getElem?_cons_succ] at h
      have := ih i h
      rw [show (i + 1) * 2 = i * 2 + 1 + 1 from by omega]
      simpa [List.flatMap_cons] using this
theorem flat2_append (a b : List T2) : flat2 (a ++ b) = flat2 a ++ flat2 b := by unfold flat2; rw [List.flatMap_append]

/-- A row's slice lies apart from the block g (if the row has a value at all). -/
def FarOf (g : Option Nat) (v : Value) (r : List V) : Prop := r ≠ [] → ∀ x n c, v = .slice (some x) n c → g ≠ some x.block

/-- The value owns a row of entries with the rows and counts es; the rows lie elsewhere. -/
def OwnEnts (w : World) (base : Nat) (v : Value) (es : List En) : Prop :=
  ∃ l : List T2, l.length = es.length ∧ w.ownsRow base 30 2 v es.length (flat2 l) ∧ ∀ (i : Nat) (e : En), es[i]? = some e → ∃ rv : Value, l[i]? = some (rv, Value.int .i64 e.cnt) ∧ IsRow w rv e.row ∧ FarOf v.ownBlock rv e.row

theorem OwnEnts.nil (w : World) (base : Nat) : OwnEnts w base (.slice none 0 0) [] := ⟨[], rfl, World.ownsRow_nil _ _ _ _, fun i e h => by simp at h⟩

theorem OwnEnts.below {w w' : World} {base : Nat} {v : Value} {es : List En} (h : OwnEnts w base v es) (hb : Below w.heap.size w w') : OwnEnts w' base v es := by
  obtain ⟨l, h1, h2, h3⟩ := h
  refine ⟨l, h1, own_below h2 hb, fun i e he => ?_⟩
  obtain ⟨rv, a1, a2, a3⟩ := h3 i e he
  exact ⟨rv, a1, a2.below hb (Nat.le_refl _), a3⟩
theorem OwnEnts.alloc {w : World} {base : Nat} {v : Value} {es : List En} (h : OwnEnts w base v es) (o : Obj) : OwnEnts (w.alloc o) base v es := h.below ((Below.refl _ _).alloc (Nat.le_refl _) o)
theorem OwnEnts.drewN {w : World} {base : Nat} {v : Value} {es : List En} (h : OwnEnts w base v es) (n : Nat) : OwnEnts (w.drewN n) base v es := h.below ((⟨rfl, rfl, rfl, Nat.le_refl _, fun _ _ => rfl⟩ : Below w.heap.size w (w.drewN n)))
theorem OwnEnts.drew {w : World} {base : Nat} {v : Value} {es : List En} (h : OwnEnts w base v es) : OwnEnts w.drew base v es := h.drewN 1
theorem OwnEnts.mono {w : World} {base base' : Nat} {v : Value} {es : List En} (h : OwnEnts w base v es) (hb : base' ≤ base) : OwnEnts w base' v es := by
  obtain ⟨l, h1, h2, h3⟩ := h
  exact ⟨l, h1, own_mono h2 hb, h3⟩

/-- What such a value reads as. -/
theorem own_ents {w : World} {base : Nat} {v : Value} {es : List En} (h : OwnEnts w base v es) :
    ∃ a cap, v = .slice a es.length cap ∧ IsEnts w a es.length es ∧ es.length ≤ cap ∧ cap ≤ maxLen ∧ (a = none → cap = 0) ∧ (∀ x, a = some x → ∃ g, x = ⟨g, 0, none⟩ ∧ base ≤ g ∧ g < w.heap.size) := by
  obtain ⟨l, h1, h2, h3⟩ := h
  rcases h2.2 with ⟨rfl, h0⟩ | ⟨g, cap, cur, rfl, hg, hh, hnc, hmc, _, ht⟩
  · exact ⟨none, 0, by rw [h0], ⟨rfl, .inl (List.eq_nil_of_length_eq_zero h0)⟩, by omega, Nat.zero_le _, fun _ => rfl, by simp⟩
  · have hlt : g < w.heap.size := (Array.getElem?_eq_some_iff.1 hh).1
    refine ⟨_, cap, rfl, ⟨rfl, .inr ⟨g, 0, rfl, hlt, fun i e he => ?_⟩⟩, hnc, hmc, (by rintro ⟨⟩), by rintro x ⟨⟩; exact ⟨g, rfl, hg, hlt⟩⟩
    obtain ⟨rv, a1, a2, _⟩ := h3 i e he
    obtain ⟨f0, f1⟩ := flat2_at l i _ a1
    have hi := (List.getElem?_eq_some_iff.1 he).1
    refine ⟨rv, ?_, ?_, a2⟩
    · rw [Nat.zero_add, h2.cellAt (i * 2) (by omega)]; exact f0
    · rw [Nat.zero_add, h2.cellAt (i * 2 + 1) (by omega)]; exact f1

/-- One entry more, by append. -/
theorem OwnEnts.push {w w' : World} {base : Nat} {v rv : Value} {es : List En} {l : List T2} {e : En} {g cap : Nat}
    (h1 : l.length = es.length) (h3 : ∀ (i : Nat) (e : En), es[i]? = some e → ∃ rv : Value, l[i]? = some (rv, Value.int .i64 e.cnt) ∧ IsRow w rv e.row ∧ FarOf v.ownBlock rv e.row)
    (hr : IsRow w rv e.row) (hf : FarOf v.ownBlock rv e.row)
    (hown : w'.ownsRow base 30 2 (.slice (some ⟨g, 0, none⟩) (es.length + 1) cap) (es.length + 1) (flat2 l ++ [rv, .int .i64 e.cnt])) (hgrow : w.grownBy w' v.ownBlock) (hat : v.ownBlock = some g ∨ w.heap.size ≤ g) :
    OwnEnts w' base (.slice (some ⟨g, 0, none⟩) (es.length + 1) cap) (es ++ [e]) := by
  have keep : ∀ u r, IsRow w u r → FarOf v.ownBlock u r → IsRow w' u r ∧ FarOf (some g) u r := fun u r hu hfu => by
    obtain ⟨a, n, c, rfl, g1, g2⟩ := hu
    refine ⟨⟨a, n, c, rfl, g1.grown hgrow fun hne x hx => hfu hne x n c (by rw [hx]), g2⟩, fun hne x n' c' hx => ?_⟩
    cases hx
    rcases hat with hat | hat
    · have := hfu hne x n c rfl
      rwa [hat] at this
    · rcases g1.2 with h0 | ⟨b, off, hx, hlt, _⟩
      · exact absurd h0 hne
      · cases hx
        intro hc
        cases hc
        exact absurd hlt (Nat.not_lt.2 hat)
  refine ⟨l ++ [(rv, .int .i64 e.cnt)], by simp [h1], ?_, fun i x hx => ?_⟩
  · rw [flat2_append, List.length_append]
    exact hown
  · by_cases hi : i < es.length
    · rw [List.getElem?_append_left hi] at hx
      obtain ⟨u, a1, a2, a3⟩ := h3 i x hx
      obtain ⟨k1, k2⟩ := keep u _ a2 a3
      exact ⟨u, by rw [List.getElem?_append_left (by omega)]; exact a1, k1, k2⟩
    · have hlt := (List.getElem?_eq_some_iff.1 hx).1
      simp only [List.length_append, List.length_cons, List.length_nil] at hlt
      obtain rfl : i = es.length := by omega
      rw [List.getElem?_append_right (Nat.le_refl _), Nat.sub_self] at hx
      simp at hx
      subst hx
      obtain ⟨k1, k2⟩ := keep rv _ hr hf
      exact ⟨rv, by rw [List.getElem?_append_right (by omega), h1, Nat.sub_self]; rfl, k1, k2⟩

/-- The call returns a new list of entries. -/
def EntsPost (w : World) (out : List En) (e : Ending) (w' : World) : Prop := ∃ sv : Value, e = .returned sv ∧ OwnEnts w' w.heap.size sv out ∧ Below w.heap.size w w'
/-- The call returns a new list of entries, and an error. -/
def EntsErr (w : World) (out : List En × Int) (e : Ending) (w' : World) : Prop := ∃ sv : Value, e = .returned (.tuple #[sv, .int .i64 out.2]) ∧ OwnEnts w' w.heap.size sv out.1 ∧ Below w.heap.size w w'

end Go.Proofs.Ytdhhhmehkldliaa
