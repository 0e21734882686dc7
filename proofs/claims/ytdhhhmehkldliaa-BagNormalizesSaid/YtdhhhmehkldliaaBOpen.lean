/-
  Lists of entries and lists of rows that came in.
-/
import Derived.Test.YtdhhhmehkldliaaGLift
import Derived.Test.YtdhhhmehkldliaaGInts
import Derived.Test.YtdhhhmehkldliaaGEnts
import Derived.Deep.Slices
import Derived.Deep.Strs
import Derived.ChangeArms
import Derived.ChangeMaps5
import Derived.ChangeSame
set_option linter.unusedVariables false
set_option maxRecDepth 100000
namespace Go.Proofs.Ytdhhhmehkldliaa
open Go.ChangeShapes Go.WideShapes Go.ChangeAt Go.RowKit Go.Deep Go.Joins Wh

theorem cellsVal6 : Try.prog.cellsOf 38 = 3 := by kernel_rfl
theorem cellsEnt6 : Try.prog.cellsOf 30 = 2 := by kernel_rfl

/-- Values, wherever they lie. -/
theorem vals_of_trod {H : Type} {enc : TypeId × Value → H} {W : World} {fuel : Nat} {cs : List Value} {x : DataW H × List MemPlace}
    (hf : DataW.trod enc Try.prog W 0 (fun _ => true) true fuel 28 cs = some x) :
    ∃ (a : Option Addr) (len cap : Nat) (vs : List V), cs = [.slice a len cap] ∧ IsVals W a len vs ∧ len ≤ cap ∧ cap ≤ maxLen ∧ (a = none → cap = 0) := by
  rcases open_slice Try.underlying28 hf with ⟨hcs, _⟩ | ⟨x, len, cap, m, n, D, Pl, hcs, _, hl, hm, hmm, _, hi⟩
  · exact ⟨none, 0, 0, [], hcs, ⟨rfl, .inl rfl⟩, Nat.le_refl _, Nat.zero_le _, fun _ => rfl⟩
  · simp only [if_true] at hmm
    subst hmm
    rw [cellsVal6] at hi
    suffices hs : ∃ vs, IsVals W (some x) len vs by
      obtain ⟨vs, h⟩ := hs
      exact ⟨_, _, _, vs, hcs, h, hl, hm, fun h => by cases h⟩
    by_cases h0 : len = 0
    · subst h0
      exact ⟨[], rfl, .inl rfl⟩
    · have hone : ∀ i, i < len → ∃ v : V, W.cell? ((x.add (i * 3)).add 0) = some (.int .i64 v.k) ∧ W.cell? ((x.add (i * 3)).add 1) = some (.int .i64 v.n) ∧ W.cell? ((x.add (i * 3)).add 2) = some (.string v.s) := by
        intro i hil
        obtain ⟨cs', hc, ht⟩ := hi i (by omega)
        obtain ⟨_, hcl, hat⟩ := World.cells?_some hc
        obtain ⟨y0, y1, y2, k, _, _, t0, t1, t2⟩ := trod_struct3 Try.underlying38 ht
        match cs', hcl with
        | [c0, c1, c2], _ =>
          obtain ⟨k, e0, _, _⟩ := DataW.trod_int Try.underlying3 t0
          obtain ⟨n, e1, _, _⟩ := DataW.trod_int Try.underlying3 t1
          obtain ⟨s, e2, _, _⟩ := DataW.trod_string Try.underlying9 t2
          have q0 : c0 = .int .i64 k := by simpa [show Try.prog.cellsOf 3 = 1 from by kernel_rfl] using e0
          have q1 : c1 = .int .i64 n := by simpa [show Try.prog.cellsOf 3 = 1 from by kernel_rfl] using e1
          have q2 : c2 = .string s := by simpa [show Try.prog.cellsOf 9 = 1 from by kernel_rfl] using e2
          subst q0 q1 q2
          exact ⟨⟨k, n, s⟩, hat 0 (by omega), hat 1 (by omega), hat 2 (by omega)⟩
      obtain ⟨b, off, spot⟩ := x
      obtain ⟨v0, hz, _⟩ := hone 0 (by omega)
      have hspot : spot = none := by simpa [Addr.add] using World.cell?_spot hz
      subst hspot
      have hadd : ∀ o j, (⟨b, o, none⟩ : Addr).add j = ⟨b, o + j, none⟩ := fun o j => by unfold Addr.add; split <;> simp_all
      obtain ⟨vs, hvl, hvs⟩ := choose_list _ len hone
      refine ⟨vs, hvl, .inr ⟨b, off, rfl, World.block_lt_of_cell? W _ hz, fun i v hv => ?_⟩⟩
      have := hvs i v hv
      simpa only [hadd, Nat.add_zero] using this

/-- Values that came in. -/
theorem open_rowvals {H : Type} {enc : TypeId × Value → H} {W : World} {base : Nat} {v : Value} {d : DataW H} {p : List MemPlace} (hv : Value.okWide Try.prog W .any base 28 v)
    (h : DataW.Trod enc Try.prog W 0 (fun _ => true) true 28 v d p) :
    ∃ (a : Option Addr) (len cap : Nat) (vs : List V), v = .slice a len cap ∧ IsVals W a len vs ∧ len ≤ cap ∧ cap ≤ maxLen ∧ (a = none → cap = 0) := by
  obtain ⟨a, len, cap, rfl⟩ := okWide_slice Try.underlying28 hv
  obtain ⟨fuel, hf⟩ := h
  obtain ⟨a2, len2, cap2, vs, hcs, h1, h2, h3, h4⟩ := vals_of_trod hf
  simp [Value.cells] at hcs
  obtain ⟨rfl, rfl, rfl⟩ := hcs
  exact ⟨_, _, _, vs, rfl, h1, h2, h3, h4⟩

/-- Entries that came in. -/
theorem open_ents {H : Type} {enc : TypeId × Value → H} {W : World} {base : Nat} {v : Value} {d : DataW H} {p : List MemPlace} (hv : Value.okWide Try.prog W .any base 22 v)
    (h : DataW.Trod enc Try.prog W 0 (fun _ => true) true 22 v d p) :
    ∃ (a : Option Addr) (len cap : Nat) (es : List En), v = .slice a len cap ∧ IsEnts W a len es ∧ len ≤ cap ∧ cap ≤ maxLen ∧ (a = none → cap = 0) ∧ ∀ e ∈ es, -9223372036854775808 ≤ e.cnt ∧ e.cnt ≤ 9223372036854775807 := by
  obtain ⟨a, len, cap, rfl⟩ := okWide_slice Try.underlying22 hv
  obtain ⟨fuel, hf⟩ := h
  rcases open_slice Try.underlying22 hf with ⟨hcs, _⟩ | ⟨x, l, c, m, n, D, Pl, hcs, _, hl, hm, hmm, _, hi⟩
  · simp [Value.cells] at hcs
    obtain ⟨rfl, rfl, rfl⟩ := hcs
    exact ⟨none, 0, 0, [], rfl, ⟨rfl, .inl rfl⟩, Nat.le_refl _, Nat.zero_le _, fun _ => rfl, by simp⟩
  · simp [Value.cells] at hcs
    obtain ⟨rfl, rfl, rfl⟩ := hcs
    simp only [if_true] at hmm
    subst hmm
    rw [cellsEnt6] at hi
    suffices hs : ∃ es, IsEnts W (some x) len es ∧ ∀ e ∈ es, -9223372036854775808 ≤ e.cnt ∧ e.cnt ≤ 9223372036854775807 by
      obtain ⟨vs, h, hb⟩ := hs
      exact ⟨_, _, _, vs, rfl, h, hl, hm, (fun h => by cases h), hb⟩
    by_cases h0 : len = 0
    · subst h0
      exact ⟨[], ⟨rfl, .inl rfl⟩, by simp⟩
    · have hone : ∀ i, i < len → ∃ e : En, (∃ v, W.cell? ((x.add (i * 2)).add 0) = some v ∧ W.cell? ((x.add (i * 2)).add 1) = some (.int .i64 e.cnt) ∧ IsRow W v e.row) ∧ -9223372036854775808 ≤ e.cnt ∧ e.cnt ≤ 9223372036854775807 := by
        intro i hil
        obtain ⟨cs', hc, ht⟩ := hi i (by omega)
        obtain ⟨_, hcl, hat⟩ := World.cells?_some hc
        obtain ⟨y0, y1, k, _, _, t0, t1⟩ := trod_struct2 Try.underlying30 ht
        match cs', hcl with
        | [c0, c1], _ =>
          obtain ⟨a0, l0, k0, vs, e0, hv0, g1, g2, g3⟩ := vals_of_trod t0
          obtain ⟨n, e1, _, w1⟩ := DataW.trod_int Try.underlying3 t1
          have q0 : c0 = .slice a0 l0 k0 := by simpa [show Try.prog.cellsOf 28 = 1 from by kernel_rfl] using e0
          have q1 : c1 = .int .i64 n := by simpa [show Try.prog.cellsOf 3 = 1 from by kernel_rfl] using e1
          subst q0 q1
          exact ⟨⟨vs, n⟩, ⟨_, hat 0 (by omega), hat 1 (by omega), a0, l0, k0, rfl, hv0, g1, g2, g3⟩, bounds_i64 w1⟩
      obtain ⟨b, off, spot⟩ := x
      obtain ⟨v0, ⟨_, hz, _⟩, _⟩ := hone 0 (by omega)
      have hspot : spot = none := by simpa [Addr.add] using World.cell?_spot hz
      subst hspot
      have hadd : ∀ o j, (⟨b, o, none⟩ : Addr).add j = ⟨b, o + j, none⟩ := fun o j => by unfold Addr.add; split <;> simp_all
      obtain ⟨es, hel, hes⟩ := choose_list _ len hone
      refine ⟨es, ⟨hel, .inr ⟨b, off, rfl, World.block_lt_of_cell? W _ hz, fun i e he => ?_⟩⟩, fun e he => ?_⟩
      · have := (hes i e he).1
        simpa only [hadd, Nat.add_zero] using this
      · obtain ⟨i, hi⟩ := List.mem_iff_getElem?.1 he
        exact (hes i e hi).2

end Go.Proofs.Ytdhhhmehkldliaa
