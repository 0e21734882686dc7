/-
  Slices that came in: of columns, of values, of texts.
-/
import Derived.Test.YtdlkkajkflebgaaGLift
import Derived.Test.YtdlkkajkflebgaaGInts
import Derived.Test.YtdlkkajkflebgaaSLeaf
import Derived.Test.YtdlkkajkflebgaaGVal
import Derived.Deep.Slices
import Derived.Deep.Strs
import Derived.ChangeArms
import Derived.ChangeMaps5
import Derived.ChangeSame
set_option linter.unusedVariables false
namespace Go.Proofs.Ytdlkkajkflebgaa
open Go.ChangeShapes Go.WideShapes Go.ChangeAt Go.RowKit Go.Deep Go.Joins Wh

theorem cellsCol : Try.prog.cellsOf 55 = 3 := by kernel_rfl
theorem cellsVal : Try.prog.cellsOf 40 = 3 := by kernel_rfl
theorem cellsStr : Try.prog.cellsOf 9 = 1 := by kernel_rfl

/-- Columns, with: a nil slice has no capacity. -/
theorem open_cols {H : Type} {enc : TypeId × Value → H} {W : World} {base : Nat} {v : Value} {d : DataW H} {p : List MemPlace} (hv : Value.okWide Try.prog W .any base 28 v)
    (h : DataW.Trod enc Try.prog W 0 (fun _ => true) true 28 v d p) :
    ∃ (a : Option Addr) (len cap : Nat) (vs : List C), v = .slice a len cap ∧ IsCols W a len vs ∧ len ≤ cap ∧ cap ≤ maxLen ∧ (a = none → cap = 0) := by
  obtain ⟨a, len, cap, rfl⟩ := okWide_slice Try.underlying28 hv
  obtain ⟨fuel, hf⟩ := h
  rcases open_slice Try.underlying28 hf with ⟨hcs, _⟩ | ⟨x, l, c, m, n, D, Pl, hcs, _, hl, hm, hmm, _, hi⟩
  · simp [Value.cells] at hcs
    obtain ⟨rfl, rfl, rfl⟩ := hcs
    exact ⟨none, 0, 0, [], rfl, ⟨rfl, .inl rfl⟩, Nat.le_refl _, Nat.zero_le _, fun _ => rfl⟩
  · simp [Value.cells] at hcs
    obtain ⟨rfl, rfl, rfl⟩ := hcs
    simp only [if_true] at hmm
    subst hmm
    rw [cellsCol] at hi
    suffices hs : ∃ vs, IsCols W (some x) len vs by
      obtain ⟨vs, h⟩ := hs
      exact ⟨_, _, _, vs, rfl, h, hl, hm, fun h => by cases h⟩
    by_cases h0 : len = 0
    · subst h0
      exact ⟨[], rfl, .inl rfl⟩
    · have hone : ∀ i, i < len → ∃ v : C, W.cell? ((x.add (i * 3)).add 0) = some (.string v.nm) ∧ W.cell? ((x.add (i * 3)).add 1) = some (.int .i64 v.k) ∧ W.cell? ((x.add (i * 3)).add 2) = some (.bool v.nu) := by
        intro i hil
        obtain ⟨cs', hc, ht⟩ := hi i (by omega)
        obtain ⟨_, hcl, hat⟩ := World.cells?_some hc
        obtain ⟨y0, y1, y2, k, _, _, t0, t1, t2⟩ := trod_struct3 Try.underlying55 ht
        match cs', hcl with
        | [c0, c1, c2], _ =>
          obtain ⟨k, e0, _, _⟩ := DataW.trod_string Try.underlying9 t0
          obtain ⟨n, e1, _, _⟩ := DataW.trod_int Try.underlying3 t1
          obtain ⟨s, e2, _⟩ := DataW.trod_bool Try.underlying4 t2
          have q0 : c0 = .string k := by simpa [show Try.prog.cellsOf 9 = 1 from by kernel_rfl] using e0
          have q1 : c1 = .int .i64 n := by simpa [show Try.prog.cellsOf 3 = 1 from by kernel_rfl] using e1
          have q2 : c2 = .bool s := by simpa [show Try.prog.cellsOf 4 = 1 from by kernel_rfl] using e2
          subst q0 q1 q2
          exact ⟨⟨k, n, s⟩, hat 0 (by omega), hat 1 (by omega), hat 2 (by omega)⟩
      obtain ⟨b, off, spot⟩ := x
      obtain ⟨v0, hz, _⟩ := hone 0 (by omega)
      have hspot : spot = none := by simpa [Addr.add] using World.cell?_spot hz
      subst hspot
      have hadd : ∀ o j, (⟨b, o, none⟩ : Addr).add j = ⟨b, o + j, none⟩ := fun o j => by unfold Addr.add; split <;> simp_all
      obtain ⟨vs, hvl, hvs⟩ := choose_list _ len hone
      refine ⟨vs, hvl, .inr ⟨b, off, rfl, World.block_lt_of_cell? W _ hz, fun i v hv => ?_⟩⟩
      have := hvs i v hv
      simpa only [hadd, Nat.add_zero] using this

/-- Values, with: a nil slice has no capacity. -/
theorem open_rowvals {H : Type} {enc : TypeId × Value → H} {W : World} {base : Nat} {v : Value} {d : DataW H} {p : List MemPlace} (hv : Value.okWide Try.prog W .any base 37 v)
    (h : DataW.Trod enc Try.prog W 0 (fun _ => true) true 37 v d p) :
    ∃ (a : Option Addr) (len cap : Nat) (vs : List V), v = .slice a len cap ∧ IsVals W a len vs ∧ len ≤ cap ∧ cap ≤ maxLen ∧ (a = none → cap = 0) := by
  obtain ⟨a, len, cap, rfl⟩ := okWide_slice Try.underlying37 hv
  obtain ⟨fuel, hf⟩ := h
  rcases open_slice Try.underlying37 hf with ⟨hcs, _⟩ | ⟨x, l, c, m, n, D, Pl, hcs, _, hl, hm, hmm, _, hi⟩
  · simp [Value.cells] at hcs
    obtain ⟨rfl, rfl, rfl⟩ := hcs
    exact ⟨none, 0, 0, [], rfl, ⟨rfl, .inl rfl⟩, Nat.le_refl _, Nat.zero_le _, fun _ => rfl⟩
  · simp [Value.cells] at hcs
    obtain ⟨rfl, rfl, rfl⟩ := hcs
    simp only [if_true] at hmm
    subst hmm
    rw [cellsVal] at hi
    suffices hs : ∃ vs, IsVals W (some x) len vs by
      obtain ⟨vs, h⟩ := hs
      exact ⟨_, _, _, vs, rfl, h, hl, hm, fun h => by cases h⟩
    by_cases h0 : len = 0
    · subst h0
      exact ⟨[], rfl, .inl rfl⟩
    · have hone : ∀ i, i < len → ∃ v : V, W.cell? ((x.add (i * 3)).add 0) = some (.int .i64 v.k) ∧ W.cell? ((x.add (i * 3)).add 1) = some (.int .i64 v.n) ∧ W.cell? ((x.add (i * 3)).add 2) = some (.string v.s) := by
        intro i hil
        obtain ⟨cs', hc, ht⟩ := hi i (by omega)
        obtain ⟨_, hcl, hat⟩ := World.cells?_some hc
        obtain ⟨y0, y1, y2, k, _, _, t0, t1, t2⟩ := trod_struct3 Try.underlying40 ht
        match cs', hcl with
        | [c0, c1, c2], _ =>
          obtain ⟨k, e0, _, _⟩ := DataW.trod_int Try.underlying3 t0
          obtain ⟨n, e1, _, _⟩ := DataW.trod_int Try.underlying3 t1
          obtain ⟨s, e2, _, _⟩ := DataW.trod_string Try.underlying9 t2
          have q0 : c0 = .int .i64 k := by simpa [show Try.prog.cellsOf 3 = 1 from by kernel_rfl] using e0
          have q1 : c1 = .int .i64 n := by simpa [show Try.prog.cellsOf 3 = 1 from by kernel_rfl] using e1
          have q2 : c2 = .string s := by simpa [show Try.prog.cellsOf 9 = 1 from by kernel_rfl] using e2
          subst q0 q1 q2
          exact ⟨⟨k, n, s⟩, hat 0 (by omega), hat 1 (by omega), hat 2 (by omega)⟩
      obtain ⟨b, off, spot⟩ := x
      obtain ⟨v0, hz, _⟩ := hone 0 (by omega)
      have hspot : spot = none := by simpa [Addr.add] using World.cell?_spot hz
      subst hspot
      have hadd : ∀ o j, (⟨b, o, none⟩ : Addr).add j = ⟨b, o + j, none⟩ := fun o j => by unfold Addr.add; split <;> simp_all
      obtain ⟨vs, hvl, hvs⟩ := choose_list _ len hone
      refine ⟨vs, hvl, .inr ⟨b, off, rfl, World.block_lt_of_cell? W _ hz, fun i v hv => ?_⟩⟩
      have := hvs i v hv
      simpa only [hadd, Nat.add_zero] using this

/-- Texts, with: a nil slice has no capacity. -/
theorem open_strlist {H : Type} {enc : TypeId × Value → H} {W : World} {base : Nat} {v : Value} {d : DataW H} {p : List MemPlace} (hv : Value.okWide Try.prog W .any base 24 v)
    (h : DataW.Trod enc Try.prog W 0 (fun _ => true) true 24 v d p) :
    ∃ (a : Option Addr) (len cap : Nat) (vs : List ByteArray), v = .slice a len cap ∧ IsStrs W a len vs ∧ len ≤ cap ∧ cap ≤ maxLen ∧ (a = none → cap = 0) := by
  obtain ⟨a, len, cap, rfl⟩ := okWide_slice Try.underlying24 hv
  obtain ⟨fuel, hf⟩ := h
  rcases open_slice Try.underlying24 hf with ⟨hcs, _⟩ | ⟨x, l, c, m, n, D, Pl, hcs, _, hl, hm, hmm, _, hi⟩
  · simp [Value.cells] at hcs
    obtain ⟨rfl, rfl, rfl⟩ := hcs
    exact ⟨none, 0, 0, [], rfl, ⟨rfl, .inl rfl⟩, Nat.le_refl _, Nat.zero_le _, fun _ => rfl⟩
  · simp [Value.cells] at hcs
    obtain ⟨rfl, rfl, rfl⟩ := hcs
    simp only [if_true] at hmm
    subst hmm
    rw [cellsStr] at hi
    suffices hs : ∃ vs, IsStrs W (some x) len vs by
      obtain ⟨vs, h⟩ := hs
      exact ⟨_, _, _, vs, rfl, h, hl, hm, fun h => by cases h⟩
    by_cases h0 : len = 0
    · subst h0
      exact ⟨[], rfl, .inl rfl⟩
    · have hone : ∀ i, i < len → ∃ v : ByteArray, W.cell? ((x.add (i * 1)).add 0) = some (.string v) := by
        intro i hil
        obtain ⟨cs', hc, ht⟩ := hi i (by omega)
        obtain ⟨_, hcl, hat⟩ := World.cells?_some hc
        obtain ⟨s, e0, _, _⟩ := DataW.trod_string Try.underlying9 ht
        subst e0
        exact ⟨s, hat 0 (by simp)⟩
      obtain ⟨b, off, spot⟩ := x
      obtain ⟨v0, hz⟩ := hone 0 (by omega)
      have hspot : spot = none := by simpa [Addr.add] using World.cell?_spot hz
      subst hspot
      have hadd : ∀ o j, (⟨b, o, none⟩ : Addr).add j = ⟨b, o + j, none⟩ := fun o j => by unfold Addr.add; split <;> simp_all
      obtain ⟨vs, hvl, hvs⟩ := choose_list _ len hone
      refine ⟨vs, hvl, .inr ⟨b, off, rfl, World.block_lt_of_cell? W _ hz, fun i v hv => ?_⟩⟩
      have := hvs i v hv
      simpa only [hadd, Nat.add_zero, Nat.mul_one] using this

end Go.Proofs.Ytdlkkajkflebgaa
