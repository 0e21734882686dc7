/-
  A zone that came in.
-/
import Derived.Test.YtfknoclmpdnkdaaGLift
import Derived.Test.YtfknoclmpdnkdaaZLeaf
import Derived.Deep.Slices
import Derived.ChangeSame
set_option linter.unusedVariables false
namespace Go.Proofs.Ytfknoclmpdnkdaa
open Go.ChangeShapes Go.WideShapes Go.ChangeAt Go.RowKit Go.Deep Go.Joins Wh

theorem cellsZone : Try.prog.cellsOf 24 = 3 := by kernel_rfl
theorem cellsShift : Try.prog.cellsOf 28 = 2 := by kernel_rfl

theorem choose_list {α : Type} (P : Nat → α → Prop) : ∀ n : Nat, (∀ i, i < n → ∃ v, P i v) → ∃ vs : List α, vs.length = n ∧ ∀ i v, vs[i]? = some v → P i v
  | 0, _ => ⟨[], rfl, by simp⟩
  | n + 1, h => by
    obtain ⟨vs, hl, hv⟩ := choose_list P n fun i hi => h i (by omega)
    obtain ⟨v, hp⟩ := h n (by omega)
    refine ⟨vs ++ [v], by simp [hl], fun i u hu => ?_⟩
    by_cases hi : i < n
    · rw [List.getElem?_append_left (by omega)] at hu
      exact hv i u hu
    · have hlt := (List.getElem?_eq_some_iff.1 hu).1
      simp only [List.length_append, List.length_cons, List.length_nil] at hlt
      obtain rfl : i = n := by omega
      rw [List.getElem?_append_right (by omega), hl] at hu
      simp at hu
      subst hu
      exact hp

theorem open_zone {H : Type} {enc : TypeId × Value → H} {W : World} {base : Nat} {v : Value} {d : DataW H} {p : List MemPlace} (hv : Value.okWide Try.prog W .any base 24 v)
    (h : DataW.Trod enc Try.prog W 0 (fun _ => true) true 24 v d p) :
    ∃ (nm : ByteArray) (o : Int) (a : Option Addr) (len cap : Nat) (l : List (Int × Int)), v = zoneV nm o a len cap ∧ IsShifts W a len l ∧ len ≤ cap ∧ cap ≤ maxLen := by
  obtain ⟨c0, c1, c2, y0, y1, y2, m, rfl, rfl, rfl, h0, h1, h2⟩ := open_agg3 Try.underlying24 (by kernel_rfl) cellsZone hv h
  obtain ⟨s, e0, _, ws⟩ := DataW.trod_string Try.underlying9 h0
  obtain ⟨o, e1, _, wo⟩ := DataW.trod_int Try.underlying3 h1
  simp at e0 e1
  subst e0 e1
  refine ⟨s, o, ?_⟩
  suffices hs : ∃ (a : Option Addr) (len cap : Nat) (l : List (Int × Int)), c2 = .slice a len cap ∧ IsShifts W a len l ∧ len ≤ cap ∧ cap ≤ maxLen by
    obtain ⟨a, len, cap, l, rfl, h1, h2, h3⟩ := hs
    exact ⟨a, len, cap, l, rfl, h1, h2, h3⟩
  clear hv h h0 h1 wo ws
  rcases open_slice Try.underlying22 h2 with ⟨hcs, _⟩ | ⟨x, len, cap, m', n, D, Pl, hcs, _, hl, hm, hmm, _, hi⟩
  · obtain rfl : c2 = .slice none 0 0 := by simpa using hcs
    exact ⟨none, 0, 0, [], rfl, ⟨rfl, .inl rfl⟩, Nat.le_refl _, Nat.zero_le _⟩
  · obtain rfl : c2 = .slice (some x) len cap := by simpa using hcs
    simp only [if_true] at hmm
    subst hmm
    rw [cellsShift] at hi
    suffices hs : ∃ l, IsShifts W (some x) len l by
      obtain ⟨l, h⟩ := hs
      exact ⟨_, _, _, l, rfl, h, hl, hm⟩
    by_cases h0 : len = 0
    · subst h0
      exact ⟨[], rfl, .inl rfl⟩
    · have hone : ∀ i, i < len → ∃ s : Int × Int, W.cell? ((x.add (i * 2)).add 0) = some (.int .i64 s.1) ∧ W.cell? ((x.add (i * 2)).add 1) = some (.int .i64 s.2) := by
        intro i hil
        obtain ⟨cs', hc, ht⟩ := hi i (by omega)
        obtain ⟨_, hcl, hat⟩ := World.cells?_some hc
        obtain ⟨z0, z1, k, _, _, t0, t1⟩ := trod_struct2 Try.underlying28 ht
        match cs', hcl with
        | [c0, c1], _ =>
          obtain ⟨k, e0, _, _⟩ := DataW.trod_int Try.underlying3 t0
          obtain ⟨n, e1, _, _⟩ := DataW.trod_int Try.underlying3 t1
          have q0 : c0 = .int .i64 k := by simpa [show Try.prog.cellsOf 3 = 1 from by kernel_rfl] using e0
          have q1 : c1 = .int .i64 n := by simpa [show Try.prog.cellsOf 3 = 1 from by kernel_rfl] using e1
          subst q0 q1
          exact ⟨(k, n), hat 0 (by omega), hat 1 (by omega)⟩
      obtain ⟨b, off, spot⟩ := x
      obtain ⟨v0, hz, _⟩ := hone 0 (by omega)
      have hspot : spot = none := by simpa [Addr.add] using World.cell?_spot hz
      subst hspot
      have hadd : ∀ o j, (⟨b, o, none⟩ : Addr).add j = ⟨b, o + j, none⟩ := fun o j => by unfold Addr.add; split <;> simp_all
      obtain ⟨vs, hvl, hvs⟩ := choose_list _ len hone
      refine ⟨vs, hvl, .inr ⟨b, off, rfl, World.block_lt_of_cell? W _ hz, fun i v hv => ?_⟩⟩
      have := hvs i v hv
      simpa only [hadd, Nat.add_zero] using this

end Go.Proofs.Ytfknoclmpdnkdaa
