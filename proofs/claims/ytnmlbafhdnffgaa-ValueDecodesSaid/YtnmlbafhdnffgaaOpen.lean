/-
  Slices that came in: of structs, of integers, of bytes.
-/
import Derived.Test.YtnmlbafhdnffgaaLift
import Derived.Deep.Slices
import Derived.Deep.Strs
set_option linter.unusedVariables false
namespace Go.Proofs.Ytnmlbafhdnffgaa
open Go.ChangeShapes Go.WideShapes Go.ChangeAt Go.RowKit Go.Deep Wh

/-- The slice (a, len) has the integers zs. -/
def IsInts (w : World) (a : Option Addr) (len : Nat) (zs : List Int) : Prop :=
  zs.length = len ∧ (zs = [] ∨ ∃ b off, a = some ⟨b, off, none⟩ ∧ b < w.heap.size ∧ ∀ i z, zs[i]? = some z → w.cell? ⟨b, off + i, none⟩ = some (.int .i64 z))

/-- The slice (a, len) has the bytes l. -/
def IsBytes (w : World) (a : Option Addr) (len : Nat) (l : List UInt8) : Prop :=
  l.length = len ∧ (l = [] ∨ ∃ b off, a = some ⟨b, off, none⟩ ∧ b < w.heap.size ∧ ∀ i x, l[i]? = some x → w.cell? ⟨b, off + i, none⟩ = some (B x))

theorem choose_list {α : Type} (P : Nat → α → Prop) : ∀ n : Nat, (∀ i, i < n → ∃ v, P i v) → ∃ vs : List α, vs.length = n ∧ ∀ i v, vs[i]? = some v → P i v
  | 0, _ => ⟨[], rfl, by simp⟩
  | n + 1, h => by
    obtain ⟨vs, hl, hv⟩ := choose_list P n fun i hi => h i (by omega)
    obtain ⟨v, hp⟩ := h n (by omega)
    refine ⟨vs ++ [v], by simp [hl], fun i u hu => ?_⟩
    by_cases hi : i < n
    · rw [List.getElem?_append_left (by omega)] at hu
      exact hv i u hu
    · have hlt := (List.getElem?_eq_some_iff.1 hu).1
      simp only [List.length_append, List.length_cons, List.length_nil] at hlt
      obtain rfl : i = n := by omega
      rw [List.getElem?_append_right (by omega), hl] at hu
      simp at hu
      subst hu
      exact hp

/-- .. with: a nil slice has no capacity. -/
theorem open_valsN {H : Type} {enc : TypeId × Value → H} {W : World} {base : Nat} {v : Value} {d : DataW H} {p : List MemPlace} (hv : Value.okWide Try.prog W .any base 31 v)
    (h : DataW.Trod enc Try.prog W 0 (fun _ => true) true 31 v d p) :
    ∃ (a : Option Addr) (len cap : Nat) (vs : List V), v = .slice a len cap ∧ IsVals W a len vs ∧ len ≤ cap ∧ cap ≤ maxLen ∧ (a = none → cap = 0) := by
  obtain ⟨a, len, cap, rfl⟩ := okWide_slice Try.underlying31 hv
  obtain ⟨fuel, hf⟩ := h
  rcases open_slice Try.underlying31 hf with ⟨hcs, _⟩ | ⟨x, l, c, m, n, D, Pl, hcs, _, hl, hm, hmm, _, hi⟩
  · simp [Value.cells] at hcs
    obtain ⟨rfl, rfl, rfl⟩ := hcs
    exact ⟨none, 0, 0, [], rfl, ⟨rfl, .inl rfl⟩, Nat.le_refl _, Nat.zero_le _, fun _ => rfl⟩
  · simp [Value.cells] at hcs
    obtain ⟨rfl, rfl, rfl⟩ := hcs
    simp only [if_true] at hmm
    subst hmm
    rw [cellsV] at hi
    suffices hs : ∃ vs, IsVals W (some x) len vs by
      obtain ⟨vs, h⟩ := hs
      exact ⟨_, _, _, vs, rfl, h, hl, hm, fun h => by cases h⟩
    by_cases h0 : len = 0
    · subst h0
      exact ⟨[], rfl, .inl rfl⟩
    · have hone : ∀ i, i < len → ∃ v : V, W.cell? ((x.add (i * 3)).add 0) = some (.int .i64 v.k) ∧ W.cell? ((x.add (i * 3)).add 1) = some (.int .i64 v.n) ∧ W.cell? ((x.add (i * 3)).add 2) = some (.string v.s) := by
        intro i hil
        obtain ⟨cs', hc, ht⟩ := hi i (by omega)
        obtain ⟨_, hcl, hat⟩ := World.cells?_some hc
        obtain ⟨y0, y1, y2, k, _, _, t0, t1, t2⟩ := trod_struct3 Try.underlying23 ht
        match cs', hcl with
        | [c0, c1, c2], _ =>
          obtain ⟨k, e0, _, _⟩ := DataW.trod_int Try.underlying3 t0
          obtain ⟨n, e1, _, _⟩ := DataW.trod_int Try.underlying3 t1
          obtain ⟨s, e2, _, _⟩ := DataW.trod_string Try.underlying9 t2
          have q0 : c0 = .int .i64 k := by simpa [show Try.prog.cellsOf 3 = 1 from by kernel_rfl] using e0
          have q1 : c1 = .int .i64 n := by simpa [show Try.prog.cellsOf 3 = 1 from by kernel_rfl] using e1
          have q2 : c2 = .string s := by simpa [show Try.prog.cellsOf 9 = 1 from by kernel_rfl] using e2
          subst q0 q1 q2
          refine ⟨⟨k, n, s⟩, ?_, ?_, ?_⟩
          · exact hat 0 (by omega)
          · exact hat 1 (by omega)
          · exact hat 2 (by omega)
      obtain ⟨b, off, spot⟩ := x
      obtain ⟨v0, hz, _⟩ := hone 0 (by omega)
      have hspot : spot = none := by simpa [Addr.add] using World.cell?_spot hz
      subst hspot
      have hadd : ∀ o j, (⟨b, o, none⟩ : Addr).add j = ⟨b, o + j, none⟩ := fun o j => by unfold Addr.add; split <;> simp_all
      obtain ⟨vs, hvl, hvs⟩ := choose_list _ len hone
      refine ⟨vs, hvl, .inr ⟨b, off, rfl, World.block_lt_of_cell? W _ hz, fun i v hv => ?_⟩⟩
      have := hvs i v hv
      simpa only [hadd, Nat.add_zero] using this

theorem open_vals {H : Type} {enc : TypeId × Value → H} {W : World} {base : Nat} {v : Value} {d : DataW H} {p : List MemPlace} (hv : Value.okWide Try.prog W .any base 31 v)
    (h : DataW.Trod enc Try.prog W 0 (fun _ => true) true 31 v d p) :
    ∃ (a : Option Addr) (len cap : Nat) (vs : List V), v = .slice a len cap ∧ IsVals W a len vs ∧ len ≤ cap ∧ cap ≤ maxLen := by
  obtain ⟨a, len, cap, vs, h1, h2, h3, h4, _⟩ := open_valsN hv h
  exact ⟨a, len, cap, vs, h1, h2, h3, h4⟩

theorem open_intlist {H : Type} {enc : TypeId × Value → H} {W : World} {base : Nat} {v : Value} {d : DataW H} {p : List MemPlace} (hv : Value.okWide Try.prog W .any base 32 v)
    (h : DataW.Trod enc Try.prog W 0 (fun _ => true) true 32 v d p) :
    ∃ (a : Option Addr) (len cap : Nat) (zs : List Int), v = .slice a len cap ∧ IsInts W a len zs ∧ len ≤ cap ∧ cap ≤ maxLen := by
  obtain ⟨a, len, cap, rfl⟩ := okWide_slice Try.underlying32 hv
  obtain ⟨fuel, hf⟩ := h
  rcases open_ints Try.underlying32 Try.underlying3 (by kernel_rfl) hf with ⟨hcs, _⟩ | ⟨x, l, c, zs, hcs, _, hl, hm, hz, _, hcell, hwz⟩
  · simp [Value.cells] at hcs
    obtain ⟨rfl, rfl, rfl⟩ := hcs
    exact ⟨none, 0, 0, [], rfl, ⟨rfl, .inl rfl⟩, Nat.le_refl _, Nat.zero_le _⟩
  · simp [Value.cells] at hcs
    obtain ⟨rfl, rfl, rfl⟩ := hcs
    simp only [if_true] at hz
    refine ⟨_, _, _, zs.take len, rfl, ⟨by rw [List.length_take]; omega, ?_⟩, hl, hm⟩
    by_cases h0 : len = 0
    · subst h0
      exact .inl rfl
    · obtain ⟨b, off, spot⟩ := x
      have hc0 := hcell 0 (by omega)
      have hspot : spot = none := by simpa [Addr.add] using World.cell?_spot hc0
      subst hspot
      have hadd : ∀ o j, (⟨b, o, none⟩ : Addr).add j = ⟨b, o + j, none⟩ := fun o j => by unfold Addr.add; split <;> simp_all
      refine .inr ⟨b, off, rfl, World.block_lt_of_cell? W _ hc0, fun i z hzz => ?_⟩
      have hlt := (List.getElem?_eq_some_iff.1 hzz).1
      rw [List.length_take] at hlt
      have hi := hcell i (by omega)
      rw [hadd] at hi
      rw [hi]
      rw [List.getElem?_take_of_lt (by omega)] at hzz
      simp [List.getD, hzz]

theorem open_bytelist {H : Type} {enc : TypeId × Value → H} {W : World} {base : Nat} {v : Value} {d : DataW H} {p : List MemPlace} (hv : Value.okWide Try.prog W .any base 37 v)
    (h : DataW.Trod enc Try.prog W 0 (fun _ => true) true 37 v d p) :
    ∃ (a : Option Addr) (len cap : Nat) (l : List UInt8), v = .slice a len cap ∧ IsBytes W a len l ∧ len ≤ cap ∧ cap ≤ maxLen := by
  obtain ⟨a, len, cap, rfl⟩ := okWide_slice Try.underlying37 hv
  obtain ⟨fuel, hf⟩ := h
  rcases open_ints Try.underlying37 Try.underlying5 (by kernel_rfl) hf with ⟨hcs, _⟩ | ⟨x, l, c, zs, hcs, _, hl, hm, hz, _, hcell, hwz⟩
  · simp [Value.cells] at hcs
    obtain ⟨rfl, rfl, rfl⟩ := hcs
    exact ⟨none, 0, 0, [], rfl, ⟨rfl, .inl rfl⟩, Nat.le_refl _, Nat.zero_le _⟩
  · simp [Value.cells] at hcs
    obtain ⟨rfl, rfl, rfl⟩ := hcs
    simp only [if_true] at hz
    refine ⟨_, _, _, (zs.take len).map fun z => UInt8.ofNat z.toNat, rfl, ⟨by rw [List.length_map, List.length_take]; omega, ?_⟩, hl, hm⟩
    by_cases h0 : len = 0
    · subst h0
      exact .inl rfl
    · obtain ⟨b, off, spot⟩ := x
      have hc0 := hcell 0 (by omega)
      have hspot : spot = none := by simpa [Addr.add] using World.cell?_spot hc0
      subst hspot
      have hadd : ∀ o j, (⟨b, o, none⟩ : Addr).add j = ⟨b, o + j, none⟩ := fun o j => by unfold Addr.add; split <;> simp_all
      refine .inr ⟨b, off, rfl, World.block_lt_of_cell? W _ hc0, fun i u hu => ?_⟩
      have hlt := (List.getElem?_eq_some_iff.1 hu).1
      rw [List.length_map, List.length_take] at hlt
      have hi := hcell i (by omega)
      rw [hadd] at hi
      rw [hi]
      rw [List.getElem?_map, List.getElem?_take_of_lt (by omega)] at hu
      have hz1 : zs[i]? = some (zs[i]'(by omega)) := List.getElem?_eq_getElem (by omega)
      rw [hz1] at hu
      simp only [Option.map_some, Option.some.injEq] at hu
      subst hu
      have hw := bounds_u8 (hwz zs[i] (List.getElem_mem _))
      simp only [List.getD, hz1, Option.getD_some]
      rw [B_of _ hw.1]
      congr 2
      omega

end Go.Proofs.Ytnmlbafhdnffgaa
