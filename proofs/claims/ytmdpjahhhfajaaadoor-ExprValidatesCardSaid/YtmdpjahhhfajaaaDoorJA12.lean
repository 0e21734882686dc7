/-
  readTime, of package token. · readSymbol and read, of package token. · · Split, of the reference. · Texts that are joined by spaces, plainly. No program's functions. · Joined texts are split again; the tokens of a text are well-formed. Pl · The reference: ParseAt, Parse. · The program: ParseAt, Parse. · What the tables of operators and of built-in functions hold, out of th · What the one listed variable holds: expr's table of built-in functions · Nodes that came in, no name beyond the machine's reach.
-/
import Derived.Test.YtmdpjahhhfajaaaDoorJA11
import Derived.Test.YtmdpjahhhfajaaaDoorJA04
import Derived.Lib.Join
import Derived.Test.YtmdpjahhhfajaaaDoorJA09
import Derived.Test.YtmdpjahhhfajaaaDoorJA08
import Derived.Test.YtmdpjahhhfajaaaDoorJA10
import Derived.Deep.QuietTactic
import Derived.BigQuiet
import Derived.ChangeArms
import Derived.Lib.LaidTab
import Derived.Test.YtmdpjahhhfajaaaDoorJA05
import Derived.Test.YtmdpjahhhfajaaaDoorJA01
import Derived.SizedLaws
set_option linter.unusedVariables false
set_option maxRecDepth 100000
set_option linter.unusedSimpArgs false
namespace Go.Proofs.YtmdpjahhhfajaaaDoor
open Go.RowKit Wh
end Go.Proofs.YtmdpjahhhfajaaaDoor
namespace Go.Proofs.YtmdpjahhhfajaaaDoor
open Go.RowKit Wh
end Go.Proofs.YtmdpjahhhfajaaaDoor
namespace Wh
open Go Go.Proofs.YtmdpjahhhfajaaaDoor
end Wh
namespace Go.Proofs.YtmdpjahhhfajaaaDoor
open Go.RowKit Wh
def IsOut (o : Out) (w : World) (e : Ending) (w' : World) : Prop :=
  ∃ a cap, e = .returned (.tuple #[.slice a o.l.length cap, .int .i64 o.i, .int .i64 o.e]) ∧ IsToks w' a o.l.length o.l ∧ o.l.length ≤ cap ∧ cap ≤ maxLen ∧ (a = none → cap = 0) ∧ (∀ x, a = some x → ∃ g, x = ⟨g, 0, none⟩ ∧ w.heap.size ≤ g ∧ g < w'.heap.size) ∧ Below w.heap.size w w'
theorem IsOut.bad {o : Out} {i : Nat} {x : Int} {w w' : World} {e : Ending} (ho : o = ⟨[], i, x⟩) (he : e = .returned (.tuple #[.slice none 0 0, .int .i64 i, .int .i64 x])) (hb : Below w.heap.size w w') : IsOut o w e w' := by
  subst ho
  exact ⟨none, 0, he, ⟨rfl, .inl rfl⟩, Nat.le_refl _, Nat.zero_le _, fun _ => rfl, fun x hx => (by cases hx), hb⟩
end Go.Proofs.YtmdpjahhhfajaaaDoor
namespace Wh
open Go Go.Proofs.YtmdpjahhhfajaaaDoor
end Wh
namespace Go.Proofs.YtmdpjahhhfajaaaDoor
open Go.RowKit Wh
end Go.Proofs.YtmdpjahhhfajaaaDoor
namespace Wh
open Go
end Wh
namespace Wh
open Go Go.Proofs.YtmdpjahhhfajaaaDoor
end Wh
namespace Go.Proofs.YtmdpjahhhfajaaaDoor
open Go.RowKit Wh
end Go.Proofs.YtmdpjahhhfajaaaDoor
namespace Go.Proofs.YtmdpjahhhfajaaaDoor
open Go.RowKit Wh
end Go.Proofs.YtmdpjahhhfajaaaDoor
namespace Go.Proofs.YtmdpjahhhfajaaaDoor
open Go.ChangeShapes Go.WideShapes Go.ChangeAt Go.RowKit Go.Deep Go.Joins Wh
theorem chunks {α β : Type} (c : Nat) (f : β → List α) : ∀ (Ds : List β) (cs : List α), cs.length = Ds.length * c → (∀ i D, Ds[i]? = some D → (cs.drop (i * c)).take c = f D) → cs = Ds.flatMap f := by
  intro Ds
  induction Ds with
  | nil =>
    intro cs hl _
    rw [List.length_nil, Nat.zero_mul] at hl
    rw [List.eq_nil_of_length_eq_zero hl]
    rfl
  | cons D Ds ih =>
    intro cs hl h
    rw [List.length_cons, Nat.add_mul, Nat.one_mul] at hl
    have h0 := h 0 D rfl
    rw [Nat.zero_mul, List.drop_zero] at h0
    have h1 := ih (cs.drop c) (by rw [List.length_drop]; omega) (fun i E hE => by
      have := h (i + 1) E (by simpa using hE)
      rw [List.drop_drop, show c + i * c = (i + 1) * c by rw [Nat.add_mul, Nat.one_mul, Nat.add_comm]]
      exact this)
    rw [List.flatMap_cons, ← h0, ← h1, List.take_append_drop]
theorem array_chunks {H : Type} {enc : TypeId × Value → H} {P : Program} {w : World} {base : Nat} {sp : Nat → Bool} {held : Bool} {fuel : Nat} {t e : TypeId} {n c : Nat} {cs : List Value} {Ds : List (DataW H)} {p : List MemPlace}
    (ht : P.underlying t = some (.array n e)) (hce : P.cellsOf e = c) (hct : P.cellsOf t = n * c) (h : DataW.trod enc P w base sp held fuel t cs = some (.agg Ds, p)) :
    cs.length = Ds.length * c ∧ ∀ i D, Ds[i]? = some D → ∃ f q, DataW.trod enc P w base sp held f e ((cs.drop (i * c)).take c) = some (D, q) := by
  cases fuel with
  | zero => simp [DataW.trod] at h
  | succ fuel =>
    simp only [DataW.trod, ht, hce, hct] at h
    split at h
    · rename_i hl
      obtain ⟨xs, hm, hx⟩ := Option.map_eq_some_iff.1 h
      have hxs : xs.map (·.1) = Ds := by
        have := congrArg Prod.fst hx
        simpa using this
      have hxl : xs.length = n := by simpa using Lib.mapM_length hm
      refine ⟨by rw [← hxs, List.length_map, hxl]; exact hl, fun i D hD => ?_⟩
      rw [← hxs, List.getElem?_map] at hD
      obtain ⟨x, hxi, rfl⟩ := Option.map_eq_some_iff.1 hD
      have hi : i < n := by rw [← hxl]; exact (List.getElem?_eq_some_iff.1 hxi).1
      obtain ⟨b, hb, hf⟩ := Lib.mapM_at hm i i (by simp [hi])
      rw [hxi] at hb
      cases hb
      exact ⟨fuel, _, hf⟩
    · cases h
theorem one_cell {cs : List Value} {k : Nat} {v : Value} (h : (cs.drop k).take 1 = [v]) : cs[k]? = some v := by
  have := congrArg (·[0]?) h
  simpa using this
def bltD (o : ByteArray × Int) : DataW Unit := .agg [.lit (.string o.1.data.toList), .lit (.int .i64 o.2)]
theorem ba_of {s t : ByteArray} (h : s.data.toList = t.data.toList) : s = t := by
  cases s; cases t
  simp only at h
  congr
  exact Array.toList_inj.1 h
theorem blt_cells {enc : TypeId × Value → Unit} {w : World} {base : Nat} {sp : Nat → Bool} {held : Bool} {fuel : Nat} {cs : List Value} {p : List MemPlace} {o : ByteArray × Int}
    (h : DataW.trod enc Tryd.prog w base sp held fuel 107 cs = some (bltD o, p)) : cs = [.string o.1, .int .i64 o.2] := by
  have hc : Tryd.prog.cellsOf 107 = 2 := by kernel_rfl
  have c9 : Tryd.prog.cellsOf 9 = 1 := by kernel_rfl
  have c3 : Tryd.prog.cellsOf 3 = 1 := by kernel_rfl
  cases fuel with
  | zero => simp [DataW.trod] at h
  | succ fuel =>
    simp only [DataW.trod, Tryd.underlying107, hc] at h
    split at h
    · rename_i hl
      obtain ⟨xs, hm, hx⟩ := Option.map_eq_some_iff.1 h
      simp only [List.mapM_cons, List.mapM_nil, Option.bind_eq_bind, Option.bind_eq_some_iff, Option.pure_def, Option.some.injEq, c9, c3] at hm
      obtain ⟨x0, h0, y0, ⟨x1, h1, y1, rfl, rfl⟩, rfl⟩ := hm
      obtain ⟨s, e0, rfl, _⟩ := DataW.trod_string Tryd.underlying9 h0
      obtain ⟨a, e1, rfl, _⟩ := DataW.trod_int Tryd.underlying3 h1
      have hx1 := congrArg Prod.fst hx
      simp only [bltD, List.map_cons, List.map_nil, DataW.agg.injEq, List.cons.injEq, DataW.lit.injEq, Lit.string.injEq, Lit.int.injEq, true_and, and_true] at hx1
      obtain ⟨x0, x1⟩ := hx1
      obtain rfl := ba_of x0
      subst x1
      have f0 := one_cell e0
      have f1 := one_cell e1
      apply List.ext_getElem?
      intro i
      by_cases hi : i < 2
      · have : i = 0 ∨ i = 1 := by omega
        rcases this with rfl | rfl
        · exact f0
        · exact f1
      · rw [List.getElem?_eq_none (by omega), List.getElem?_eq_none (by simp; omega)]
    · cases h
theorem tabB_of {n : String} {r : List (String × DataW Unit)} {W : World} (h : laidMet Tryd.prog ((n, .agg (bltP.map bltD)) :: r) W) (hg : Tryd.prog.globalNamed n = some 0) : TabB W := by
  obtain ⟨ps, ⟨g0, t0, cs0, f0, p0, q0, hg0, ht0, hv0, hd0, _, e0⟩, _, hrows⟩ := h
  obtain rfl := Option.some.inj (hg.symm.trans hg0)
  have ht : (Tryd.prog.globals[0]?).map (·.type) = some 108 := by kernel_rfl
  obtain rfl := Option.some.inj (ht.symm.trans ht0)
  obtain ⟨hl, hch⟩ := array_chunks Tryd.underlying108 (c := 2) (by kernel_rfl) (by kernel_rfl) hd0
  rw [List.length_map] at hl
  have hcs : cs0.toList = bltC := by
    refine chunks 2 (fun o : ByteArray × Int => [.string o.1, .int .i64 o.2]) bltP cs0.toList hl (fun i o ho => ?_)
    obtain ⟨f, q, hf⟩ := hch i (bltD o) (by rw [List.getElem?_map, ho]; rfl)
    exact blt_cells hf
  have hcell : ∀ j v, bltC[j]? = some v → W.cell? ⟨0, j, none⟩ = some v := fun j v hv => by
    rw [World.var?_cell hg0 hv0 j, ← Array.getElem?_toList, hcs]
    exact hv
  exact ⟨World.block_lt_of_cell? W _ (hcell 0 _ rfl), fun j v hv => by rw [Nat.zero_add]; exact hcell j v hv⟩
end Go.Proofs.YtmdpjahhhfajaaaDoor
namespace Go.Proofs.YtmdpjahhhfajaaaDoor
open Go.ChangeShapes Go.WideShapes Go.ChangeAt Go.RowKit Wh
theorem tabD_of {n : String} {W : World} (h : laidMet Tryd.prog [(n, Rows.laid_warehouse_expr_builtins)] W) (hg : Tryd.prog.globalNamed n = some 0) : TabB W := by
  have e9 : (Rows.laid_warehouse_expr_builtins : DataW Unit) = .agg (bltP.map bltD) := by kernel_rfl
  rw [e9] at h
  exact tabB_of h hg
end Go.Proofs.YtmdpjahhhfajaaaDoor
namespace Go.Proofs.YtmdpjahhhfajaaaDoor
open Go.ChangeShapes Go.WideShapes Go.ChangeAt Go.RowKit Go.Deep Go.Joins Wh
theorem open_nodesS {H : Type} {enc : TypeId × Value → H} {W : World} {base : Nat} {v : Value} {d : DataW H} {p : List MemPlace} (hv : Value.okWide Tryd.prog W .any base 22 v)
    (h : DataW.Trod enc Tryd.prog W 0 (fun _ => true) true 22 v d p) (hw : ∀ n ∈ d.weights Tryd.prog 22, n ≤ reachBytes) :
    ∃ (a : Option Addr) (len cap : Nat) (ts : List Nd), v = .slice a len cap ∧ IsNodes W a len ts ∧ len ≤ cap ∧ cap ≤ maxLen ∧ (a = none → cap = 0) ∧ ∀ t ∈ ts, t.nm.size ≤ 9223372036854775800 := by
  obtain ⟨a, len, cap, rfl⟩ := okWide_slice Tryd.underlying22 hv
  obtain ⟨fuel, hf⟩ := h
  rcases open_slice Tryd.underlying22 hf with ⟨hcs, _⟩ | ⟨x, l, c, m, n, D, Pl, hcs, _, hl, hm, hmm, hD, hi⟩
  · simp [Value.cells] at hcs
    obtain ⟨rfl, rfl, rfl⟩ := hcs
    exact ⟨none, 0, 0, [], rfl, ⟨rfl, .inl rfl⟩, Nat.le_refl _, Nat.zero_le _, fun _ => rfl, by simp⟩
  · simp [Value.cells] at hcs
    obtain ⟨rfl, rfl, rfl⟩ := hcs
    simp only [if_true] at hmm
    subst hmm
    rw [cellsNode] at hi
    have hwt : ∀ i, i < len → ∀ n ∈ (D i).weights Tryd.prog 26, n ≤ reachBytes := by
      intro i hil n hn
      have hd : d = _ := congrArg Prod.fst hD
      refine hw n ?_
      rw [hd]
      unfold DataW.weights
      rw [Tryd.underlying22]
      refine List.mem_cons_of_mem _ (List.mem_append_left _ ?_)
      have hall : ∀ (l : List (DataW H)), D i ∈ l → n ∈ DataW.weightsAll Tryd.prog 26 l := by
        intro l
        induction l with
        | nil => intro h; cases h
        | cons y l ih =>
          intro h
          unfold DataW.weightsAll
          rcases List.mem_cons.1 h with rfl | h
          · exact List.mem_append_left _ hn
          · exact List.mem_append_right _ (ih h)
      exact hall _ (List.mem_map.2 ⟨i, List.mem_range.2 hil, rfl⟩)
    suffices hs : ∃ ts, IsNodes W (some x) len ts ∧ ∀ t ∈ ts, t.nm.size ≤ 9223372036854775800 by
      obtain ⟨vs, h, h'⟩ := hs
      exact ⟨_, _, _, vs, rfl, h, hl, hm, (fun h => by cases h), h'⟩
    by_cases h0 : len = 0
    · subst h0
      exact ⟨[], ⟨rfl, .inl rfl⟩, by simp⟩
    · have hone : ∀ i, i < len → ∃ v : Nd, v.nm.size ≤ 9223372036854775800 ∧ W.cell? ((x.add (i * 6)).add 0) = some (.int .i64 v.op) ∧ W.cell? ((x.add (i * 6)).add 1) = some (.int .i64 v.v.k) ∧ W.cell? ((x.add (i * 6)).add 2) = some (.int .i64 v.v.n) ∧ W.cell? ((x.add (i * 6)).add 3) = some (.string v.v.s) ∧ W.cell? ((x.add (i * 6)).add 4) = some (.string v.nm) ∧ W.cell? ((x.add (i * 6)).add 5) = some (.int .i64 v.ar) := by
        intro i hil
        obtain ⟨cs', hc, ht⟩ := hi i (by omega)
        obtain ⟨_, hcl, hat⟩ := World.cells?_some hc
        obtain ⟨y0, y1, y2, y3, k, hDi, _, t0, t1, t2, t3⟩ := trod_struct4 Tryd.underlying26 ht
        obtain ⟨z0, z1, z2, k', _, _, u0, u1, u2⟩ := trod_struct3 Tryd.underlying24 t1
        match cs', hcl with
        | [d0, d1, d2, d3, d4, d5], _ =>
          obtain ⟨o, e0, _, _⟩ := DataW.trod_int Tryd.underlying3 t0
          obtain ⟨kk, e1, _, _⟩ := DataW.trod_int Tryd.underlying3 u0
          obtain ⟨nn, e2, _, _⟩ := DataW.trod_int Tryd.underlying3 u1
          obtain ⟨ss, e3, _, sz3⟩ := DataW.trod_string Tryd.underlying9 u2
          obtain ⟨nm, e4, hy4, sz4⟩ := DataW.trod_string Tryd.underlying9 t2
          obtain ⟨ar, e5, _, _⟩ := DataW.trod_int Tryd.underlying3 t3
          have q1c : Tryd.prog.cellsOf 3 = 1 := by kernel_rfl
          have q2c : Tryd.prog.cellsOf 9 = 1 := by kernel_rfl
          have q3c : Tryd.prog.cellsOf 24 = 3 := by kernel_rfl
          have q0 : d0 = .int .i64 o := by simpa [q1c] using e0
          have q1 : d1 = .int .i64 kk := by simpa [q1c, q3c] using e1
          have q2 : d2 = .int .i64 nn := by simpa [q1c, q3c] using e2
          have q3 : d3 = .string ss := by simpa [q2c, q3c] using e3
          have q4 : d4 = .string nm := by simpa [q2c] using e4
          have q5 : d5 = .int .i64 ar := by simpa [q1c] using e5
          have hz : nm.size ≤ reachBytes := by
            refine hwt i hil nm.size ?_
            have hd : D i = _ := congrArg Prod.fst hDi
            rw [hd, hy4]
            unfold DataW.weights
            rw [Tryd.underlying26]
            show nm.size ∈ DataW.weightsEach Tryd.prog [_, _, _, _] [_, _, _, _]
            unfold DataW.weightsEach
            refine List.mem_append_right _ ?_
            unfold DataW.weightsEach
            refine List.mem_append_right _ ?_
            unfold DataW.weightsEach
            refine List.mem_append_left _ ?_
            unfold DataW.weights
            exact List.mem_singleton.2 (by rw [Array.length_toList]; rfl)
          have hr := reachBytes_lt
          subst q0 q1 q2 q3 q4 q5
          exact ⟨⟨o, ⟨kk, nn, ss⟩, nm, ar⟩, by simp only; omega, hat 0 (by omega), hat 1 (by omega), hat 2 (by omega), hat 3 (by omega), hat 4 (by omega), hat 5 (by omega)⟩
      obtain ⟨b, off, spot⟩ := x
      obtain ⟨v0, _, hz, _⟩ := hone 0 (by omega)
      have hspot : spot = none := by simpa [Addr.add] using World.cell?_spot hz
      subst hspot
      have hadd : ∀ o j, (⟨b, o, none⟩ : Addr).add j = ⟨b, o + j, none⟩ := fun o j => by unfold Addr.add; split <;> simp_all
      obtain ⟨vs, hvl, hvs⟩ := choose_list _ len hone
      refine ⟨vs, ⟨hvl, .inr ⟨b, off, rfl, World.block_lt_of_cell? W _ hz, fun i v hv => ?_⟩⟩, fun t ht => ?_⟩
      · have := (hvs i v hv).2
        unfold NodeAt
        simpa only [hadd, Nat.add_zero] using this
      · obtain ⟨i, hi, rfl⟩ := List.getElem_of_mem ht
        exact (hvs i _ (List.getElem?_eq_getElem hi)).1
theorem open_node1 {H : Type} {enc : TypeId × Value → H} {W : World} {base : Nat} {v : Value} {d : DataW H} {p : List MemPlace} (hv : Value.okWide Tryd.prog W .any base 26 v)
    (h : DataW.Trod enc Tryd.prog W 0 (fun _ => true) true 26 v d p) : ∃ t : Nd, v = ndV t := by
  obtain ⟨cs, rfl, hsz⟩ := okWide_struct Tryd.underlying26 hv
  obtain ⟨fuel, hf⟩ := h
  obtain ⟨y0, y1, y2, y3, k, hx, _, t0, t1, t2, t3⟩ := trod_struct4 Tryd.underlying26 hf
  obtain ⟨z0, z1, z2, k', _, _, u0, u1, u2⟩ := trod_struct3 Tryd.underlying24 t1
  obtain ⟨l⟩ := cs
  have hsz6 : l.length = 6 := by simpa [cellsNode] using hsz
  match l, hsz6 with
  | [d0, d1, d2, d3, d4, d5], _ =>
    obtain ⟨o, e0, _, _⟩ := DataW.trod_int Tryd.underlying3 t0
    obtain ⟨kk, e1, _, _⟩ := DataW.trod_int Tryd.underlying3 u0
    obtain ⟨nn, e2, _, _⟩ := DataW.trod_int Tryd.underlying3 u1
    obtain ⟨ss, e3, _, _⟩ := DataW.trod_string Tryd.underlying9 u2
    obtain ⟨nm, e4, _, _⟩ := DataW.trod_string Tryd.underlying9 t2
    obtain ⟨ar, e5, _, _⟩ := DataW.trod_int Tryd.underlying3 t3
    have q1c : Tryd.prog.cellsOf 3 = 1 := by kernel_rfl
    have q2c : Tryd.prog.cellsOf 9 = 1 := by kernel_rfl
    have q3c : Tryd.prog.cellsOf 24 = 3 := by kernel_rfl
    have q0 : d0 = .int .i64 o := by simpa [Value.cells, q1c] using e0
    have q1 : d1 = .int .i64 kk := by simpa [Value.cells, q1c, q3c] using e1
    have q2 : d2 = .int .i64 nn := by simpa [Value.cells, q1c, q3c] using e2
    have q3 : d3 = .string ss := by simpa [Value.cells, q2c, q3c] using e3
    have q4 : d4 = .string nm := by simpa [Value.cells, q2c] using e4
    have q5 : d5 = .int .i64 ar := by simpa [Value.cells, q1c] using e5
    subst q0 q1 q2 q3 q4 q5
    exact ⟨⟨o, ⟨kk, nn, ss⟩, nm, ar⟩, rfl⟩
end Go.Proofs.YtmdpjahhhfajaaaDoor
