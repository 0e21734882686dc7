/-
  What the tables of operators and of built-in functions hold, out of th · Nodes that came in, no name beyond the machine's reach. · The program's pieces of text: a text, its level, whether it is an inte · Join, of package token, for tokens whose texts are given.
-/
import Derived.Test.YtmdpjahhhfajaaaGreatDoorJC06
import Derived.Test.YtmdpjahhhfajaaaGreatDoorJC26
import Derived.ChangeArms
import Derived.Lib.LaidTab
import Derived.SizedLaws
import Derived.Test.YtmdpjahhhfajaaaGreatDoorJC14
import Derived.Test.YtmdpjahhhfajaaaGreatDoorJC10
import Derived.Test.YtmdpjahhhfajaaaGreatDoorJC25
import Derived.Test.YtmdpjahhhfajaaaGreatDoorJC13
set_option linter.unusedVariables false
set_option linter.unusedSimpArgs false
set_option maxRecDepth 100000
namespace Go.Proofs.YtmdpjahhhfajaaaGreatDoor
open Go.ChangeShapes Go.WideShapes Go.ChangeAt Go.RowKit Go.Deep Go.Joins Wh
theorem chunks {α β : Type} (c : Nat) (f : β → List α) : ∀ (Ds : List β) (cs : List α), cs.length = Ds.length * c → (∀ i D, Ds[i]? = some D → (cs.drop (i * c)).take c = f D) → cs = Ds.flatMap f := by
 intro Ds
 induction Ds with
 | nil =>
  intro cs hl _
  rw [List.length_nil, Nat.zero_mul] at hl
  rw [List.eq_nil_of_length_eq_zero hl]
  rfl
 | cons D Ds ih =>
  intro cs hl h
  rw [List.length_cons, Nat.add_mul, Nat.one_mul] at hl
  have h0 := h 0 D rfl
  rw [Nat.zero_mul, List.drop_zero] at h0
  have h1 := ih (cs.drop c) (by rw [List.length_drop]; omega) (fun i E hE => by
   have := h (i + 1) E (by simpa using hE)
   rw [List.drop_drop, show c + i * c = (i + 1) * c by rw [Nat.add_mul, Nat.one_mul, Nat.add_comm]]
   exact this)
  rw [List.flatMap_cons, ← h0, ← h1, List.take_append_drop]
theorem array_chunks {H : Type} {enc : TypeId × Value → H} {P : Program} {w : World} {base : Nat} {sp : Nat → Bool} {held : Bool} {fuel : Nat} {t e : TypeId} {n c : Nat} {cs : List Value} {Ds : List (DataW H)} {p : List MemPlace}
  (ht : P.underlying t = some (.array n e)) (hce : P.cellsOf e = c) (hct : P.cellsOf t = n * c) (h : DataW.trod enc P w base sp held fuel t cs = some (.agg Ds, p)) :
  cs.length = Ds.length * c ∧ ∀ i D, Ds[i]? = some D → ∃ f q, DataW.trod enc P w base sp held f e ((cs.drop (i * c)).take c) = some (D, q) := by
 cases fuel with
 | zero => simp [DataW.trod] at h
 | succ fuel =>
  simp only [DataW.trod, ht, hce, hct] at h
  split at h
  ·rename_i hl
   obtain ⟨xs, hm, hx⟩ := Option.map_eq_some_iff.1 h
   have hxs : xs.map (·.1) = Ds := by
    have := congrArg Prod.fst hx
    simpa using this
   have hxl : xs.length = n := by simpa using Lib.mapM_length hm
   refine ⟨by rw [← hxs, List.length_map, hxl]; exact hl, fun i D hD => ?_⟩
   rw [← hxs, List.getElem?_map] at hD
   obtain ⟨x, hxi, rfl⟩ := Option.map_eq_some_iff.1 hD
   have hi : i < n := by rw [← hxl]; exact (List.getElem?_eq_some_iff.1 hxi).1
   obtain ⟨b, hb, hf⟩ := Lib.mapM_at hm i i (by simp [hi])
   rw [hxi] at hb
   cases hb
   exact ⟨fuel, _, hf⟩
  ·cases h
theorem one_cell {cs : List Value} {k : Nat} {v : Value} (h : (cs.drop k).take 1 = [v]) : cs[k]? = some v := by
 have := congrArg (·[0]?) h
 simpa using this
def infD (o : ByteArray × Int × Int × Bool) : DataW Unit := .agg [.lit (.string o.1.data.toList), .lit (.int .i64 o.2.1), .lit (.int .i64 o.2.2.1), .lit (.bool o.2.2.2)]
def bltD (o : ByteArray × Int) : DataW Unit := .agg [.lit (.string o.1.data.toList), .lit (.int .i64 o.2)]
theorem ba_of {s t : ByteArray} (h : s.data.toList = t.data.toList) : s = t := by
 cases s; cases t
 simp only at h
 congr
 exact Array.toList_inj.1 h
theorem inf_cells {enc : TypeId × Value → Unit} {w : World} {base : Nat} {sp : Nat → Bool} {held : Bool} {fuel : Nat} {cs : List Value} {p : List MemPlace} {o : ByteArray × Int × Int × Bool}
  (h : DataW.trod enc Tryz.prog w base sp held fuel 109 cs = some (infD o, p)) : cs = [.string o.1, .int .i64 o.2.1, .int .i64 o.2.2.1, .bool o.2.2.2] := by
 have hc : Tryz.prog.cellsOf 109 = 4 := by kernel_rfl
 have c9 : Tryz.prog.cellsOf 9 = 1 := by kernel_rfl
 have c3 : Tryz.prog.cellsOf 3 = 1 := by kernel_rfl
 have c4 : Tryz.prog.cellsOf 4 = 1 := by kernel_rfl
 cases fuel with
 | zero => simp [DataW.trod] at h
 | succ fuel =>
  simp only [DataW.trod, Tryz.underlying109, hc] at h
  split at h
  ·rename_i hl
   obtain ⟨xs, hm, hx⟩ := Option.map_eq_some_iff.1 h
   simp only [List.mapM_cons, List.mapM_nil, Option.bind_eq_bind, Option.bind_eq_some_iff, Option.pure_def, Option.some.injEq, c9, c3, c4] at hm
   obtain ⟨x0, h0, y0, ⟨x1, h1, y1, ⟨x2, h2, y2, ⟨x3, h3, y3, rfl, rfl⟩, rfl⟩, rfl⟩, rfl⟩ := hm
   obtain ⟨s, e0, rfl, _⟩ := DataW.trod_string Tryz.underlying9 h0
   obtain ⟨a, e1, rfl, _⟩ := DataW.trod_int Tryz.underlying3 h1
   obtain ⟨b, e2, rfl, _⟩ := DataW.trod_int Tryz.underlying3 h2
   obtain ⟨q, e3, rfl⟩ := DataW.trod_bool Tryz.underlying4 h3
   have hx1 := congrArg Prod.fst hx
   simp only [infD, List.map_cons, List.map_nil, DataW.agg.injEq, List.cons.injEq, DataW.lit.injEq, Lit.string.injEq, Lit.int.injEq, Lit.bool.injEq, true_and, and_true] at hx1
   obtain ⟨x0, x1, x2, x3⟩ := hx1
   obtain rfl := ba_of x0
   subst x1 x2 x3
   have f0 := one_cell e0
   have f1 := one_cell e1
   have f2 := one_cell e2
   have f3 := one_cell e3
   apply List.ext_getElem?
   intro i
   by_cases hi : i < 4
   ·have : i = 0 ∨ i = 1 ∨ i = 2 ∨ i = 3 := by omega
    rcases this with rfl | rfl | rfl | rfl
    ·exact f0
    ·exact f1
    ·exact f2
    ·exact f3
   ·rw [List.getElem?_eq_none (by omega), List.getElem?_eq_none (by simp; omega)]
  ·cases h
theorem blt_cells {enc : TypeId × Value → Unit} {w : World} {base : Nat} {sp : Nat → Bool} {held : Bool} {fuel : Nat} {cs : List Value} {p : List MemPlace} {o : ByteArray × Int}
  (h : DataW.trod enc Tryz.prog w base sp held fuel 159 cs = some (bltD o, p)) : cs = [.string o.1, .int .i64 o.2] := by
 have hc : Tryz.prog.cellsOf 159 = 2 := by kernel_rfl
 have c9 : Tryz.prog.cellsOf 9 = 1 := by kernel_rfl
 have c3 : Tryz.prog.cellsOf 3 = 1 := by kernel_rfl
 cases fuel with
 | zero => simp [DataW.trod] at h
 | succ fuel =>
  simp only [DataW.trod, Tryz.underlying159, hc] at h
  split at h
  ·rename_i hl
   obtain ⟨xs, hm, hx⟩ := Option.map_eq_some_iff.1 h
   simp only [List.mapM_cons, List.mapM_nil, Option.bind_eq_bind, Option.bind_eq_some_iff, Option.pure_def, Option.some.injEq, c9, c3] at hm
   obtain ⟨x0, h0, y0, ⟨x1, h1, y1, rfl, rfl⟩, rfl⟩ := hm
   obtain ⟨s, e0, rfl, _⟩ := DataW.trod_string Tryz.underlying9 h0
   obtain ⟨a, e1, rfl, _⟩ := DataW.trod_int Tryz.underlying3 h1
   have hx1 := congrArg Prod.fst hx
   simp only [bltD, List.map_cons, List.map_nil, DataW.agg.injEq, List.cons.injEq, DataW.lit.injEq, Lit.string.injEq, Lit.int.injEq, true_and, and_true] at hx1
   obtain ⟨x0, x1⟩ := hx1
   obtain rfl := ba_of x0
   subst x1
   have f0 := one_cell e0
   have f1 := one_cell e1
   apply List.ext_getElem?
   intro i
   by_cases hi : i < 2
   ·have : i = 0 ∨ i = 1 := by omega
    rcases this with rfl | rfl
    ·exact f0
    ·exact f1
   ·rw [List.getElem?_eq_none (by omega), List.getElem?_eq_none (by simp; omega)]
  ·cases h
theorem tabI_of {n : String} {r : List (String × DataW Unit)} {W : World} (h : laidMet Tryz.prog ((n, .agg (infL.map infD)) :: r) W) (hg : Tryz.prog.globalNamed n = some 0) : TabI W := by
 obtain ⟨ps, ⟨g0, t0, cs0, f0, p0, q0, hg0, ht0, hv0, hd0, _, e0⟩, _, hrows⟩ := h
 obtain rfl := Option.some.inj (hg.symm.trans hg0)
 have ht : (Tryz.prog.globals[0]?).map (·.type) = some 132 := by kernel_rfl
 obtain rfl := Option.some.inj (ht.symm.trans ht0)
 obtain ⟨hl, hch⟩ := array_chunks Tryz.underlying132 (c := 4) (by kernel_rfl) (by kernel_rfl) hd0
 rw [List.length_map] at hl
 have hcs : cs0.toList = infC := by
  refine chunks 4 (fun o : ByteArray × Int × Int × Bool => [.string o.1, .int .i64 o.2.1, .int .i64 o.2.2.1, .bool o.2.2.2]) infL cs0.toList hl (fun i o ho => ?_)
  obtain ⟨f, q, hf⟩ := hch i (infD o) (by rw [List.getElem?_map, ho]; rfl)
  exact inf_cells hf
 have hcell : ∀ j v, infC[j]? = some v → W.cell? ⟨0, j, none⟩ = some v := fun j v hv => by
  rw [World.var?_cell hg0 hv0 j, ← Array.getElem?_toList, hcs]
  exact hv
 exact ⟨World.block_lt_of_cell? W _ (hcell 0 _ rfl), fun j v hv => by rw [Nat.zero_add]; exact hcell j v hv⟩
theorem tabB_of {n : String} {r : List (String × DataW Unit)} {W : World} (h : laidMet Tryz.prog ((n, .agg (bltP.map bltD)) :: r) W) (hg : Tryz.prog.globalNamed n = some 1) : TabB W := by
 obtain ⟨ps, ⟨g0, t0, cs0, f0, p0, q0, hg0, ht0, hv0, hd0, _, e0⟩, _, hrows⟩ := h
 obtain rfl := Option.some.inj (hg.symm.trans hg0)
 have ht : (Tryz.prog.globals[1]?).map (·.type) = some 160 := by kernel_rfl
 obtain rfl := Option.some.inj (ht.symm.trans ht0)
 obtain ⟨hl, hch⟩ := array_chunks Tryz.underlying160 (c := 2) (by kernel_rfl) (by kernel_rfl) hd0
 rw [List.length_map] at hl
 have hcs : cs0.toList = bltC := by
  refine chunks 2 (fun o : ByteArray × Int => [.string o.1, .int .i64 o.2]) bltP cs0.toList hl (fun i o ho => ?_)
  obtain ⟨f, q, hf⟩ := hch i (bltD o) (by rw [List.getElem?_map, ho]; rfl)
  exact blt_cells hf
 have hcell : ∀ j v, bltC[j]? = some v → W.cell? ⟨1, j, none⟩ = some v := fun j v hv => by
  rw [World.var?_cell hg0 hv0 j, ← Array.getElem?_toList, hcs]
  exact hv
 exact ⟨World.block_lt_of_cell? W _ (hcell 0 _ rfl), fun j v hv => by rw [Nat.zero_add]; exact hcell j v hv⟩
theorem glx_of {n1 n2 n3 n4 n5 n6 n7 n8 n9 n10 : String} {W : World}
  (h : laidMet Tryz.prog [(n1, Rows.laid_math_bits_deBruijn32tab), (n2, Rows.laid_math_bits_deBruijn64tab), (n3, Rows.laid_internal_strconv_uint64pow10), (n4, Rows.laid_unicode_utf8_acceptRanges), (n5, Rows.laid_warehouse_civil_monthLengths), (n6, Rows.laid_strconv_ErrRange), (n7, Rows.laid_strconv_ErrSyntax), (n8, Rows.laid_warehouse_expr_infixes), (n9, Rows.laid_warehouse_expr_builtins), (n10, Rows.laid_unicode_utf8_first)] W)
  (hsh : W.ShapedOpen Tryz.prog)
  (h3 : Tryz.prog.globalNamed n3 = some 3) (h5 : Tryz.prog.globalNamed n5 = some 6) (h6 : Tryz.prog.globalNamed n6 = some 5) (h8 : Tryz.prog.globalNamed n8 = some 0) (h9 : Tryz.prog.globalNamed n9 = some 1) : Glx W := by
 have t3 := h.tail.tail
 have t5 := h.tail.tail.tail.tail
 have t6 := h.tail.tail.tail.tail.tail
 have t8 := h.tail.tail.tail.tail.tail.tail.tail
 have t9 := h.tail.tail.tail.tail.tail.tail.tail.tail
 have e8 : (Rows.laid_warehouse_expr_infixes : DataW Unit) = .agg (infL.map infD) := by kernel_rfl
 have e9 : (Rows.laid_warehouse_expr_builtins : DataW Unit) = .agg (bltP.map bltD) := by kernel_rfl
 rw [e8] at t8
 rw [e9] at t9
 refine ⟨⟨?_, ⟨n3, h3, ?_⟩, ?_, ?_⟩, tabB_of t9 h9, tabI_of t8 h8⟩
 ·have hT := Lib.tabIs_of_head (k := .i64) (zs := tab) h5 (t := 220) (by kernel_rfl) Tryz.underlying220 Tryz.underlying3 (by kernel_rfl) (by kernel_rfl) t5
  have hc : ∀ i : Nat, i < 12 → W.cell? ⟨6, i, none⟩ = some (.int .i64 (tab.getD i 0)) := fun i hi => hT.cell h5 i hi
  exact ⟨World.block_lt_of_cell? W _ (hc 0 (by omega)), hc⟩
 ·have e : (Rows.laid_internal_strconv_uint64pow10 : DataW Unit) = Lib.tabData .u64 Lib.pow10Tab := by kernel_rfl
  rw [e] at t3
  exact Lib.tabIs_of_head h3 (t := 210) (by kernel_rfl) Tryz.underlying210 Tryz.underlying193 (by kernel_rfl) (by kernel_rfl) t3
 ·exact iface_laid t6 h6 (ti := 166) (by kernel_rfl) Tryz.underlying166
 ·exact cell_of_shapedOpen_int (P := Tryz.prog) (t := 3) (zero := #[.int .i64 0]) hsh (of_decide_eq_true (by kernel_rfl)) (by kernel_rfl) rfl (by kernel_rfl) (by kernel_rfl) Tryz.underlying3
end Go.Proofs.YtmdpjahhhfajaaaGreatDoor
namespace Go.Proofs.YtmdpjahhhfajaaaGreatDoor
open Go.ChangeShapes Go.WideShapes Go.ChangeAt Go.RowKit Go.Deep Go.Joins Wh
theorem open_nodesS {H : Type} {enc : TypeId × Value → H} {W : World} {base : Nat} {v : Value} {d : DataW H} {p : List MemPlace} (hv : Value.okWide Tryz.prog W .any base 30 v)
  (h : DataW.Trod enc Tryz.prog W 0 (fun _ => true) true 30 v d p) (hw : ∀ n ∈ d.weights Tryz.prog 30, n ≤ reachBytes) :
  ∃ (a : Option Addr) (len cap : Nat) (ts : List Nd), v = .slice a len cap ∧ IsNodes W a len ts ∧ len ≤ cap ∧ cap ≤ maxLen ∧ (a = none → cap = 0) ∧ ∀ t ∈ ts, t.nm.size ≤ 9223372036854775800 := by
 obtain ⟨a, len, cap, rfl⟩ := okWide_slice Tryz.underlying30 hv
 obtain ⟨fuel, hf⟩ := h
 rcases open_slice Tryz.underlying30 hf with ⟨hcs, _⟩ | ⟨x, l, c, m, n, D, Pl, hcs, _, hl, hm, hmm, hD, hi⟩
 ·simp [Value.cells] at hcs
  obtain ⟨rfl, rfl, rfl⟩ := hcs
  exact ⟨none, 0, 0, [], rfl, ⟨rfl, .inl rfl⟩, Nat.le_refl _, Nat.zero_le _, fun _ => rfl, by simp⟩
 ·simp [Value.cells] at hcs
  obtain ⟨rfl, rfl, rfl⟩ := hcs
  simp only [if_true] at hmm
  subst hmm
  rw [cellsNode] at hi
  have hwt : ∀ i, i < len → ∀ n ∈ (D i).weights Tryz.prog 53, n ≤ reachBytes := by
   intro i hil n hn
   have hd : d = _ := congrArg Prod.fst hD
   refine hw n ?_
   rw [hd]
   unfold DataW.weights
   rw [Tryz.underlying30]
   refine List.mem_cons_of_mem _ (List.mem_append_left _ ?_)
   have hall : ∀ (l : List (DataW H)), D i ∈ l → n ∈ DataW.weightsAll Tryz.prog 53 l := by
    intro l
    induction l with
    | nil => intro h; cases h
    | cons y l ih =>
     intro h
     unfold DataW.weightsAll
     rcases List.mem_cons.1 h with rfl | h
     ·exact List.mem_append_left _ hn
     ·exact List.mem_append_right _ (ih h)
   exact hall _ (List.mem_map.2 ⟨i, List.mem_range.2 hil, rfl⟩)
  suffices hs : ∃ ts, IsNodes W (some x) len ts ∧ ∀ t ∈ ts, t.nm.size ≤ 9223372036854775800 by
   obtain ⟨vs, h, h'⟩ := hs
   exact ⟨_, _, _, vs, rfl, h, hl, hm, (fun h => by cases h), h'⟩
  by_cases h0 : len = 0
  ·subst h0
   exact ⟨[], ⟨rfl, .inl rfl⟩, by simp⟩
  ·have hone : ∀ i, i < len → ∃ v : Nd, v.nm.size ≤ 9223372036854775800 ∧ W.cell? ((x.add (i * 6)).add 0) = some (.int .i64 v.op) ∧ W.cell? ((x.add (i * 6)).add 1) = some (.int .i64 v.v.k) ∧ W.cell? ((x.add (i * 6)).add 2) = some (.int .i64 v.v.n) ∧ W.cell? ((x.add (i * 6)).add 3) = some (.string v.v.s) ∧ W.cell? ((x.add (i * 6)).add 4) = some (.string v.nm) ∧ W.cell? ((x.add (i * 6)).add 5) = some (.int .i64 v.ar) := by
    intro i hil
    obtain ⟨cs', hc, ht⟩ := hi i (by omega)
    obtain ⟨_, hcl, hat⟩ := World.cells?_some hc
    obtain ⟨y0, y1, y2, y3, k, hDi, _, t0, t1, t2, t3⟩ := trod_struct4 Tryz.underlying53 ht
    obtain ⟨z0, z1, z2, k', _, _, u0, u1, u2⟩ := trod_struct3 Tryz.underlying51 t1
    match cs', hcl with
    | [d0, d1, d2, d3, d4, d5], _ =>
     obtain ⟨o, e0, _, _⟩ := DataW.trod_int Tryz.underlying3 t0
     obtain ⟨kk, e1, _, _⟩ := DataW.trod_int Tryz.underlying3 u0
     obtain ⟨nn, e2, _, _⟩ := DataW.trod_int Tryz.underlying3 u1
     obtain ⟨ss, e3, _, sz3⟩ := DataW.trod_string Tryz.underlying9 u2
     obtain ⟨nm, e4, hy4, sz4⟩ := DataW.trod_string Tryz.underlying9 t2
     obtain ⟨ar, e5, _, _⟩ := DataW.trod_int Tryz.underlying3 t3
     have q1c : Tryz.prog.cellsOf 3 = 1 := by kernel_rfl
     have q2c : Tryz.prog.cellsOf 9 = 1 := by kernel_rfl
     have q3c : Tryz.prog.cellsOf 51 = 3 := by kernel_rfl
     have q0 : d0 = .int .i64 o := by simpa [q1c] using e0
     have q1 : d1 = .int .i64 kk := by simpa [q1c, q3c] using e1
     have q2 : d2 = .int .i64 nn := by simpa [q1c, q3c] using e2
     have q3 : d3 = .string ss := by simpa [q2c, q3c] using e3
     have q4 : d4 = .string nm := by simpa [q2c] using e4
     have q5 : d5 = .int .i64 ar := by simpa [q1c] using e5
     have hz : nm.size ≤ reachBytes := by
      refine hwt i hil nm.size ?_
      have hd : D i = _ := congrArg Prod.fst hDi
      rw [hd, hy4]
      unfold DataW.weights
      rw [Tryz.underlying53]
      show nm.size ∈ DataW.weightsEach Tryz.prog [_, _, _, _] [_, _, _, _]
      unfold DataW.weightsEach
      refine List.mem_append_right _ ?_
      unfold DataW.weightsEach
      refine List.mem_append_right _ ?_
      unfold DataW.weightsEach
      refine List.mem_append_left _ ?_
      unfold DataW.weights
      exact List.mem_singleton.2 (by rw [Array.length_toList]; rfl)
     have hr := reachBytes_lt
     subst q0 q1 q2 q3 q4 q5
     exact ⟨⟨o, ⟨kk, nn, ss⟩, nm, ar⟩, by simp only; omega, hat 0 (by omega), hat 1 (by omega), hat 2 (by omega), hat 3 (by omega), hat 4 (by omega), hat 5 (by omega)⟩
   obtain ⟨b, off, spot⟩ := x
   obtain ⟨v0, _, hz, _⟩ := hone 0 (by omega)
   have hspot : spot = none := by simpa [Addr.add] using World.cell?_spot hz
   subst hspot
   have hadd : ∀ o j, (⟨b, o, none⟩ : Addr).add j = ⟨b, o + j, none⟩ := fun o j => by unfold Addr.add; split <;> simp_all
   obtain ⟨vs, hvl, hvs⟩ := choose_list _ len hone
   refine ⟨vs, ⟨hvl, .inr ⟨b, off, rfl, World.block_lt_of_cell? W _ hz, fun i v hv => ?_⟩⟩, fun t ht => ?_⟩
   ·have := (hvs i v hv).2
    unfold NodeAt
    simpa only [hadd, Nat.add_zero] using this
   ·obtain ⟨i, hi, rfl⟩ := List.getElem_of_mem ht
    exact (hvs i _ (List.getElem?_eq_getElem hi)).1
end Go.Proofs.YtmdpjahhhfajaaaGreatDoor
namespace Go.Proofs.YtmdpjahhhfajaaaGreatDoor
open Go.RowKit Go.Joins Wh
def p3 (x : Pc) : List Value := [.string ⟨x.tx.toArray⟩, .int .i64 x.lv, .bool x.ig]
def pcsL (l : List Pc) : List Value := l.flatMap p3
def pcV (x : Pc) : Value := .agg #[.string ⟨x.tx.toArray⟩, .int .i64 x.lv, .bool x.ig]
theorem info_pc : (Tryz.prog.info? 76).map (fun i => (i.zero, i.size, i.bytes)) = some (some (.agg #[.string ⟨#[]⟩, .int .i64 0, .bool false]), 3, 32) := by kernel_rfl
theorem pcsL_length (l : List Pc) : (pcsL l).length = l.length * 3 := by
 unfold pcsL
 induction l with
 | nil => rfl
 | cons v vs ih => simp only [List.flatMap_cons, List.length_append, ih, List.length_cons, p3, List.length_nil]; omega
theorem pcsL_at (l : List Pc) (i : Nat) (x : Pc) (h : l[i]? = some x) : (pcsL l)[i * 3]? = some (.string ⟨x.tx.toArray⟩) ∧ (pcsL l)[i * 3 + 1]? = some (.int .i64 x.lv) ∧ (pcsL l)[i * 3 + 2]? = some (.bool x.ig) := by
 unfold pcsL
 induction l generalizing i with
 | nil => simp at h
 | cons u l ih =>
  cases i with
  | zero => simp at h; subst h; simp [p3]
  | succ i =>
   simp only [List.getElem?_cons_succ] at h
   have := ih i h
   rw [show (i + 1) * 3 = i * 3 + 1 + 1 + 1 from by omega]
   simpa [List.flatMap_cons, p3] using this
theorem pcsL_app (l m : List Pc) : pcsL (l ++ m) = pcsL l ++ pcsL m := by unfold pcsL; simp
theorem pcsL_push (l : List Pc) (x : Pc) : pcsL l ++ [.string ⟨x.tx.toArray⟩, .int .i64 x.lv, .bool x.ig] = pcsL (l ++ [x]) := by
 rw [pcsL_app]
 simp [pcsL, p3]
theorem pcsL_take (l : List Pc) (k : Nat) : (pcsL l).take (k * 3) = pcsL (l.take k) := by
 induction l generalizing k with
 | nil => simp [pcsL]
 | cons x l ih =>
  cases k with
  | zero => simp [pcsL]
  | succ k =>
   have := ih k
   rw [show (k + 1) * 3 = k * 3 + 3 from by omega]
   simp only [pcsL, List.flatMap_cons, List.take_succ_cons, p3, List.cons_append, List.nil_append] at this ⊢
   rw [this]
def IsPcs (w : World) (a : Option Addr) (len : Nat) (xs : List Pc) : Prop :=
 xs.length = len ∧ (xs = [] ∨ ∃ b off, a = some ⟨b, off, none⟩ ∧ b < w.heap.size ∧ ∀ i x, xs[i]? = some x → w.cell? ⟨b, off + i * 3, none⟩ = some (.string ⟨x.tx.toArray⟩) ∧ w.cell? ⟨b, off + i * 3 + 1, none⟩ = some (.int .i64 x.lv) ∧ w.cell? ⟨b, off + i * 3 + 2, none⟩ = some (.bool x.ig))
theorem IsPcs.below {w w' : World} {a : Option Addr} {len B : Nat} {xs : List Pc} (h : IsPcs w a len xs) (hb : Below B w w') (hB : w.heap.size ≤ B) : IsPcs w' a len xs := by
 obtain ⟨h1, h2⟩ := h
 refine ⟨h1, ?_⟩
 rcases h2 with h2 | ⟨b, off, ha, hlt, hc⟩
 ·exact .inl h2
 ·have e : ∀ o, w'.cell? ⟨b, o, none⟩ = w.cell? ⟨b, o, none⟩ := fun o => hb.cell (p := ⟨b, o, none⟩) (by show b < B; omega)
  refine .inr ⟨b, off, ha, by have := hb.size; omega, fun i s hs => ?_⟩
  rw [e, e, e]
  exact hc i s hs
theorem IsPcs.at {w : World} {a : Option Addr} {len : Nat} {xs : List Pc} (h : IsPcs w a len xs) {k : Nat} (hk : k < len) :
  ∃ x b off, xs[k]? = some x ∧ a = some ⟨b, off, none⟩ ∧ b < w.heap.size ∧ w.cell? ⟨b, off + k * 3, none⟩ = some (.string ⟨x.tx.toArray⟩) ∧ w.cell? ⟨b, off + k * 3 + 1, none⟩ = some (.int .i64 x.lv) ∧ w.cell? ⟨b, off + k * 3 + 2, none⟩ = some (.bool x.ig) := by
 obtain ⟨h1, h2⟩ := h
 obtain ⟨t, hs⟩ : ∃ s, xs[k]? = some s := ⟨_, List.getElem?_eq_getElem (by omega)⟩
 rcases h2 with rfl | ⟨b, off, ha, hlt, hc⟩
 ·simp at hs
 ·exact ⟨t, b, off, hs, ha, hlt, hc k _ hs⟩
theorem own_pcs {w : World} {base n : Nat} {v : Value} {xs : List Pc} (h : w.ownsRow base 76 3 v n (pcsL xs)) (hn : xs.length = n) :
  ∃ (a : Option Addr) (cap : Nat), v = .slice a n cap ∧ IsPcs w a n xs ∧ n ≤ cap ∧ cap ≤ maxLen ∧ (a = none → cap = 0) ∧ (∀ x, a = some x → ∃ g, x = ⟨g, 0, none⟩ ∧ base ≤ g ∧ g < w.heap.size) := by
 rcases h.2 with ⟨rfl, rfl⟩ | ⟨g, cap, cur, rfl, hg, hh, hnc, hmc, _, ht⟩
 ·exact ⟨none, 0, rfl, ⟨hn, .inl (List.eq_nil_of_length_eq_zero hn)⟩, Nat.le_refl _, Nat.zero_le _, fun _ => rfl, fun x hx => by cases hx⟩
 ·have hlt : g < w.heap.size := (Array.getElem?_eq_some_iff.1 hh).1
  refine ⟨_, cap, rfl, ⟨hn, .inr ⟨g, 0, rfl, hlt, fun i t hi => ?_⟩⟩, hnc, hmc, fun hx => (by cases hx), by rintro x ⟨⟩; exact ⟨g, rfl, hg, hlt⟩⟩
  obtain ⟨f0, f1, f2⟩ := pcsL_at xs i t hi
  have hk := (List.getElem?_eq_some_iff.1 hi).1
  simp only [Nat.zero_add]
  exact ⟨(h.cellAt (i * 3) (by omega)).trans f0, (h.cellAt (i * 3 + 1) (by omega)).trans f1, (h.cellAt (i * 3 + 2) (by omega)).trans f2⟩
theorem box_pc {w : World} {B : Nat} {x y z : Value} (h : w.heap[B]? = some (.cells #[x, y, z] 76 (0, 0))) : (loadVar 76 ⟨B, 0, none⟩).run Tryz.prog w = .ok (.agg #[x, y, z]) w := by
 refine run_loadVar_mid w B 0 _ [x, y, z] _ (fun j q hv => ?_) Tryz.underlying76 rfl (by kernel_rfl)
 rw [Nat.zero_add]
 exact (cell_of_row _ _ j _ _ _ h).trans (by rw [← Array.getElem?_toList]; exact hv)
end Go.Proofs.YtmdpjahhhfajaaaGreatDoor
namespace Go.Proofs.YtmdpjahhhfajaaaGreatDoor
open Go.RowKit Wh
def PWr (t : Tk) (l : List UInt8) : Prop := ∀ (a : Int) (W : World), Glo W → Calls Tryz.prog 171 #[tokV (t, a)] W (IsStr l W)
abbrev strC (ls : List (List UInt8)) : List Value := ls.map fun l => .string ⟨l.toArray⟩
theorem own_strs {w : World} {base n : Nat} {v : Value} {ls : List (List UInt8)} (h : w.ownsRow base 9 1 v n (strC ls)) (hn : ls.length = n) :
  ∃ (a : Option Addr) (cap : Nat), v = .slice a n cap ∧ IsStrs w a n (ls.map fun l => ⟨l.toArray⟩) ∧ n ≤ cap := by
 rcases h.2 with ⟨rfl, rfl⟩ | ⟨g, cap, cur, rfl, hg, hh, hnc, hmc, _, ht⟩
 ·exact ⟨none, 0, rfl, ⟨by rw [List.length_map]; exact hn, .inl (by rw [List.eq_nil_of_length_eq_zero hn]; rfl)⟩, Nat.le_refl _⟩
 ·have hlt : g < w.heap.size := (Array.getElem?_eq_some_iff.1 hh).1
  refine ⟨_, cap, rfl, ⟨by rw [List.length_map]; exact hn, .inr ⟨g, 0, rfl, hlt, fun i s hi => ?_⟩⟩, hnc⟩
  have hk := (List.getElem?_eq_some_iff.1 hi).1
  rw [List.length_map] at hk
  have := h.cellAt i (by omega)
  rw [Nat.zero_add, this, List.getElem?_map]
  rw [List.getElem?_map] at hi
  cases hl : ls[i]? with
  | none => rw [hl] at hi; cases hi
  | some l => rw [hl] at hi; cases hi; rfl
set_option maxHeartbeats 4000000 in
theorem pjoin_ok (a : Option Addr) (len cap : Nat) (ts : List TA) (ls : List (List UInt8)) (w : World) (hs : IsToks w a len ts) (hl : len ≤ 1000000) (hc : len ≤ cap) (hm : cap ≤ maxLen) (hn : a = none → cap = 0) (hz : ∀ t ∈ ts, t.1.tx.size ≤ 9223372036854775800) (hE : valE ts = 0)
  (hll : ls.length + 1 = len) (hW : ∀ (i : Nat) (t : TA) (l : List UInt8), ts[i]? = some t → ls[i]? = some l → PWr t.1 l) (hlen : ∀ l ∈ ls, l.length ≤ 1000000) (hg : Glo w) :
  Calls Tryz.prog 140 #[.slice a len cap] w (IsTxt (jnO ls).1 (jnO ls).2 w) := by
 have C := Lib.hid (fun W hW => validate_any7 a len cap ts W hW (by omega) hz)
 rw [hE] at C
 have HS := Lib.hid hs
 have HW := Lib.hid hW
 have HL := Lib.hid hlen
 have HG := Lib.hid hg
 have HLL := Lib.hid hll
 have hsp : ∀ x, a = some x → x.spot = none := fun x hx => by
  rcases hs.2 with h | ⟨b, off, ha, _⟩
  ·have := hs.1; rw [h] at this; simp at this; omega
  ·rw [ha] at hx; cases hx; rfl
 have sl : ∀ W, (Instr.slice 34 (.slice a len cap) none (some (.int .i64 ((len : Int) - 1))) none).run Tryz.prog W = .ok (.slice a ls.length cap) W := fun W => by
  have := slice_to_toks a len cap ls.length (by omega) hm hn hsp W
  rw [show ((ls.length : Nat) : Int) = (len : Int) - 1 by omega] at this
  exact this
 have hll2 : ls.length ≤ 1000000 := by omega
 obtain ⟨i0, hi, hz0, hz1, hz2⟩ := info_parts info_str
 have GREAT := Lib.hid (fun (k : Nat) h => jnO_great (ls := ls) (k := k) h)
 have FIN : Hid (¬ 65536 < (jn ls).length → jnO ls = (jn ls, 0)) := fun h => by unfold jnO; rw [if_neg h]
 obtain ⟨O, hO⟩ : ∃ O, jnO ls = O := ⟨_, rfl⟩
 rw [hO] at GREAT FIN ⊢
 clear hs hz hE hW hlen hg hsp hll hO hn
 go_enter Tryz.func140, Tryz.ntmps140
 go_wp2_with fail
 refine (C.out _ HS.out).mono ?_
 rintro e w1 ⟨rfl, hb1⟩
 have hs1 := hb1.size
 go_wp2_with fail
 clear sl
 go_loopw [5, 6, 21] (fun tv sv iv wr => ∃ k : Nat, k ≤ ls.length ∧ iv = .int .i64 k ∧ wr.ownsRow w.heap.size 9 1 tv k (strC (ls.take k)) ∧ sv = .int .i64 ((jn (ls.take k)).length : Nat) ∧ (jn (ls.take k)).length ≤ 65536 ∧ Below w.heap.size w wr) (fun _ _ iv _ => ls.length - (intOf iv).toNat)
 case atStart => exact ⟨0, Nat.zero_le _, rfl, World.ownsRow_nil _ _ _ _, rfl, Nat.zero_le _, hb1⟩
 case round =>
  obtain ⟨k, hk, rfl, hown, rfl, hj, hbel⟩ := hrel
  have hs9 := hbel.size
  by_cases hlt : k < ls.length
  ·obtain ⟨kd, tx, nm, p, b, off, hx, rfl, hblt, c0, c1, c2, c3⟩ := (HS.out.below hbel (Nat.le_refl _)).at (k := k) (by have := HLL.out; omega)
   obtain ⟨l, hl9⟩ : ∃ l, ls[k]? = some l := ⟨_, List.getElem?_eq_getElem hlt⟩
   have hl6 := HL.out l (List.mem_of_getElem? hl9)
   have PW := Lib.hid (fun W (hW : Below wr.heap.size wr W) => HW.out k _ l hx hl9 p W (HG.out.next (hbel.trans (hW.mono hs9))))
   have HJ := Lib.hid (jn_take hl9)
   have G2 := Lib.hid (GREAT.out (k + 1))
   have hcells : Hid (strC (ls.take k) ++ [.string ⟨l.toArray⟩] = strC (ls.take (k + 1))) := by
    show _ = _
    rw [List.take_add_one, hl9]
    simp [strC]
   simp only [tokV] at PW
   have hts : Hid ((⟨l.toArray⟩ : ByteArray).size = l.length) := by show l.toArray.size = l.length; simp
   have PW2 : Hid (∀ W, Below wr.heap.size wr W → Calls Tryz.prog 171 #[.agg #[.int .i64 kd, .string tx, .int .i64 nm, .int .i64 p]] W fun e w' => e = .returned (.string ⟨l.toArray⟩) ∧ Below W.heap.size W w') := PW.out
   clear PW hx hl9 GREAT FIN
   generalize (⟨l.toArray⟩ : ByteArray) = txt at *
   have hjl : Hid ((jn (ls.take (k + 1))).length = (jn (ls.take k)).length + (if k = 0 then 0 else 1) + txt.size) := by
    show _ = _
    rw [HJ.out, hts.out]
    by_cases h0 : k = 0
    ·subst h0; rw [if_pos rfl, if_pos rfl]; simp [jn_nil]
    ·rw [if_neg h0, if_neg h0]; simp; omega
   have htx : txt.size ≤ 1000000 := by rw [hts.out]; exact hl6
   clear HJ hts hl6
   generalize hj0 : (jn (ls.take k)).length = j0 at *
   generalize hj1 : (jn (ls.take (k + 1))).length = j1 at *
   have HJ1 := Lib.hid hj1
   clear hj0 hj1
   generalize strC (ls.take k) = cells at *
   by_cases hk0 : k = 0
   ·have hjj : Hid (j1 = j0 + txt.size) := by show _ = _; rw [hjl.out, if_pos hk0]; omega
    have hk0i : ¬ (0 : Int) < (k : Int) := by omega
    have HK := Lib.hid hk0
    clear hjl hk0
    by_cases hgr : 65536 < j0 + txt.size
    ·have hO := G2.out (by rw [hjj.out]; exact hgr)
     subst hO
     have hgri : (65536 : Int) < (j0 : Int) + (txt.size : Int) := by omega
     clear G2 HJ1 hjj
     go_wp2_with (first | (go_at_call 171; refine (PW2.out _ ((Below.refl _ _).alloc (Nat.le_refl _) _)).mono ?_; rintro e w2 ⟨rfl, hb2⟩))
     go_ret2
     exact ⟨rfl, (hbel.alloc (by omega) _).trans (hb2.mono (by simp; omega))⟩
    ·have hj1 : j1 ≤ 65536 := by rw [hjj.out]; omega
     have hgri : ¬ (65536 : Int) < (j0 : Int) + (txt.size : Int) := by omega
     clear G2
     go_wp2_with (first | (go_at_call 171; refine (PW2.out _ ((Below.refl _ _).alloc (Nat.le_refl _) _)).mono ?_; rintro e w2 ⟨rfl, hb2⟩; have hB2 := (hbel.alloc (by omega) _).trans (hb2.mono (by simp; omega)); have hown2 := own_below (hown.alloc _) hb2; have hs2 := hB2.size; clear hb2) | (at_builtin; refine wpList_append_lies _ rfl _ _ 46 rfl w.heap.size 9 i0 _ 1 16 Tryz.underlying46 hi hz0 hz1 hz2 rfl (by decide) _ _ _ rfl (hown2.alloc _) ⟨w2.heap.size, 0, none⟩ 1 1 [.string txt] rfl rfl (by have h := heap_alloc_new w2 (.cells #[.string txt] 9); exact World.news_of_block (cs := #[.string txt]) (t := 9) (fr := (0, 0)) h) (by simp [Value.oneCell']) (by omega) (by unfold maxLen; omega) (by omega) (by simp; omega) (w2.heap.size + 1) (by simp) ?_))
     intro gg cc w9 hown9 hgrow9 hat9 hlt9
     have hB9 := (hB2.alloc (by omega) _).grown hgrow9 (by simp; omega) (fun j hj => (hown2.lt j hj).1)
     rw [hcells.out] at hown9
     clear hgrow9 hat9 hlt9 hown hown2 hB2
     go_wp2_with fail
     go_roundw
     case rel => exact ⟨k + 1, by omega, by go_num, hown9, by rw [HJ1.out, hjj.out]; go_num, by rw [HJ1.out]; exact hj1, hB9⟩
     case measure => simp [intOf]; omega
   ·have hjj : Hid (j1 = j0 + 1 + txt.size) := by show _ = _; rw [hjl.out, if_neg hk0]
    have hk0i : (0 : Int) < (k : Int) := by omega
    have HK := Lib.hid hk0
    clear hjl hk0
    by_cases hgr : 65536 < j0 + 1 + txt.size
    ·have hO := G2.out (by rw [hjj.out]; exact hgr)
     subst hO
     have hgri : (65536 : Int) < (j0 : Int) + 1 + (txt.size : Int) := by omega
     clear G2 HJ1 hjj
     go_wp2_with (first | (go_at_call 171; refine (PW2.out _ ((Below.refl _ _).alloc (Nat.le_refl _) _)).mono ?_; rintro e w2 ⟨rfl, hb2⟩))
     go_ret2
     exact ⟨rfl, (hbel.alloc (by omega) _).trans (hb2.mono (by simp; omega))⟩
    ·have hj1 : j1 ≤ 65536 := by rw [hjj.out]; omega
     have hgri : ¬ (65536 : Int) < (j0 : Int) + 1 + (txt.size : Int) := by omega
     clear G2
     go_wp2_with (first | (go_at_call 171; refine (PW2.out _ ((Below.refl _ _).alloc (Nat.le_refl _) _)).mono ?_; rintro e w2 ⟨rfl, hb2⟩; have hB2 := (hbel.alloc (by omega) _).trans (hb2.mono (by simp; omega)); have hown2 := own_below (hown.alloc _) hb2; have hs2 := hB2.size; clear hb2) | (at_builtin; refine wpList_append_lies _ rfl _ _ 46 rfl w.heap.size 9 i0 _ 1 16 Tryz.underlying46 hi hz0 hz1 hz2 rfl (by decide) _ _ _ rfl (hown2.alloc _) ⟨w2.heap.size, 0, none⟩ 1 1 [.string txt] rfl rfl (by have h := heap_alloc_new w2 (.cells #[.string txt] 9); exact World.news_of_block (cs := #[.string txt]) (t := 9) (fr := (0, 0)) h) (by simp [Value.oneCell']) (by omega) (by unfold maxLen; omega) (by omega) (by simp; omega) (w2.heap.size + 1) (by simp) ?_))
     intro gg cc w9 hown9 hgrow9 hat9 hlt9
     have hB9 := (hB2.alloc (by omega) _).grown hgrow9 (by simp; omega) (fun j hj => (hown2.lt j hj).1)
     rw [hcells.out] at hown9
     clear hgrow9 hat9 hlt9 hown hown2 hB2
     go_wp2_with fail
     go_roundw
     case rel => exact ⟨k + 1, by omega, by go_num, hown9, by rw [HJ1.out, hjj.out]; go_num, by rw [HJ1.out]; exact hj1, hB9⟩
     case measure => simp [intOf]; omega
  ·obtain rfl : k = ls.length := by omega
   have hE : ls.take ls.length = ls := List.take_of_length_le (Nat.le_refl _)
   rw [hE] at hown hj
   obtain ⟨a9, cap9, rfl, hstr, hcap⟩ := own_strs hown rfl
   have hmap : (ls.map fun l => (⟨l.toArray⟩ : ByteArray)).map bts = ls := by
    rw [List.map_map]
    have : bts ∘ (fun l : List UInt8 => (⟨l.toArray⟩ : ByteArray)) = id := by
     funext l
     exact bts_mk l
    rw [this, List.map_id]
   have JO := Lib.hid (join_any a9 ls.length cap9 (ls.map fun l => ⟨l.toArray⟩) wr hstr (by omega) hcap (by rw [hmap]; show (jn ls).length ≤ _; omega))
   rw [hmap] at JO
   have hO := FIN.out (by omega)
   subst hO
   clear FIN GREAT hE hmap hstr hown
   go_wp2_with fail
   refine JO.out.mono ?_
   rintro e w2 ⟨rfl, hb2⟩
   go_wp2_with fail
   go_ret2
   exact ⟨rfl, hbel.trans (hb2.mono hs9)⟩
end Go.Proofs.YtmdpjahhhfajaaaGreatDoor
