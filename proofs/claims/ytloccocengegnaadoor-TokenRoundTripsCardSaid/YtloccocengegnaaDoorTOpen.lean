/-
  What came in: tokens, bytes. The wrap that hands the walk the world's shape. What the package-level variables hold.
-/
import Derived.Test.YtloccocengegnaaDoorTQV
import Derived.Test.YtloccocengegnaaDoorGInts
import Derived.Test.YtloccocengegnaaDoorGTok
import Derived.Lib.LaidTab
import Derived.LaidMore
import Derived.Stop.LaidErr
import Derived.Shelf.Vars
import Derived.SizedLaws
import Derived.Deep.Slices
import Derived.Deep.Strs
import Derived.ChangeMaps5
set_option linter.unusedVariables false
set_option maxRecDepth 100000
namespace Go.Proofs.YtloccocengegnaaDoor
open Go.ChangeShapes Go.WideShapes Go.ChangeAt Go.RowKit Go.Deep Go.Joins Wh

/-- The wrap: the contract is handed the world's shape too. -/
theorem returns_laid {H : Type} {enc : TypeId × Value → H} {a : Assume} {C : Checked} {os : Os} {f : FuncId} {fn : Func} {s : ChangeSpec} {conds : List PathCond} {apart fresh handsOn again : Bool} {X : World → Array Value → Prop}
    (hX : ∀ (w w' : World) (args : Array Value), w.heap = w'.heap → X w args → X w' args)
    (own : ownKnob C.prog.godebug = none) (started : os.Started) (noInit : C.prog.inits.idxOf? f = none) (hfn : C.prog.funcs[f]? = some fn)
    (witness : ∃ (w : World) (tape : Tape) (i : Input), w.os = os ∧ (w.forCall tape i).Shaped C.prog ∧ i.vars = [] ∧ Input.okWide C.prog (w.forCall tape i) .any w.heap.size f i ∧
      ((s.pre enc C.prog fn conds apart (w.forCall tape i).memory i.args ∧ X (w.forCall tape i).memory i.args) ∧ sizedMet enc C.prog fn (OpenSpec.ofChange s) apart (w.forCall tape i).memory i.args) ∧ a.holds C.prog (lone (Frame.enter C.prog f i.args .normal) [] (w.forCall tape i)))
    (contract : ∀ (W : World) (base : Nat) (args : Array Value) (ds gs : List (DataW H)) (before : List MemPlace),
      (∀ (j : Nat) t v, fn.params[j]? = some t → args[j]? = some v → Value.okWide C.prog W .any base t v) →
      DataW.Whole enc C.prog fn.params.toList s.vars apart W args.toList ds gs before →
      conds.all (PathCond.test C.prog ⟨fn.params.toList, ds, s.plain.varTypes C.prog, gs⟩) = true →
      (DataW.weightsEach C.prog (fn.params.toList ++ s.plain.varTypes C.prog) (ds ++ gs)).all (· ≤ reachBytes) = true → X W args → W.ShapedOpen C.prog →
      a.holds C.prog (lone (Frame.enter C.prog f args .normal) [] W) →
      Calls C.prog f args W fun e W' => ∃ v, e = .returned v ∧ s.post enc C.prog fn apart fresh handsOn again W args v W') :
    ReturnsInHanded a C os f .any (fun w args => (s.pre enc C.prog fn conds apart w args ∧ X w args) ∧ sizedMet enc C.prog fn (OpenSpec.ofChange s) apart w args) (s.post enc C.prog fn apart fresh handsOn again) := by
  refine returnsInHanded_of_calls own started noInit witness ?_
  intro w tape i _ hsh _ hok hpre hholds
  obtain ⟨_, _, _, fn', hfn', _, _, _, _, hval⟩ := hok
  have e : fn' = fn := Option.some.inj (hfn'.symm.trans hfn)
  subst e
  obtain ⟨⟨⟨ds, gs, before, hw, hc⟩, hx⟩, hz⟩ := hpre
  have hw' := DataW.Whole.of_heap (w' := w.forCall tape i) (by rfl) hw
  refine (contract (w.forCall tape i) w.heap.size i.args ds gs before hval hw' hc (hz.weights hw) (hX _ _ _ (by rfl) hx) hsh hholds).mono fun e W' ⟨v, he, hp⟩ => ?_
  subst he
  exact ChangeSpec.post_blind hp

theorem iface_laid {n nm : String} {d : DataW Unit} {r : List (String × DataW Unit)} {W : World} {g : Nat} {ti : TypeId} {ms : Array (String × TypeId)}
    (h : laidMet Tryd.prog ((n, .iface nm d) :: r) W) (hg : Tryd.prog.globalNamed n = some g) (ht : (Tryd.prog.globals[g]?).map (·.type) = some ti) (hi : Tryd.prog.underlying ti = some (.interface ms)) :
    ∃ te pe, W.cell? ⟨g, 0, none⟩ = some (.iface te pe) := by
  obtain ⟨ps, ⟨g0, t0, cs0, f0, p0, q0, hg0, ht0, hv0, hd0, _, e0⟩, _, hrows⟩ := h
  obtain rfl := Option.some.inj (hg.symm.trans hg0)
  obtain rfl := Option.some.inj (ht.symm.trans ht0)
  obtain ⟨fuel', u, v, hcs, _, _⟩ := iface_of_trod hi hd0
  obtain ⟨l0⟩ := cs0
  simp only at hcs
  subst hcs
  exact ⟨u, v, by simpa using World.var?_cell hg0 hv0 0⟩

/-- The listed variables, in the rows' order, and the world's shape, give what the walks ask. -/
theorem glo_of {n1 n2 n3 n4 n5 n6 n7 n8 : String} {W : World}
    (h : laidMet Tryd.prog [(n1, Rows.laid_math_bits_deBruijn32tab), (n2, Rows.laid_math_bits_deBruijn64tab), (n3, Rows.laid_internal_strconv_uint64pow10), (n4, Rows.laid_unicode_utf8_acceptRanges), (n5, Rows.laid_warehouse_civil_monthLengths), (n6, Rows.laid_strconv_ErrRange), (n7, Rows.laid_strconv_ErrSyntax), (n8, Rows.laid_unicode_utf8_first)] W)
    (hsh : W.ShapedOpen Tryd.prog)
    (h3 : Tryd.prog.globalNamed n3 = some 2) (h5 : Tryd.prog.globalNamed n5 = some 0) (h6 : Tryd.prog.globalNamed n6 = some 6) : Glo W := by
  have t3 := h.tail.tail
  have t5 := h.tail.tail.tail.tail
  have t6 := h.tail.tail.tail.tail.tail
  refine ⟨?_, ⟨n3, h3, ?_⟩, ?_, ?_⟩
  · have hT := Lib.tabIs_of_head (k := .i64) (zs := tab) h5 (t := 95) (by kernel_rfl) Tryd.underlying95 Tryd.underlying3 (by kernel_rfl) (by kernel_rfl) t5
    have hc : ∀ i : Nat, i < 12 → W.cell? ⟨0, i, none⟩ = some (.int .i64 (tab.getD i 0)) := fun i hi => hT.cell h5 i hi
    exact ⟨World.block_lt_of_cell? W _ (hc 0 (by omega)), hc⟩
  · have e : (Rows.laid_internal_strconv_uint64pow10 : DataW Unit) = Lib.tabData .u64 Lib.pow10Tab := by kernel_rfl
    rw [e] at t3
    exact Lib.tabIs_of_head h3 (t := 103) (by kernel_rfl) Tryd.underlying103 Tryd.underlying90 (by kernel_rfl) (by kernel_rfl) t3
  · exact iface_laid t6 h6 (ti := 59) (by kernel_rfl) Tryd.underlying59
  · exact cell_of_shapedOpen_int (P := Tryd.prog) (t := 3) (zero := #[.int .i64 0]) hsh (of_decide_eq_true (by kernel_rfl)) (by kernel_rfl) rfl (by kernel_rfl) (by kernel_rfl) Tryd.underlying3

theorem cellsTok : Tryd.prog.cellsOf 41 = 4 := by kernel_rfl

/-- Tokens, with: a nil slice has no capacity; no text is beyond the machine's reach. -/
theorem open_toks {H : Type} {enc : TypeId × Value → H} {W : World} {base : Nat} {v : Value} {d : DataW H} {p : List MemPlace} (hv : Value.okWide Tryd.prog W .any base 26 v)
    (h : DataW.Trod enc Tryd.prog W 0 (fun _ => true) true 26 v d p) (hw : ∀ n ∈ d.weights Tryd.prog 26, n ≤ reachBytes) :
    ∃ (a : Option Addr) (len cap : Nat) (ts : List TA), v = .slice a len cap ∧ IsToks W a len ts ∧ len ≤ cap ∧ cap ≤ maxLen ∧ (a = none → cap = 0) ∧ ∀ t ∈ ts, t.1.tx.size ≤ 9223372036854775800 := by
  obtain ⟨a, len, cap, rfl⟩ := okWide_slice Tryd.underlying26 hv
  obtain ⟨fuel, hf⟩ := h
  rcases open_slice Tryd.underlying26 hf with ⟨hcs, _⟩ | ⟨x, l, c, m, n, D, Pl, hcs, _, hl, hm, hmm, hD, hi⟩
  · simp [Value.cells] at hcs
    obtain ⟨rfl, rfl, rfl⟩ := hcs
    exact ⟨none, 0, 0, [], rfl, ⟨rfl, .inl rfl⟩, Nat.le_refl _, Nat.zero_le _, fun _ => rfl, by simp⟩
  · simp [Value.cells] at hcs
    obtain ⟨rfl, rfl, rfl⟩ := hcs
    simp only [if_true] at hmm
    subst hmm
    rw [cellsTok] at hi
    have hwt : ∀ i, i < len → ∀ n ∈ (D i).weights Tryd.prog 41, n ≤ reachBytes := by
      intro i hil n hn
      have hd : d = _ := congrArg Prod.fst hD
      refine hw n ?_
      rw [hd]
      unfold DataW.weights
      rw [Tryd.underlying26]
      refine List.mem_cons_of_mem _ (List.mem_append_left _ ?_)
      have hall : ∀ (l : List (DataW H)), D i ∈ l → n ∈ DataW.weightsAll Tryd.prog 41 l := by
        intro l
        induction l with
        | nil => intro h; cases h
        | cons y l ih =>
          intro h
          unfold DataW.weightsAll
          rcases List.mem_cons.1 h with rfl | h
          · exact List.mem_append_left _ hn
          · exact List.mem_append_right _ (ih h)
      exact hall _ (List.mem_map.2 ⟨i, List.mem_range.2 hil, rfl⟩)
    suffices hs : ∃ ts, IsToks W (some x) len ts ∧ ∀ t ∈ ts, t.1.tx.size ≤ 9223372036854775800 by
      obtain ⟨vs, h, h'⟩ := hs
      exact ⟨_, _, _, vs, rfl, h, hl, hm, (fun h => by cases h), h'⟩
    by_cases h0 : len = 0
    · subst h0
      exact ⟨[], ⟨rfl, .inl rfl⟩, by simp⟩
    · have hone : ∀ i, i < len → ∃ v : TA, v.1.tx.size ≤ 9223372036854775800 ∧ W.cell? ((x.add (i * 4)).add 0) = some (.int .i64 v.1.k) ∧ W.cell? ((x.add (i * 4)).add 1) = some (.string v.1.tx) ∧ W.cell? ((x.add (i * 4)).add 2) = some (.int .i64 v.1.nm) ∧ W.cell? ((x.add (i * 4)).add 3) = some (.int .i64 v.2) := by
        intro i hil
        obtain ⟨cs', hc, ht⟩ := hi i (by omega)
        obtain ⟨_, hcl, hat⟩ := World.cells?_some hc
        obtain ⟨y0, y1, y2, y3, k, hDi, _, t0, t1, t2, t3⟩ := trod_struct4 Tryd.underlying41 ht
        match cs', hcl with
        | [c0, c1, c2, c3], _ =>
          obtain ⟨k, e0, _, _⟩ := DataW.trod_int Tryd.underlying3 t0
          obtain ⟨s, e1, hy1, hsz⟩ := DataW.trod_string Tryd.underlying9 t1
          obtain ⟨n, e2, _, _⟩ := DataW.trod_int Tryd.underlying3 t2
          obtain ⟨q, e3, _, _⟩ := DataW.trod_int Tryd.underlying3 t3
          have q0 : c0 = .int .i64 k := by simpa [show Tryd.prog.cellsOf 3 = 1 from by kernel_rfl] using e0
          have q1 : c1 = .string s := by simpa [show Tryd.prog.cellsOf 9 = 1 from by kernel_rfl] using e1
          have q2 : c2 = .int .i64 n := by simpa [show Tryd.prog.cellsOf 3 = 1 from by kernel_rfl] using e2
          have q3 : c3 = .int .i64 q := by simpa [show Tryd.prog.cellsOf 3 = 1 from by kernel_rfl] using e3
          have hz : s.size ≤ reachBytes := by
            refine hwt i hil s.size ?_
            have hd : D i = _ := congrArg Prod.fst hDi
            rw [hd, hy1]
            unfold DataW.weights
            rw [Tryd.underlying41]
            show s.size ∈ DataW.weightsEach Tryd.prog [_, _, _, _] [_, _, _, _]
            unfold DataW.weightsEach
            refine List.mem_append_right _ ?_
            unfold DataW.weightsEach
            refine List.mem_append_left _ ?_
            unfold DataW.weights
            exact List.mem_singleton.2 (by rw [Array.length_toList]; rfl)
          subst q0 q1 q2 q3
          have hr := reachBytes_lt
          exact ⟨⟨⟨k, s, n⟩, q⟩, by simp only; omega, hat 0 (by omega), hat 1 (by omega), hat 2 (by omega), hat 3 (by omega)⟩
      obtain ⟨b, off, spot⟩ := x
      obtain ⟨v0, _, hz, _⟩ := hone 0 (by omega)
      have hspot : spot = none := by simpa [Addr.add] using World.cell?_spot hz
      subst hspot
      have hadd : ∀ o j, (⟨b, o, none⟩ : Addr).add j = ⟨b, o + j, none⟩ := fun o j => by unfold Addr.add; split <;> simp_all
      obtain ⟨vs, hvl, hvs⟩ := choose_list _ len hone
      refine ⟨vs, ⟨hvl, .inr ⟨b, off, rfl, World.block_lt_of_cell? W _ hz, fun i v hv => ?_⟩⟩, fun t ht => ?_⟩
      · have := (hvs i v hv).2
        simpa only [hadd, Nat.add_zero] using this
      · obtain ⟨i, hi, rfl⟩ := List.getElem_of_mem ht
        exact (hvs i _ (List.getElem?_eq_getElem hi)).1

/-- The slice (a, len) has the bytes l. -/
def IsBytes (w : World) (a : Option Addr) (len : Nat) (l : List UInt8) : Prop :=
  l.length = len ∧ (l = [] ∨ ∃ b off, a = some ⟨b, off, none⟩ ∧ b < w.heap.size ∧ ∀ i x, l[i]? = some x → w.cell? ⟨b, off + i, none⟩ = some (.int .u8 x.toNat))

theorem open_bytelist {H : Type} {enc : TypeId × Value → H} {W : World} {base : Nat} {v : Value} {d : DataW H} {p : List MemPlace} (hv : Value.okWide Tryd.prog W .any base 54 v)
    (h : DataW.Trod enc Tryd.prog W 0 (fun _ => true) true 54 v d p) :
    ∃ (a : Option Addr) (len cap : Nat) (l : List UInt8), v = .slice a len cap ∧ IsBytes W a len l ∧ len ≤ cap ∧ cap ≤ maxLen := by
  obtain ⟨a, len, cap, rfl⟩ := okWide_slice Tryd.underlying54 hv
  obtain ⟨fuel, hf⟩ := h
  rcases open_ints Tryd.underlying54 Tryd.underlying5 (by kernel_rfl) hf with ⟨hcs, _⟩ | ⟨x, l, c, zs, hcs, _, hl, hm, hz, _, hcell, hwz⟩
  · simp [Value.cells] at hcs
    obtain ⟨rfl, rfl, rfl⟩ := hcs
    exact ⟨none, 0, 0, [], rfl, ⟨rfl, .inl rfl⟩, Nat.le_refl _, Nat.zero_le _⟩
  · simp [Value.cells] at hcs
    obtain ⟨rfl, rfl, rfl⟩ := hcs
    simp only [if_true] at hz
    refine ⟨_, _, _, (zs.take len).map fun z => UInt8.ofNat z.toNat, rfl, ⟨by rw [List.length_map, List.length_take]; omega, ?_⟩, hl, hm⟩
    by_cases h0 : len = 0
    · subst h0
      exact .inl rfl
    · obtain ⟨b, off, spot⟩ := x
      have hc0 := hcell 0 (by omega)
      have hspot : spot = none := by simpa [Addr.add] using World.cell?_spot hc0
      subst hspot
      have hadd : ∀ o j, (⟨b, o, none⟩ : Addr).add j = ⟨b, o + j, none⟩ := fun o j => by unfold Addr.add; split <;> simp_all
      refine .inr ⟨b, off, rfl, World.block_lt_of_cell? W _ hc0, fun i u hu => ?_⟩
      have hlt := (List.getElem?_eq_some_iff.1 hu).1
      rw [List.length_map, List.length_take] at hlt
      have hi := hcell i (by omega)
      rw [hadd] at hi
      rw [hi]
      rw [List.getElem?_map, List.getElem?_take_of_lt (by omega)] at hu
      have hz1 : zs[i]? = some (zs[i]'(by omega)) := List.getElem?_eq_getElem (by omega)
      rw [hz1] at hu
      simp only [Option.map_some, Option.some.injEq] at hu
      subst hu
      have hw := (hwz zs[i] (List.getElem_mem _))
      have hw1 := bounds_u8 hw
      simp only [List.getD, hz1, Option.getD_some]
      congr 2
      rw [UInt8.toNat_ofNat']
      omega

end Go.Proofs.YtloccocengegnaaDoor

