/-
  slices.DeleteFunc of entries, on a row of entries that the call made.
-/
import Derived.Test.YtdhhhmehkldliaaBPRead2
import Derived.Test.YtdhhhmehkldliaaBPOwn
import Derived.Test.YtdhhhmehkldliaaBPlan
set_option linter.unusedVariables false
set_option maxRecDepth 100000
namespace Go.Proofs.Ytdhhhmehkldliaa
open Go.RowKit Wh

/-- A store behind what a row of entries owns. -/
theorem OwnEnts.past {w : World} {base g n cap : Nat} {es : List En} (h : OwnEnts w base (.slice (some ⟨g, 0, none⟩) n cap) es) {o : Nat} (ho : n * 2 ≤ o) (u : Value) : OwnEnts (w.setCell ⟨g, o, none⟩ u) base (.slice (some ⟨g, 0, none⟩) n cap) es := by
  obtain ⟨rfl, _, _, hbg, hgl⟩ := own_size h
  obtain ⟨l, h1, h2, h3⟩ := h
  have hgr : w.grownBy (w.setCell ⟨g, o, none⟩ u) (some g) := ⟨rfl, rfl, rfl, by simp [World.setCell], fun k hk hne => Below.heap_setCell _ _ _ _ (fun e => hne (by rw [e]))⟩
  refine ⟨l, h1, ?_, fun i e he => ?_⟩
  · rcases h2.2 with ⟨h', _⟩ | ⟨g', cap', cur, h', hb, hh, q1, q2, q3, q4⟩
    · cases h'
    · cases h'
      have hh' : (w.setCell ⟨g, o, none⟩ u).heap[g]? = some (.cells (cur.setIfInBounds o u) 30 (0, 0)) := by
        simp only [World.setCell, Array.getElem?_modify, if_pos]
        rw [hh]
        rfl
      refine ⟨h2.1, .inr ⟨g, cap, _, rfl, hb, hh', q1, q2, by simpa using q3, ?_⟩⟩
      rw [Array.toList_setIfInBounds, List.take_set_of_le ho]
      exact q4
  · obtain ⟨rv, a1, a2, a3⟩ := h3 i e he
    exact ⟨rv, a1, a2.grown hgr a3, a3⟩
theorem OwnEnts.pasts {base g n cap : Nat} {es : List En} : ∀ (vs : List Value) (o : Nat) (w : World), OwnEnts w base (.slice (some ⟨g, 0, none⟩) n cap) es → n * 2 ≤ o → OwnEnts (w.setCells g o vs) base (.slice (some ⟨g, 0, none⟩) n cap) es
  | [], _, _, h, _ => h
  | v :: vs, o, w, h, ho => OwnEnts.pasts vs (o + 1) _ (h.past ho v) (by omega)
theorem below_setCells {B g : Nat} (hg : B ≤ g) {w0 : World} : ∀ (vs : List Value) (o : Nat) (w : World), Below B w0 w → Below B w0 (w.setCells g o vs)
  | [], _, _, h => h
  | v :: vs, o, w, h => below_setCells hg vs (o + 1) _ (h.setCell (p := ⟨g, o, none⟩) hg v)

/-- 'clear(s)' of entries. -/
theorem run_clear_ents {w : World} {g o n c : Nat} (ty : TypeId) (hn : 0 < n) (hc : ∀ j, j < n * 2 → (w.cell? ⟨g, o + j, none⟩).isSome = true) (hf : ∀ j, j < n * 2 → w.frozen? ⟨g, o + j, none⟩ = false) :
    (Builtin.clear_ #[22] ty #[.slice (some ⟨g, o, none⟩) n c]).run Try.prog w = .ok (.tuple #[]) (w.setCells g o (Builtin.zeroCells #[.slice none 0 0, .int .i64 0] n).toList) := by
  have hsz : (Builtin.zeroCells #[.slice none 0 0, .int .i64 0] n).toList.length = n * 2 := by simp [Builtin.zeroCells]
  have hst := run_storeCells_cells (P := Try.prog) g o (Builtin.zeroCells #[.slice none 0 0, .int .i64 0] n).toList 0 w (by rw [hsz]; simpa using hc) (by rw [hsz]; simpa using hf) (by
    intro v hv
    simp only [Builtin.zeroCells, Array.mem_toList_iff, Array.mem_map] at hv
    obtain ⟨i, _, rfl⟩ := hv
    have h3 : i % 2 = 0 ∨ i % 2 = 1 := by omega
    show (#[(.slice none 0 0 : Value), .int .i64 0][i % 2]!).oneCell' = true
    rcases h3 with h3 | h3 <;> (rw [h3]; rfl))
  simp only [Nat.add_zero] at hst
  obtain ⟨m, rfl⟩ : ∃ m, n = m + 1 := ⟨n - 1, by omega⟩
  have hz := Try.zeroValue30
  have ht : Try.prog.underlying 22 = some (.slice 30) := Try.underlying22
  simp [Builtin.clear_, run_underlying ht, hz, Value.cells, hst]

/-- 'x[i:]' of a row of entries. -/
theorem slice_from_own (g n cap i : Nat) (hi : i < n) (hc : n ≤ cap) (hm : cap ≤ maxLen) (W : World) :
    (Instr.slice 22 (.slice (some ⟨g, 0, none⟩) n cap) (some (.int .i64 (i : Int))) none none).run Try.prog W = .ok (.slice (some ⟨g, i * 2, none⟩) (n - i) (cap - i)) W := by
  have ht : Try.prog.underlying 22 = some (.slice (Try.prog.elem 22)) := by simp [Program.elem, Try.underlying22]
  have he : Try.prog.elem 22 = 30 := by simp [Program.elem, Try.underlying22]
  rw [run_slice_l W _ _ _ _ ht .i64 _ (by omega) (by omega), he, size_ent]
  have hadd : (⟨g, 0, none⟩ : Addr).add (i * 2) = ⟨g, i * 2, none⟩ := by unfold Addr.add; split <;> simp_all
  have hci : ¬ cap = i := by omega
  simp [Result.andThen, sliced, hci, hadd]

/-- What holds at the head of each round of DeleteFunc. -/
inductive DelRel (w : World) (base g n cap : Nat) (p : Int → Bool) (es : List En) (wr : World) : Value → Value → Prop
  | mk (i j : Nat) (L : List En) (hij : i < j) (hjn : j ≤ n) (hl : Hid (L.length = n)) (ht : Hid (L.take i = dropL p (es.take j))) (hd : Hid (L.drop j = es.drop j)) (ho : OwnEnts wr base (.slice (some ⟨g, 0, none⟩) n cap) L) (hb : Below base w wr) : DelRel w base g n cap p es wr (.int .i64 i) (.int .i64 j)

set_option maxHeartbeats 4000000 in
theorem delete_any (f : Nat) (cb : Array Value) (p : Int → Bool) (hp : PredE f cb p) {w : World} {base : Nat} {v : Value} {es : List En} (h : OwnEnts w base v es) (hb : base ≤ w.heap.size) (hsz : es.length ≤ 1000000) :
    Calls Try.prog 67 #[v, .func (.func f) #[] cb] w fun e w' => ∃ sv, e = .returned sv ∧ OwnEnts w' base sv (dropL p es) ∧ Below base w w' := by
  obtain ⟨a, cap, rfl, hi, c1, c2, c3, c4⟩ := own_ents h
  have CI := Lib.hid (index_any6 f cb p hp a es.length cap es w hi (by omega))
  obtain ⟨eg, hp⟩ := hp
  have HP := Lib.hid hp
  have H := Lib.hid h
  have H4 := Lib.hid c4
  generalize hn : es.length = n at *
  have HN := Lib.hid hn
  clear hp h hi c4 hn
  go_enter Try.func67, Try.ntmps67
  go_wp2_with fail
  refine CI.out.mono ?_
  rintro e w1 ⟨z, rfl, hz, hb1⟩
  rcases hz with ⟨rfl, hz⟩ | ⟨k0, e0, rfl, hz1, hz2, hz3⟩
  · have hd : dropL p es = es := by
      unfold dropL
      rw [List.filter_eq_self]
      intro e he
      rw [hz e he]
      rfl
    have HF := Lib.hid (H.out.below hb1)
    have HD := Lib.hid hd
    have hB := hb1.mono hb
    clear hz hd
    go_wp2_with fail
    go_ret
    exact ⟨_, rfl, by rw [HD.out]; exact HF.out, hB⟩
  · have hk0 := (List.getElem?_eq_some_iff.1 hz1).1
    obtain ⟨g, rfl⟩ : ∃ g, a = some ⟨g, 0, none⟩ := by
      cases a with
      | none => have := c3 rfl; have := HN.out; omega
      | some x => obtain ⟨g, h1, _⟩ := H4.out x rfl; exact ⟨g, by rw [h1]⟩
    obtain ⟨hn2, _, _, hbg, hgl⟩ := own_size H.out
    have hst : Hid (es.take k0 = dropL p (es.take (k0 + 1))) := by
      show _ = _
      unfold dropL
      rw [List.take_add_one, hz1, List.filter_append, List.filter_eq_self.2 (fun e he => by rw [hz3 e he]; rfl)]
      simp [hz2]
    have HO1 := Lib.hid (H.out.below hb1)
    have hB1 := hb1.mono hb
    have hkn : k0 < n := by have := HN.out; omega
    clear hz1 hz2 hz3 hk0 H4 CI c3 hn2
    go_wp2_with fail
    go_loopw [5, 6] (fun iv jv wr => DelRel w base g n cap p es wr iv jv) (fun _ j _ => n - (intOf j).toNat)
    case atStart => exact .mk k0 (k0 + 1) es (by omega) (by omega) HN.out hst rfl HO1.out hB1
    case round =>
      obtain ⟨i, j, L, hij, hjn, HL, HT, HD, hO, hbel⟩ := hrel
      have HO := Lib.hid hO
      have hsz1 := hbel.size
      have hbs : base ≤ wr.heap.size := by omega
      by_cases hlt : j < n
      · obtain ⟨e, he⟩ : ∃ e, L[j]? = some e := ⟨_, List.getElem?_eq_getElem (by have := HL.out; omega)⟩
        have hee : es[j]? = some e := by
          have h1 : (L.drop j)[0]? = some e := by rw [List.getElem?_drop, Nat.add_zero]; exact he
          rw [HD.out, List.getElem?_drop, Nat.add_zero] at h1
          exact h1
        obtain ⟨ra, rl, rc, x0, x1, _, _, hv, v1, v2, v3, hfar⟩ := own_entry hO he
        obtain ⟨eo, heo⟩ : ∃ eo, L[i]? = some eo := ⟨_, List.getElem?_eq_getElem (by have := HL.out; omega)⟩
        obtain ⟨n2, m1, m2, _, hgw⟩ := own_size hO
        have bx := ebox wr (.slice ra rl rc) e.cnt 30
        have hW1 : Below wr.heap.size wr (wr.alloc (.cells #[.slice ra rl rc, .int .i64 e.cnt] 30)) := (Below.refl _ _).alloc (Nat.le_refl _) _
        have hc := HP.out ra rl rc e.cnt (wr.alloc (.cells #[.slice ra rl rc, .int .i64 e.cnt] 30))
        have hrow : IsRow wr (.slice ra rl rc) e.row := ⟨ra, rl, rc, rfl, hv, v1, v2, v3⟩
        have HD2 : Hid (L.drop (j + 1) = es.drop (j + 1)) := by
          show _ = _
          rw [← List.drop_drop, HD.out, List.drop_drop]
        have HE := Lib.hid hee
        cases hpe : p e.cnt with
        | true =>
          have HT2 : Hid (L.take i = dropL p (es.take (j + 1))) := by
            show _ = _
            rw [HT.out]
            unfold dropL
            rw [List.take_add_one, hee, List.filter_append]
            simp [hpe]
          rw [hpe] at hc
          clear hO he hee heo hv hfar hrow hpe HT HD HE n2
          go_wp2_with (refine hc.mono ?_; rintro e w' ⟨rfl, hb9⟩)
          have hB9 := hbel.trans ((hW1.trans (hb9.mono (by simp))).mono hbs)
          have HO9 := Lib.hid (HO.out.below (hW1.trans (hb9.mono (by simp))))
          have REL := Lib.hid (DelRel.mk (w := w) (base := base) (g := g) (cap := cap) (wr := w') i (j + 1) L (by omega) (by omega) HL HT2 HD2 HO9.out hB9)
          rw [show ((j + 1 : Nat) : Int) = (j : Int) + 1 by omega] at REL
          go_simp
          first | exact ⟨⟨_, _, _, REL.out, rfl, rfl, rfl⟩, by simp [intOf]; omega⟩ | exact ⟨REL.out, by simp [intOf]; omega⟩
        | false =>
          have hil : i < L.length := by have := HL.out; omega
          have HT2 : Hid ((L.set i e).take (i + 1) = dropL p (es.take (j + 1))) := by
            show _ = _
            have h1 : (L.set i e).take (i + 1) = L.take i ++ [e] := by
              rw [List.take_add_one, List.getElem?_set_self hil, List.take_set_of_le (Nat.le_refl _)]
              rfl
            rw [h1, HT.out]
            unfold dropL
            rw [List.take_add_one, hee, List.filter_append]
            simp [hpe]
          have HD3 : Hid ((L.set i e).drop (j + 1) = es.drop (j + 1)) := by
            show _ = _
            rw [List.drop_set_of_lt (by omega)]
            exact HD2.out
          have HL2 : Hid ((L.set i e).length = n) := by show _ = _; rw [List.length_set]; exact HL.out
          have HEO := Lib.hid heo
          have HROW := Lib.hid hrow
          have HFAR := Lib.hid hfar
          rw [hpe] at hc
          have hWs : (wr.alloc (.cells #[.slice ra rl rc, .int .i64 e.cnt] 30)).heap.size = wr.heap.size + 1 := by simp
          have FIN : ∀ w', Below (wr.alloc (.cells #[.slice ra rl rc, .int .i64 e.cnt] 30)).heap.size (wr.alloc (.cells #[.slice ra rl rc, .int .i64 e.cnt] 30)) w' →
              Hid (OwnEnts ((w'.setCell ⟨g, i * 2, none⟩ (.slice ra rl rc)).setCell ⟨g, i * 2 + 1, none⟩ (.int .i64 e.cnt)) base (.slice (some ⟨g, 0, none⟩) n cap) (L.set i e) ∧ Below base w ((w'.setCell ⟨g, i * 2, none⟩ (.slice ra rl rc)).setCell ⟨g, i * 2 + 1, none⟩ (.int .i64 e.cnt))) := fun w' hb9 => by
            have h9 := hW1.trans (hb9.mono (by omega))
            exact ⟨(HO.out.below h9).setEnt hil e.cnt (HROW.out.below h9 (Nat.le_refl _)) HFAR.out, ((hbel.trans (h9.mono hbs)).setCell (p := ⟨g, i * 2, none⟩) hbg _).setCell (p := ⟨g, i * 2 + 1, none⟩) hbg _⟩
          have OLD : ∀ w', Below (wr.alloc (.cells #[.slice ra rl rc, .int .i64 e.cnt] 30)).heap.size (wr.alloc (.cells #[.slice ra rl rc, .int .i64 e.cnt] 30)) w' → ∃ q1 q2, w'.cell? ⟨g, i * 2, none⟩ = some q1 ∧ w'.cell? ⟨g, i * 2 + 1, none⟩ = some q2 ∧ w'.frozen? ⟨g, i * 2, none⟩ = false ∧ w'.frozen? ⟨g, i * 2 + 1, none⟩ = false := fun w' hb9 => by
            obtain ⟨_, _, _, q1, q2, q3, q4, _⟩ := own_entry (HO.out.below (hW1.trans (hb9.mono (by omega)))) HEO.out
            exact ⟨_, _, q1, q2, q3, q4⟩
          have HFIN := Lib.hid FIN
          have HOLD := Lib.hid OLD
          clear FIN OLD hWs
          have bx0 := bx.1
          have bx1 := bx.2
          generalize hew : e.cnt = m at *
          clear hO he hee heo hv hfar hrow hpe HT HD HE n2 bx
          go_wp2_with (refine hc.mono ?_; rintro e' w' ⟨rfl, hb9⟩; have e9 := (bcell hb9).1; have b0 := (e9 wr.heap.size 0 (by simp)).trans bx0; have b1 := (e9 wr.heap.size 1 (by simp)).trans bx1; obtain ⟨q1, q2, y0, y1, f0, f1⟩ := HOLD.out _ hb9; clear e9)
          obtain ⟨hF1, hF2⟩ := (HFIN.out _ hb9).out
          have HF1 := Lib.hid hF1
          clear hF1 HFIN HOLD
          have REL := Lib.hid (DelRel.mk (w := w) (base := base) (g := g) (cap := cap) (i + 1) (j + 1) (L.set i e) (by omega) (by omega) HL2 HT2 HD3 HF1.out hF2)
          rw [show ((j + 1 : Nat) : Int) = (j : Int) + 1 by omega, show ((i + 1 : Nat) : Int) = (i : Int) + 1 by omega] at REL
          go_simp
          first | exact ⟨⟨_, _, _, REL.out, rfl, rfl, rfl⟩, by simp [intOf]; omega⟩ | exact ⟨REL.out, by simp [intOf]; omega⟩
      · obtain rfl : j = n := by omega
        have hF : L.take i = dropL p es := by rw [HT.out, List.take_of_length_le (by have := HN.out; omega)]
        obtain ⟨n2, m1, m2, _, hgw⟩ := own_size hO
        have hcut := (hO.cut (k := i) (by omega)).pasts (Builtin.zeroCells #[.slice none 0 0, .int .i64 0] (j - i)).toList (i * 2) _ (by omega)
        rw [hF] at hcut
        have HC := Lib.hid hcut
        have HB := Lib.hid (below_setCells hbg (Builtin.zeroCells #[.slice none 0 0, .int .i64 0] (j - i)).toList (i * 2) wr hbel)
        have hcl := fun ty => run_clear_ents (w := wr) (g := g) (o := i * 2) (n := j - i) (c := cap - i) ty (by omega) (fun t ht => by
          have he : L[i + t / 2]? = some (L[i + t / 2]'(by have := HL.out; omega)) := List.getElem?_eq_getElem _
          obtain ⟨_, _, _, q1, q2, _⟩ := own_entry hO he
          have h3 : t % 2 = 0 ∨ t % 2 = 1 := by omega
          rcases h3 with h3 | h3
          · rw [show i * 2 + t = (i + t / 2) * 2 by omega, q1]; rfl
          · rw [show i * 2 + t = (i + t / 2) * 2 + 1 by omega, q2]; rfl) (fun t ht => by
          have he : L[i + t / 2]? = some (L[i + t / 2]'(by have := HL.out; omega)) := List.getElem?_eq_getElem _
          obtain ⟨_, _, _, _, _, q1, q2, _⟩ := own_entry hO he
          have h3 : t % 2 = 0 ∨ t % 2 = 1 := by omega
          rcases h3 with h3 | h3
          · rw [show i * 2 + t = (i + t / 2) * 2 by omega]; exact q1
          · rw [show i * 2 + t = (i + t / 2) * 2 + 1 by omega]; exact q2)
        have sl1 := slice_from_own g j cap i (by omega) (by omega) m2
        have sl2 := fun W => slice_to_ents (some ⟨g, 0, none⟩) j cap i (by omega) m2 (fun h => by cases h) (fun x hx => by cases hx; rfl) W
        generalize (Builtin.zeroCells #[.slice none 0 0, .int .i64 0] (j - i)).toList = zs at *
        clear hO hF hcut HT HD n2
        go_wp2_with fail
        go_ret
        exact ⟨_, rfl, HC.out, HB.out⟩

end Go.Proofs.Ytdhhhmehkldliaa
