/-
  collect, of the program: sorting, adding up neighbours in place, deleting zeros.
-/
import Derived.Test.YtdhhhmehkldliaaBPSort
import Derived.Test.YtdhhhmehkldliaaBPDel
set_option linter.unusedVariables false
set_option maxRecDepth 100000
namespace Wh

theorem absS_bds {es : List En} {e : En} {z : Int} (h : e ∈ es) (hz : absS es ≤ z) : -z ≤ e.cnt ∧ e.cnt ≤ z := by
  induction es with
  | nil => cases h
  | cons y es ih =>
    have h0 := absS_nonneg es
    simp only [absS] at hz
    rcases List.mem_cons.1 h with rfl | h
    · split at hz <;> omega
    · exact ih h (by split at hz <;> omega)

end Wh
namespace Go.Proofs.Ytdhhhmehkldliaa
open Go.RowKit Wh

/-- append where there is room, at the list of a plain region's operations: what lies behind the slice stays as it is. -/
theorem wpList_append_room6 (w : World) {ops : Array Oper} {rest : List Oper} {o : Oper} {a : Act} {Q : Exit → Act → World → Prop} (hgd : o.guard = none) (s x : Operand) (t : TypeId)
    (ho : o.op = .call { callee := .builtin .append, args := #[s, x], argTypes := #[t, t] }) (e : TypeId) (i : TypeInfo) (size : Nat) (ht : Try.prog.underlying t = some (.slice e)) (hi : Try.prog.info? e = some i) (h4 : i.size = size)
    (b n cap : Nat) (hs : a.eval s = .slice (some ⟨b, 0, none⟩) n cap) (ad : Addr) (m c : Nat) (news : List Value) (hx : a.eval x = .slice (some ad) m c) (hl : news.length = m * size) (hnews : ∀ j u, news[j]? = some u → w.cell? (ad.add j) = some u) (h1 : ∀ u ∈ news, u.oneCell' = true)
    (hroom : n + m ≤ cap) (hc : ∀ j, j < news.length → (w.cell? ⟨b, n * size + j, none⟩).isSome = true ∧ w.frozen? ⟨b, n * size + j, none⟩ = false)
    (h : wpList Try.prog ops Q rest (a.put o.dst (.slice (some ⟨b, 0, none⟩) (n + m) cap)) (w.setCells b (n * size) news)) :
    wpList Try.prog ops Q (o :: rest) a w := by
  refine wpList_plain hgd fun K hK => ?_
  subst h4
  have hr := run_append_room_cells (P := Try.prog) w t o.type e i ht hi b 0 n cap ad m c news hl hnews h1 hroom (fun j hj => by rw [Nat.zero_add]; exact (hc j hj).1) (fun j hj => by rw [Nat.zero_add]; exact (hc j hj).2)
  rw [Nat.zero_add] at hr
  unfold Oper.wp execOp
  simp only [ho, resolve, invoke, builtin, Sem.run_bind, Sem.run_pure, Result.andThen_ok, List.map_toArray, List.map_cons, List.map_nil, hs, hx, hr]
  exact hK _ _ h

/-- What holds at the head of each round of collect. -/
inductive CollRel (w : World) (base : Nat) (a : Option Addr) (n cap : Nat) (es : List En) (wr : World) : Value → Value → Prop
  | mk (k s : Nat) (L : List En) (hk : k ≤ n) (hs : s ≤ k) (hl : Hid (L.length = n)) (ht : Hid (L.take s = dd (es.take k))) (hn : Hid ((dd (es.take k)).length = s)) (hd : Hid (L.drop k = es.drop k)) (ho : OwnEnts wr base (.slice a n cap) L) (hb : Below base w wr) : CollRel w base a n cap es wr (.slice a s cap) (.int .i64 k)

set_option maxHeartbeats 8000000 in
theorem collect_any {w : World} {base : Nat} {v : Value} {es0 : List En} (h : OwnEnts w base v es0) (hb : base ≤ w.heap.size) (hsz : es0.length ≤ 1000000) (hab : absS es0 ≤ 1000000000000) :
    Calls Try.prog 56 #[v] w fun e w' => ∃ sv, e = .returned sv ∧ OwnEnts w' base sv (bagL es0) ∧ Below base w w' := by
  obtain ⟨a, cap, rfl, _, c1, c2, c3, c4⟩ := own_ents h
  have CS := Lib.hid (sort_own h hb hsz)
  have H4 := Lib.hid c4
  generalize hn : es0.length = n at *
  have HN := Lib.hid hn
  have HAB := Lib.hid hab
  clear h c4 hn hab
  go_enter Try.func56, Try.ntmps56
  go_wp2_with fail
  refine CS.out.mono ?_
  rintro e w1 ⟨rfl, es, hp, hs, hO1, hB1⟩
  have HP := Lib.hid (nz_dd hs hp)
  have HA2 := Lib.hid (show absS es ≤ 1000000000000 by rw [absS_perm hp]; exact HAB.out)
  have HS := Lib.hid hs
  have HO1 := Lib.hid hO1
  have HEN := Lib.hid (show es.length = n by rw [hp.length_eq]; exact HN.out)
  have sl := fun W => slice_to_ents a n cap 0 (Nat.zero_le _) c2 c3 (fun x hx => by obtain ⟨g, h1, _⟩ := H4.out x hx; rw [h1]) W
  clear hO1 hp hs CS
  go_wp2_with fail
  go_loopw [3, 13] (fun sv iv wr => CollRel w base a n cap es wr sv iv) (fun _ i _ => n - (intOf i).toNat)
  case atStart => exact .mk 0 0 es (Nat.zero_le _) (Nat.le_refl _) HEN.out rfl rfl rfl HO1.out hB1
  case round =>
    obtain ⟨k, s, L, hk, hsk, HL, HT, HNN, HD, hO, hbel⟩ := hrel
    have hsz1 := hbel.size
    have hbs : base ≤ wr.heap.size := by omega
    have HO := Lib.hid hO
    by_cases hlt : k < n
    · obtain ⟨g, rfl⟩ : ∃ g, a = some ⟨g, 0, none⟩ := by
        cases a with
        | none => have := c3 rfl; omega
        | some x => obtain ⟨g, h1, _⟩ := H4.out x rfl; exact ⟨g, by rw [h1]⟩
      obtain ⟨e, he⟩ : ∃ e, L[k]? = some e := ⟨_, List.getElem?_eq_getElem (by have := HL.out; omega)⟩
      have hee : es[k]? = some e := by
        have h1 : (L.drop k)[0]? = some e := by rw [List.getElem?_drop, Nat.add_zero]; exact he
        rw [HD.out, List.getElem?_drop, Nat.add_zero] at h1
        exact h1
      obtain ⟨ra, rl, rc, x0, x1, _, _, hv, v1, v2, v3, hfar⟩ := own_entry hO he
      obtain ⟨n2, m1, m2, hbg, hgw⟩ := own_size hO
      have bx := ebox wr (.slice ra rl rc) e.cnt 30
      have hW1 : Below wr.heap.size wr (wr.alloc (.cells #[.slice ra rl rc, .int .i64 e.cnt] 30)) := (Below.refl _ _).alloc (Nat.le_refl _) _
      have hWs : (wr.alloc (.cells #[.slice ra rl rc, .int .i64 e.cnt] 30)).heap.size = wr.heap.size + 1 := by simp
      have HROW := Lib.hid (show IsRow wr (.slice ra rl rc) e.row from ⟨ra, rl, rc, rfl, hv, v1, v2, v3⟩)
      have HFAR := Lib.hid hfar
      have HD2 : Hid (L.drop (k + 1) = es.drop (k + 1)) := by
        show _ = _
        rw [← List.drop_drop, HD.out, List.drop_drop]
      have hse := absS_bds (List.mem_of_getElem? hee) HA2.out
      have HDD := Lib.hid (dd_step hee)
      have HFA := Lib.hid ((dd_facts HS.out k (by have := HEN.out; omega)).2.2.2.2)
      have HTK : Hid (absS (es.take k) ≤ 1000000000000) := by
        have h1 := absS_append (es.take k) (es.drop k)
        rw [List.take_append_drop] at h1
        have h2 := absS_nonneg (es.drop k)
        have h3 := HA2.out
        show _ ≤ _
        omega
      have HNK := Lib.hid (show s < n by omega)
      have APP : Hid (∀ W2, Below wr.heap.size wr W2 → dd (es.take (k + 1)) = dd (es.take k) ++ [e] → CollRel w base (some ⟨g, 0, none⟩) n cap es (W2.setCells g (s * 2) [.slice ra rl rc, .int .i64 e.cnt]) (.slice (some ⟨g, 0, none⟩) (s + 1) cap) (.int .i64 ((k : Int) + 1))) := fun W2 hW hdd => by
        have hsl : s < L.length := by have := HL.out; have := HNK.out; omega
        have hLs : (L.set s e).take (s + 1) = L.take s ++ [e] := by
          rw [List.take_add_one, List.getElem?_set_self hsl, List.take_set_of_le (Nat.le_refl _)]
          rfl
        exact .mk (k + 1) (s + 1) (L.set s e) (by omega) (by omega) (by show _ = _; rw [List.length_set]; exact HL.out) (by show _ = _; rw [hLs, HT.out, hdd]) (by show _ = _; rw [hdd, List.length_append, HNN.out]; rfl) (by show _ = _; rw [List.drop_set_of_lt (by omega)]; exact HD2.out)
          ((HO.out.below hW).setEnt hsl e.cnt (HROW.out.below hW (Nat.le_refl _)) HFAR.out) (((hbel.trans (hW.mono hbs)).setCell (p := ⟨g, s * 2, none⟩) hbg _).setCell (p := ⟨g, s * 2 + 1, none⟩) hbg _)
      have SPARE : Hid (∀ W2, Below wr.heap.size wr W2 → ∀ j, j < 2 → (W2.cell? ⟨g, s * 2 + j, none⟩).isSome = true ∧ W2.frozen? ⟨g, s * 2 + j, none⟩ = false) := fun W2 hW j hj => by
        obtain ⟨eo, heo⟩ : ∃ eo, L[s]? = some eo := ⟨_, List.getElem?_eq_getElem (by have := HL.out; have := HNK.out; omega)⟩
        obtain ⟨_, _, _, q1, q2, q3, q4, _⟩ := own_entry (HO.out.below hW) heo
        have h3 : j = 0 ∨ j = 1 := by omega
        rcases h3 with rfl | rfl
        · exact ⟨by rw [Nat.add_zero, q1]; rfl, by rw [Nat.add_zero]; exact q3⟩
        · exact ⟨by rw [q2]; rfl, q4⟩
      have bx0 := bx.1
      have bx1 := bx.2
      have HW1 := Lib.hid hW1
      obtain ⟨i0, hi, hz0, hz1, hz2⟩ := info_parts info_ent
      rcases HDD.out with ⟨d1, d2⟩ | ⟨s', x, d1, d2, ⟨d3, d4⟩ | ⟨d3, d4⟩⟩
      · have hs0 : s = 0 := by rw [← HNN.out, d1]; rfl
        have APPC := Lib.hid (fun W2 hW => APP.out W2 hW (by rw [d1, d2]; rfl))
        subst hs0
        generalize e.cnt = m at *
        clear hO he hee hv hfar HDD d1 d2 bx APP n2
        go_wp2_with fail
        go_quiet (fail)
        have hB2 : Below wr.heap.size wr ((wr.alloc (.cells #[.slice ra rl rc, .int .i64 m] 30)).drewN nq) := below_drewN HW1.out _
        have y0 : ((wr.alloc (.cells #[.slice ra rl rc, .int .i64 m] 30)).drewN nq).cell? ⟨wr.heap.size, 0, none⟩ = some (.slice ra rl rc) := bx0
        have y1 : ((wr.alloc (.cells #[.slice ra rl rc, .int .i64 m] 30)).drewN nq).cell? ⟨wr.heap.size, 1, none⟩ = some (.int .i64 m) := bx1
        generalize hw2 : (wr.alloc (.cells #[.slice ra rl rc, .int .i64 m] 30)).drewN nq = W2 at *
        have HB2 := Lib.hid hB2
        clear hw2 bx0 bx1 hW1 hWs hB2
        go_wp2_with (at_builtin; refine wpList_append_room6 _ rfl _ _ 22 rfl 30 i0 2 Try.underlying22 hi hz1 g 0 cap rfl ⟨W2.heap.size, 0, none⟩ 1 1 [.slice ra rl rc, .int .i64 m] rfl rfl (World.news_of_block (cs := #[.slice ra rl rc, .int .i64 m]) (t := 30) (fr := (0, 0)) (heap_alloc_new W2 _)) (by simp [Value.oneCell']) (by omega) (SPARE.out _ (HB2.out.alloc HB2.out.size _)) ?_)
        have REL := Lib.hid (APPC.out _ (HB2.out.alloc HB2.out.size (.cells #[.slice ra rl rc, .int .i64 m] 30)))
        go_wp2_with fail
        go_simp
        exact ⟨REL.out, by simp [intOf]; omega⟩
      · have hs0 : s = s' + 1 := by rw [← HNN.out, d1]
        subst hs0
        have hLx : L[s']? = some x := by
          have h1 : (L.take (s' + 1))[s']? = some x := by rw [HT.out]; exact d2
          rwa [List.getElem?_take_of_lt (by omega)] at h1
        obtain ⟨ra', rl', rc', z0, z1, _, _, hv', v1', v2', v3', hfar'⟩ := own_entry hO hLx
        have hxm := absS_bds (List.mem_of_getElem? d2) (Int.le_trans HFA.out HTK.out)
        have UPD : Hid (∀ W2, Below wr.heap.size wr W2 → CollRel w base (some ⟨g, 0, none⟩) n cap es (W2.setCell ⟨g, s' * 2 + 1, none⟩ (.int .i64 (x.cnt + e.cnt))) (.slice (some ⟨g, 0, none⟩) (s' + 1) cap) (.int .i64 ((k : Int) + 1))) := fun W2 hW => by
          have hsl : s' < L.length := (List.getElem?_eq_some_iff.1 hLx).1
          exact .mk (k + 1) (s' + 1) (L.set s' ⟨x.row, x.cnt + e.cnt⟩) (by omega) (by omega) (by show _ = _; rw [List.length_set]; exact HL.out) (by show _ = _; rw [d4, ← HT.out, List.take_set]) (by show _ = _; rw [d4, List.length_set]; exact HNN.out) (by show _ = _; rw [List.drop_set_of_lt (by omega)]; exact HD2.out)
            ((HO.out.below hW).setCnt (by exact hLx) _) ((hbel.trans (hW.mono hbs)).setCell (p := ⟨g, s' * 2 + 1, none⟩) hbg _)
        have CR := Lib.hid (fun W (h : Below wr.heap.size wr W) => cmp_ents ra' rl' rc' x.row x.cnt ra rl rc e.row e.cnt W (hv'.below h (Nat.le_refl _)) (hv.below h (Nat.le_refl _)) (by have : maxLen = 9223372036854775807 := rfl; omega) (by have : maxLen = 9223372036854775807 := rfl; omega))
        have HX := Lib.hid hLx
        have hgl1 : g < wr.heap.size + 1 := by omega
        rw [d3] at CR
        generalize e.cnt = m at *
        generalize x.cnt = q at *
        have hwq : IntKind.i64.wrap (q + m) = q + m := by rw [IntKind.wrap_i64]; omega
        clear hO he hee hv hv' hfar hfar' HDD d1 d2 d3 d4 bx APP n2 hLx
        go_wp2_with fail
        generalize hw1 : wr.alloc (.cells #[.slice ra rl rc, .int .i64 m] 30) = W1 at *
        have hS0 : W1.drew.cell? ⟨g, s' * 2, none⟩ = some (.slice ra' rl' rc') ∧ W1.drew.cell? ⟨g, s' * 2 + 1, none⟩ = some (.int .i64 q) ∧ W1.drew.cell? ⟨wr.heap.size, 0, none⟩ = some (.slice ra rl rc) ∧ W1.drew.cell? ⟨wr.heap.size, 1, none⟩ = some (.int .i64 m) ∧ Below W1.heap.size W1 W1.drew := ⟨(hW1.cell (p := ⟨g, s' * 2, none⟩) hgw).trans z0, (hW1.cell (p := ⟨g, s' * 2 + 1, none⟩) hgw).trans z1, bx0, bx1, (Below.refl _ _).drew⟩
        have hb1 : g < W1.heap.size := by omega
        have hb2 : wr.heap.size < W1.heap.size := by omega
        have hgd : decide ((0 : Int) ≤ (s' : Int)) = true := decide_eq_true (by omega)
        have hgp : (0 : Int) ≤ (s' : Int) := by omega
        clear z0 z1 hw1 bx0 bx1 hW1
        have hjl : (s' : Int) < ((s' + 1 : Nat) : Int) := by omega
        have hjl2 : (s' : Int) < (s' : Int) + 1 := by omega
        have hjl3 : s' < s' + 1 := by omega
        go_region_held3 (fun w' => w'.cell? ⟨g, s' * 2, none⟩ = some (.slice ra' rl' rc') ∧ w'.cell? ⟨g, s' * 2 + 1, none⟩ = some (.int .i64 q) ∧ w'.cell? ⟨wr.heap.size, 0, none⟩ = some (.slice ra rl rc) ∧ w'.cell? ⟨wr.heap.size, 1, none⟩ = some (.int .i64 m) ∧ Below W1.heap.size W1 w')
          (first | with_reducible exact hS0 | with_reducible exact keepFourCells hb1 hb2 hS0 hcall)
          (first | (go_at_call 49; refine (CR.out _ (HW1.out.trans (Below.mono (by go_split_ands; assumption) (by omega)))).mono ?_; rintro e w' ⟨rfl, hcall⟩; have hcall := hcall.1))
        all_goals
          obtain ⟨k0, k1, k2, k3, k4⟩ := keepFourCells hb1 hb2 hS0 hcall
          have hB3 := HW1.out.trans (k4.mono (by omega))
          have HB3 := Lib.hid hB3
          obtain ⟨_, _, _, _, _, _, f1, _⟩ := own_entry (HO.out.below hB3) HX.out
          clear hS0 hcall hB3 k4
          go_wp2_with fail
          have hjl : (s' : Int) < ((s' + 1 : Nat) : Int) := by omega
          have hjl2 : (s' : Int) < (s' : Int) + 1 := by omega
          have hjl3 : s' < s' + 1 := by omega
          go_region
          all_goals
            have REL := Lib.hid (UPD.out _ (HB3.out.drew))
            go_wp2_with fail
            go_simp
            trace_state
            exact ⟨REL.out, by simp [intOf]; omega⟩
      · have hs0 : s = s' + 1 := by rw [← HNN.out, d1]
        subst hs0
        have hLx : L[s']? = some x := by
          have h1 : (L.take (s' + 1))[s']? = some x := by rw [HT.out]; exact d2
          rwa [List.getElem?_take_of_lt (by omega)] at h1
        obtain ⟨ra', rl', rc', z0, z1, _, _, hv', v1', v2', v3', hfar'⟩ := own_entry hO hLx
        have hxm := absS_bds (List.mem_of_getElem? d2) (Int.le_trans HFA.out HTK.out)
        have APPC := Lib.hid (fun W2 hW => APP.out W2 hW d4)
        have CR := Lib.hid (fun W (h : Below wr.heap.size wr W) => cmp_ents ra' rl' rc' x.row x.cnt ra rl rc e.row e.cnt W (hv'.below h (Nat.le_refl _)) (hv.below h (Nat.le_refl _)) (by have : maxLen = 9223372036854775807 := rfl; omega) (by have : maxLen = 9223372036854775807 := rfl; omega))
        have HX := Lib.hid hLx
        have hgl1 : g < wr.heap.size + 1 := by omega
        generalize cmpR x.row e.row = c at *
        have hc0 : (c == 0) = false := by simpa using d3
        generalize e.cnt = m at *
        generalize x.cnt = q at *
        have hwq : IntKind.i64.wrap (q + m) = q + m := by rw [IntKind.wrap_i64]; omega
        clear hO he hee hv hv' hfar hfar' HDD d1 d2 d3 d4 bx APP n2 hLx
        go_wp2_with fail
        generalize hw1 : wr.alloc (.cells #[.slice ra rl rc, .int .i64 m] 30) = W1 at *
        have hS0 : W1.drew.cell? ⟨g, s' * 2, none⟩ = some (.slice ra' rl' rc') ∧ W1.drew.cell? ⟨g, s' * 2 + 1, none⟩ = some (.int .i64 q) ∧ W1.drew.cell? ⟨wr.heap.size, 0, none⟩ = some (.slice ra rl rc) ∧ W1.drew.cell? ⟨wr.heap.size, 1, none⟩ = some (.int .i64 m) ∧ Below W1.heap.size W1 W1.drew := ⟨(hW1.cell (p := ⟨g, s' * 2, none⟩) hgw).trans z0, (hW1.cell (p := ⟨g, s' * 2 + 1, none⟩) hgw).trans z1, bx0, bx1, (Below.refl _ _).drew⟩
        have hb1 : g < W1.heap.size := by omega
        have hb2 : wr.heap.size < W1.heap.size := by omega
        have hgd : decide ((0 : Int) ≤ (s' : Int)) = true := decide_eq_true (by omega)
        have hgp : (0 : Int) ≤ (s' : Int) := by omega
        clear z0 z1 hw1 bx0 bx1 hW1
        have hjl : (s' : Int) < ((s' + 1 : Nat) : Int) := by omega
        have hjl2 : (s' : Int) < (s' : Int) + 1 := by omega
        have hjl3 : s' < s' + 1 := by omega
        go_region_held3 (fun w' => w'.cell? ⟨g, s' * 2, none⟩ = some (.slice ra' rl' rc') ∧ w'.cell? ⟨g, s' * 2 + 1, none⟩ = some (.int .i64 q) ∧ w'.cell? ⟨wr.heap.size, 0, none⟩ = some (.slice ra rl rc) ∧ w'.cell? ⟨wr.heap.size, 1, none⟩ = some (.int .i64 m) ∧ Below W1.heap.size W1 w')
          (first | with_reducible exact hS0 | with_reducible exact keepFourCells hb1 hb2 hS0 hcall)
          (first | (go_at_call 49; refine (CR.out _ (HW1.out.trans (Below.mono (by go_split_ands; assumption) (by omega)))).mono ?_; rintro e w' ⟨rfl, hcall⟩; have hcall := hcall.1))
        all_goals
          obtain ⟨k0, k1, k2, k3, k4⟩ := keepFourCells hb1 hb2 hS0 hcall
          have hB3 := HW1.out.trans (k4.mono (by omega))
          have HB3 := Lib.hid hB3
          have hroom : s' + 1 + 1 ≤ cap := by have := HNK.out; omega
          clear hS0 hcall hB3 k4 k0 k1
          go_wp2_with (at_builtin; refine wpList_append_room6 _ rfl _ _ 22 rfl 30 i0 2 Try.underlying22 hi hz1 g (s' + 1) cap rfl ⟨w'.heap.size, 0, none⟩ 1 1 [.slice ra rl rc, .int .i64 m] rfl rfl (World.news_of_block (cs := #[.slice ra rl rc, .int .i64 m]) (t := 30) (fr := (0, 0)) (heap_alloc_new w' _)) (by simp [Value.oneCell']) hroom (SPARE.out _ (HB3.out.alloc HB3.out.size _)) ?_)
          have REL := Lib.hid (APPC.out _ (HB3.out.alloc HB3.out.size (.cells #[.slice ra rl rc, .int .i64 m] 30)))
          go_wp2_with fail
          go_simp
          trace_state
          exact ⟨REL.out, by simp [intOf]; omega⟩
    · obtain rfl : k = n := by omega
      have hF : L.take s = dd es := by rw [HT.out, List.take_of_length_le (by have := HEN.out; omega)]
      have hds : (dd es).length = s := by rw [← hF, List.length_take]; have := HL.out; omega
      have hcut : OwnEnts wr base (.slice a s cap) (dd es) := by
        cases a with
        | none =>
          have h0 := c3 rfl
          obtain rfl : s = 0 := by omega
          rw [List.eq_nil_of_length_eq_zero hds, h0]
          exact OwnEnts.nil _ _
        | some ad =>
          obtain ⟨g, h1, _⟩ := H4.out ad rfl
          subst h1
          rw [← hF]
          exact hO.cut hsk
      have CD := Lib.hid (delete_any _ _ _ pred_zero hcut (by omega) (by omega))
      have HF := Lib.hid (show dropL (fun n => decide (n = 0)) (dd es) = bagL es0 from HP.out)
      clear hO hF hcut hds
      go_wp2_with fail
      refine CD.out.mono ?_
      rintro e w2 ⟨sv, rfl, hO2, hB2⟩
      rw [HF.out] at hO2
      have HO2 := Lib.hid hO2
      clear hO2
      go_wp2_with fail
      go_ret
      exact ⟨_, rfl, HO2.out, hbel.trans hB2⟩

end Go.Proofs.Ytdhhhmehkldliaa
