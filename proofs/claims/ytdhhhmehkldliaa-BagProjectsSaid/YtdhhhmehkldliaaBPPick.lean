/-
  Select, Project, of the program.
-/
import Derived.Test.YtdhhhmehkldliaaBPSum
import Derived.Test.YtdhhhmehkldliaaBSelP
import Derived.Test.YtdhhhmehkldliaaGPick
set_option linter.unusedVariables false
set_option maxRecDepth 100000
namespace Go.Proofs.Ytdhhhmehkldliaa
open Go.RowKit Wh

theorem selL_nz {es : List En} (h : ∀ e ∈ es, ¬ e.cnt = 0) (iz : List Int) (key : List V) : nzL (selL es iz key) = selL es iz key := nzL_self fun e he => h e (List.mem_filter.1 he).1
theorem cmpR_length : ∀ (a b : List V), cmpR a b = 0 → a.length = b.length := fun a b h => by rw [(cmpR_zero a b).1 h]
theorem selL_none {es : List En} {iz : List Int} {key : List V} (h : ¬ iz.length = key.length) : selL es iz key = [] := by
  unfold selL
  rw [List.filter_eq_nil_iff]
  intro e _ hq
  have h1 : cmpR (pickV e.row iz) key = 0 := by simpa [hitB] using hq
  have h2 := cmpR_length _ _ h1
  rw [pickV_length] at h2
  exact h h2

set_option maxHeartbeats 4000000

theorem select_any6 (a : Option Addr) (len cap : Nat) (es : List En) (a2 : Option Addr) (len2 cap2 : Nat) (iz : List Int) (a3 : Option Addr) (len3 cap3 : Nat) (key : List V) (w : World) (hs : IsEnts w a len es) (hl : len ≤ 9223372036854775807) (hs2 : IsInts w a2 len2 iz) (hl2 : len2 ≤ 1000000) (hs3 : IsVals w a3 len3 key) (hl3 : len3 ≤ 9223372036854775807) :
    Calls Try.prog 41 #[.slice a len cap, .slice a2 len2 cap2, .slice a3 len3 cap3] w (EntsErr w (selOut es iz key)) := by
  have hln := hs.1
  have hl2e := hs2.1
  have hl3e := hs3.1
  have c1 := validate_any6 a len cap es w hs hl
  unfold selOut
  by_cases hz : bagE es = 0
  · have ok := bagE_zero.1 hz
    rw [if_pos hz, resOut_eq, selL_nz ok.bag.nz]
    rw [hz] at c1
    have hl5 : len ≤ 4096 := by have := ok.len; omega
    have RB := Lib.hid ok.rows
    have C1 := Lib.hid c1
    have HS := Lib.hid hs
    by_cases h23 : len2 = len3
    · have CP := Lib.hid (fun W (h : Below w.heap.size w W) ra rl rc r (hv : IsVals W ra rl r) q1 => pickVals_any ra rl rc r a2 len2 cap2 iz W hv (hs2.below h (Nat.le_refl _)) q1 hl2)
      have CS := Lib.hid (fun W (h : Below w.heap.size w W) ra rl rc r (hv : IsVals W ra rl r) q1 => rows_grew ra rl rc r a3 len3 cap3 key W hv (hs3.below h (Nat.le_refl _)) q1 hl3)
      obtain ⟨i0, hi, hz0, hz1, hz2⟩ := info_parts info_ent
      clear c1 hs ok hz hs2 hs3
      subst h23
      go_enter Try.func41, Try.ntmps41
      go_wp2_with fail
      refine C1.out.mono ?_
      rintro e w1 ⟨rfl, hb1⟩
      clear C1
      go_wp2_with fail
      go_loopw [9, 24] (fun ov iv wr => ∃ k : Nat, k ≤ len ∧ iv = .int .i64 k ∧ OwnEnts wr w.heap.size ov (selL (es.take k) iz key) ∧ Below w.heap.size w wr) (fun _ i _ => len - (intOf i).toNat)
      case atStart => exact ⟨0, Nat.zero_le _, rfl, OwnEnts.nil _ _, hb1⟩
      case round =>
        obtain ⟨k, hk, rfl, hO, hbel⟩ := hrel
        have HO := Lib.hid hO
        clear hO
        have hs9 := hbel.size
        by_cases hlt : k < len
        · obtain ⟨r, n, ra, rl, rc, b, off, hx, rfl, hbl, c0, c1, hv, g1, g2, g3⟩ := HS.out.at hlt
          have hrow : IsRow w (.slice ra rl rc) r := ⟨ra, rl, rc, rfl, hv, g1, g2, g3⟩
          have e := fun o => hbel.cell (p := ⟨b, o, none⟩) hbl
          rw [← e] at c0 c1
          have hm : maxLen = 9223372036854775807 := rfl
          have bx := ebox wr (.slice ra rl rc) n 30
          have hW1 : Below wr.heap.size wr (wr.alloc (.cells #[.slice ra rl rc, .int .i64 n] 30)) := (Below.refl _ _).alloc (Nat.le_refl _) _
          have hW1s : (wr.alloc (.cells #[.slice ra rl rc, .int .i64 n] 30)).heap.size = wr.heap.size + 1 := by simp
          have hBW := hbel.trans (hW1.mono hs9)
          have CPk := Lib.hid (CP.out _ hBW ra rl rc r (hv.below hBW (Nat.le_refl _)) (by omega))
          have hpl : (pickV r iz).length ≤ 1000000 := by rw [pickV_length]; omega
          cases hq : hitB iz key r with
          | true =>
            have hN := selL_yes hx hq
            have hl9 := selL_length (es.take k) iz key
            rw [List.length_take] at hl9
            have hl9' : (selL (es.take k) iz key).length ≤ 4096 := by omega
            have PU := Lib.hid (fun W (hW : Below wr.heap.size wr W) => pushed n (HO.out.below hW) hrow (hbel.trans (hW.mono hs9)))
            rw [← hN] at PU
            generalize selL (es.take k) iz key = acc at *
            have HQ : Hid (cmpR (pickV r iz) key = 0) := by show _ = _; simpa [hitB] using hq
            generalize pickV r iz = pv at *
            have bx0 := Lib.hid bx.1
            have bx1 := Lib.hid bx.2
            have HW1s := Lib.hid hW1s
            clear e hx hv hN hl9 hrow HS hln hq bx hW1s
            go_wp2_with fail
            refine CPk.out.mono ?_
            rintro e w2 ⟨v2, rfl, ho2, hb2⟩
            obtain ⟨a5, k5, rfl, hi5, i1, i2, i3⟩ := own_rowv ho2 rfl
            have hbW2 : Below wr.heap.size wr w2 := hW1.trans (hb2.mono (by have := HW1s.out; omega))
            have hB2 := hbel.trans (hbW2.mono hs9)
            go_wp2_with fail
            refine (CS.out w2 hB2 a5 pv.length k5 pv hi5 (by omega)).mono ?_
            rintro e w3 ⟨rfl, hb3⟩
            have hb3 := hb3.1
            rw [HQ.out]
            have hB3 : Below wr.heap.size wr w3 := hbW2.trans (hb3.mono hbW2.size)
            obtain ⟨l9, ho9, PUSH⟩ := PU.out w3 hB3
            have hs3 := hB3.size
            have HP := Lib.hid PUSH
            have e3 := hb2.trans (hb3.mono hb2.size)
            have x0 := ((bcell e3).1 wr.heap.size 0 (by have := HW1s.out; omega)).trans bx0.out
            have x1 := ((bcell e3).1 wr.heap.size 1 (by have := HW1s.out; omega)).trans bx1.out
            clear PUSH PU hi5 ho2 e3 HQ CPk hb2 hb3 bx0 bx1 hbW2
            go_wp2_with (at_builtin; refine wpList_append_lies _ rfl _ _ 22 rfl w.heap.size 30 i0 _ 2 32 Try.underlying22 hi hz0 hz1 hz2 rfl (by decide) _ _ _ rfl (ho9.alloc _) ⟨w3.heap.size, 0, none⟩ 1 1 [.slice ra rl rc, .int .i64 n] rfl rfl (World.news_of_block (cs := #[.slice ra rl rc, .int .i64 n]) (t := 30) (fr := (0, 0)) (heap_alloc_new w3 _)) (by simp [Value.oneCell']) (by omega) (by unfold maxLen; omega) (by omega) (by simp; omega) (w3.heap.size + 1) (by simp) ?_)
            intro gg cc w9 hown9 hgrow9 hat9 hlt9
            obtain ⟨hO3, hB9⟩ := HP.out _ gg cc w9 ((Below.refl _ _).alloc (Nat.le_refl _) _) hown9 hgrow9 (hat9.imp id fun h => by rw [h]; simp)
            clear HP hown9 hgrow9 hat9 hlt9 ho9
            go_wp2_with fail
            go_roundw
            case rel => exact ⟨k + 1, by omega, by go_num, hO3, hB9⟩
            case measure => simp [intOf]; omega
          | false =>
            have hN := selL_no hx hq
            have HN := Lib.hid hN
            have HQ : Hid ((cmpR (pickV r iz) key == 0) = false) := hq
            generalize pickV r iz = pv at *
            have HW1s := Lib.hid hW1s
            clear e hx hv hN hrow hq bx hW1s
            go_wp2_with fail
            refine CPk.out.mono ?_
            rintro e w2 ⟨v2, rfl, ho2, hb2⟩
            obtain ⟨a5, k5, rfl, hi5, i1, i2, i3⟩ := own_rowv ho2 rfl
            have hbW2 : Below wr.heap.size wr w2 := hW1.trans (hb2.mono (by have := HW1s.out; omega))
            have hB2 := hbel.trans (hbW2.mono hs9)
            go_wp2_with fail
            refine (CS.out w2 hB2 a5 pv.length k5 pv hi5 (by omega)).mono ?_
            rintro e w3 ⟨rfl, hb3⟩
            have hb3 := hb3.1
            have hq0 := HQ.out
            generalize cmpR pv key = cc at *
            have hB3 : Below wr.heap.size wr w3 := hbW2.trans (hb3.mono hbW2.size)
            have HO3 := Lib.hid (HO.out.below hB3)
            clear hi5 ho2 CPk hb2 hb3 hbW2
            go_wp2_with fail
            go_roundw
            case rel => exact ⟨k + 1, by omega, by go_num, by rw [HN.out]; exact HO3.out, hbel.trans (hB3.mono hs9)⟩
            case measure => simp [intOf]; omega
        · obtain rfl : k = len := by omega
          have hE : es.take k = es := List.take_of_length_le (by omega)
          rw [hE] at HO
          have hl1 : (selL es iz key).length ≤ 1000000 := by have := selL_length es iz key; omega
          have R1 := Lib.hid (rowsB_sel RB.out iz key)
          obtain ⟨a5, k5, rfl, hi1, i1, i2, i3, _⟩ := own_ents HO.out
          generalize selL es iz key = e1 at *
          clear hE
          go_wp2_with fail
          refine (result_any a5 e1.length k5 e1 wr hi1 hl1 R1.out).mono ?_
          rintro e w3 ⟨v3, rfl, ho3, hb3⟩
          go_wp2_with fail
          go_ret2
          exact ⟨_, rfl, ho3.mono hs9, hbel.trans (hb3.mono hs9)⟩
    · rw [selL_none (by omega)]
      have hne : ¬ (len2 : Int) = (len3 : Int) := by omega
      have h0 : resP [] = ([], 0) := resP_good (by simp) (by simp)
      rw [h0]
      clear c1 hs ok hz hs2 hs3 hln hl2e hl3e
      go_enter Try.func41, Try.ntmps41
      go_wp2_with fail
      refine C1.out.mono ?_
      rintro e w1 ⟨rfl, hb1⟩
      go_wp2_with fail
      go_ret2
      exact ⟨_, rfl, OwnEnts.nil _ _, hb1⟩
  · rw [if_neg hz]
    generalize bagE es = z at *
    have hz0 : (z == 0) = false := by simpa using hz
    have C1 := Lib.hid c1
    clear c1 hs hz hs2 hs3
    go_enter Try.func41, Try.ntmps41
    go_wp2_with fail
    refine C1.out.mono ?_
    rintro e w1 ⟨rfl, hb1⟩
    go_wp2_with fail
    go_ret2
    exact ⟨_, rfl, OwnEnts.nil _ _, hb1⟩

theorem project_any (a : Option Addr) (len cap : Nat) (es : List En) (a2 : Option Addr) (len2 cap2 : Nat) (iz : List Int) (w : World) (hs : IsEnts w a len es) (hl : len ≤ 9223372036854775807) (hs2 : IsInts w a2 len2 iz) (hl2 : len2 ≤ 1000000) :
    Calls Try.prog 39 #[.slice a len cap, .slice a2 len2 cap2] w (EntsErr w (projOut es iz)) := by
  have hln := hs.1
  have hln2 := hs2.1
  have c1 := validate_any6 a len cap es w hs hl
  unfold projOut
  by_cases hz : bagE es = 0
  · have ok := bagE_zero.1 hz
    rw [if_pos hz]
    rw [hz] at c1
    have hl5 : len ≤ 4096 := by have := ok.len; omega
    have C1 := Lib.hid c1
    by_cases h12 : 12 < len2
    · rw [if_pos (by omega)]
      clear c1 hs ok hz hs2 hln hln2
      go_enter Try.func39, Try.ntmps39
      go_wp2_with fail
      refine C1.out.mono ?_
      rintro e w1 ⟨rfl, hb1⟩
      go_wp2_with fail
      go_ret2
      exact ⟨_, rfl, OwnEnts.nil _ _, hb1⟩
    rw [if_neg (by omega), sumOut_eq]
    have hAB := Lib.hid (show absS (projL es iz) ≤ 1000000000000 by rw [projL_abs]; have := ok.abs; omega)
    have RB := Lib.hid (projL_rows es (iz := iz) (by omega))
    have HS := Lib.hid hs
    have hpln := projL_length es iz
    have hpat : ∀ (k : Nat) (r : List V) (n : Int), es[k]? = some ⟨r, n⟩ → (projL es iz)[k]? = some ⟨pickV r iz, n⟩ := fun k r n h => by unfold projL; rw [List.getElem?_map, h]; rfl
    have HPAT := Lib.hid hpat
    have CP := Lib.hid (fun W (h : Below w.heap.size w W) ra rl rc r (hv : IsVals W ra rl r) q1 => pickVals_any ra rl rc r a2 len2 cap2 iz W hv (hs2.below h (Nat.le_refl _)) q1 hl2)
    have CO := Lib.hid (fun (W : World) (v : Value) (B : Nat) (h : OwnEnts W B v (projL es iz)) (hb : B ≤ W.heap.size) => collect_any h hb (by omega) hAB.out)
    have hbl9 := bagL_length (projL es iz)
    have CR := Lib.hid (fun (W : World) (a5 : Option Addr) (k5 : Nat) (h : IsEnts W a5 (bagL (projL es iz)).length (bagL (projL es iz))) => result_any a5 (bagL (projL es iz)).length k5 (bagL (projL es iz)) W h (by omega) RB.out.bag)
    generalize bagL (projL es iz) = bs at *
    generalize projL es iz = out at *
    have HLN := Lib.hid (show out.length = len by omega)
    obtain ⟨i0, hi, hz0, hz1, hz2⟩ := info_parts info_ent
    clear c1 hs ok hz hs2 hpat
    go_enter Try.func39, Try.ntmps39
    go_wp2_with fail
    refine C1.out.mono ?_
    rintro e w1 ⟨rfl, hb1⟩
    clear C1
    have hs1 := hb1.size
    go_wp2_with (refine wpList_make_full _ rfl (.tmp 19) (.tmp 19) 22 rfl w.heap.size 30 i0 _ 2 Try.underlying22 hi hz0 hz1 .i64 .i64 _ _ len rfl rfl rfl rfl ?c1 ?c2 hs1 ?_)
    case c1 => rw [hz2]; omega
    case c2 => simp [maxLen]; omega
    intro w0 own0 hg0
    have B0 : Below w.heap.size w w0 := hb1.grown hg0 hs1 (fun j hj => by cases hj)
    have own1 : OwnEnts w0 w.heap.size (.slice (some ⟨w1.heap.size, 0, none⟩) len len) (halfE out 0) := by
      rw [halfE_zero, HLN.out]
      exact OwnEnts.made own0
    have HO1 := Lib.hid own1
    generalize hgg : w1.heap.size = g at *
    have hgw : w.heap.size ≤ g := hs1
    clear own0 hg0 own1 hgg
    go_wp2_with fail
    go_loopw [23] (fun iv wr => ∃ k : Nat, k ≤ len ∧ iv = .int .i64 k ∧ OwnEnts wr w.heap.size (.slice (some ⟨g, 0, none⟩) len len) (halfE out k) ∧ Below w.heap.size w wr) (fun i _ => len - (intOf i).toNat)
    case atStart => exact ⟨0, Nat.zero_le _, rfl, HO1.out, B0⟩
    case round =>
      obtain ⟨k, hk, rfl, hO, hbel⟩ := hrel
      have HO := Lib.hid hO
      have hsz := hbel.size
      clear hO
      by_cases hlt : k < len
      · obtain ⟨r, n, ra, rl, rc, b, off, hx, rfl, hbl, c0, c1, hv, g1, g2, g3⟩ := (HS.out.below hbel (Nat.le_refl _)).at hlt
        have HX := Lib.hid (HPAT.out k r n hx)
        have bx := ebox wr (.slice ra rl rc) n 30
        have hW1 : Below wr.heap.size wr (wr.alloc (.cells #[.slice ra rl rc, .int .i64 n] 30)) := (Below.refl _ _).alloc (Nat.le_refl _) _
        have hW1s : (wr.alloc (.cells #[.slice ra rl rc, .int .i64 n] 30)).heap.size = wr.heap.size + 1 := by simp
        have hgl := (own_size HO.out).2.2.2.2
        have hsg := halfE_set HX.out
        have hhl : (halfE out k).length = len := by rw [halfE_length (by have := HLN.out; omega), HLN.out]
        have hS0 : KeepRes w.heap.size g len len wr.heap.size (halfE out k) (.slice ra rl rc) n w ((wr.alloc (.cells #[.slice ra rl rc, .int .i64 n] 30)).drew) :=
          ⟨(HO.out.alloc _).drew, bx.1, bx.2, by simp; omega, by simp, by simp; omega, (hbel.trans (hW1.mono hsz)).drew⟩
        have CC := Lib.hid (fun W (h : Below wr.heap.size wr W) => CP.out W (hbel.trans (h.mono hsz)) ra rl rc r (hv.below h (Nat.le_refl _)) (by have : maxLen = 9223372036854775807 := rfl; omega))
        have HW1 := Lib.hid hW1
        have HSET := Lib.hid hsg
        have HAT := Lib.hid (halfE_at (es := out) (k := k) (by have := HLN.out; omega))
        generalize halfE out k = acc at *
        generalize hq2 : halfE out (k + 1) = acc2 at *
        have HQ := Lib.hid hq2
        have hks : k < acc.length := by omega
        generalize pickV r iz = pv at *
        clear hq2 hv hx hsg
        go_wp2_with fail
        generalize hw1 : wr.alloc (.cells #[.slice ra rl rc, .int .i64 n] 30) = W1 at *
        have hW1d := HW1.out.drew
        obtain ⟨hO1, x0, x1, hg', hx', hsz', hbel'⟩ := hS0
        obtain ⟨_, _, _, z0, z1, f0, f1, _⟩ := own_entry hO1 HAT.out
        have HO1' := Lib.hid hO1
        clear hw1 bx hW1 hO1 HO hbel c0 c1 HO1 B0
        go_region_with (first | (go_at_call 68; refine (CC.out _ hW1d).mono ?_; rintro e w4 ⟨sv, rfl, hown, hb⟩; obtain ⟨hrow5, hfar5⟩ := clone_row hown rfl; obtain ⟨ra5, k5, rfl, _, _, _, _⟩ := own_rowv hown rfl; obtain ⟨hO4, y0, y1, hg4, hx4, hsz4, hbel4⟩ := KeepRes.on ⟨HO1'.out, x0, x1, hg', hx', hsz', hbel'⟩ hb; obtain ⟨_, _, _, q0, q1, j0, j1, _⟩ := own_entry hO4 HAT.out; have HFIN := Lib.hid (And.intro (hO4.setEnt hks n hrow5 (hfar5 _ fun j hj => by cases hj; exact hg')) ((hbel4.setCell (p := ⟨g, k * 2, none⟩) hgw (.slice ra5 pv.length k5)).setCell (p := ⟨g, k * 2 + 1, none⟩) hgw (.int .i64 n))); clear hown hrow5 hfar5 hO4))
        all_goals
          obtain ⟨hF1, hF2⟩ := HFIN.out
          rw [HSET.out] at hF1
          clear HFIN
          go_wp2_with fail
          go_roundw
          case rel => exact ⟨k + 1, by omega, by go_num, by rw [HQ.out]; exact hF1, hF2⟩
          case measure => simp [intOf]; omega
      · obtain rfl : k = len := by omega
        have hO := HO.out
        rw [show halfE out k = out by rw [← HLN.out]; exact halfE_end out] at hO
        have CK := Lib.hid (CO.out _ _ _ hO hsz)
        clear hO HO
        go_wp2_with fail
        refine CK.out.mono ?_
        rintro e w3 ⟨v3, rfl, ho3, hb3⟩
        obtain ⟨a5, k5, rfl, hi5, i1, i2, i3, _⟩ := own_ents ho3
        have hB3 := hbel.trans hb3
        go_wp2_with fail
        refine (CR.out _ a5 k5 hi5).mono ?_
        rintro e w4 ⟨v4, rfl, ho4, hb4⟩
        go_wp2_with fail
        go_ret2
        exact ⟨_, rfl, ho4.mono hB3.size, hB3.trans (hb4.mono hB3.size)⟩
  · rw [if_neg hz]
    generalize bagE es = z at *
    have hz0 : (z == 0) = false := by simpa using hz
    have C1 := Lib.hid c1
    clear c1 hs hz hs2
    go_enter Try.func39, Try.ntmps39
    go_wp2_with fail
    refine C1.out.mono ?_
    rintro e w1 ⟨rfl, hb1⟩
    go_wp2_with fail
    go_ret2
    exact ⟨_, rfl, OwnEnts.nil _ _, hb1⟩

end Go.Proofs.Ytdhhhmehkldliaa
