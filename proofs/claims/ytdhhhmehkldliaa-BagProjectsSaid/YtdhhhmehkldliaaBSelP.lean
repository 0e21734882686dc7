/-
  Select, of the reference. · Project, of the reference.
-/
import Derived.Test.YtdhhhmehkldliaaBNorm
import Derived.Test.YtdhhhmehkldliaaGPick
set_option linter.unusedVariables false
namespace Go.Proofs.Ytdhhhmehkldliaa
open Go.RowKit Wh

/-- Does a row have the key at the indices? -/
def hitB (iz : List Int) (key r : List V) : Bool := cmpR (pickV r iz) key == 0
def selL (es : List En) (iz : List Int) (key : List V) : List En := es.filter fun e => hitB iz key e.row
def selOut (es : List En) (iz : List Int) (key : List V) : List En × Int := if bagE es = 0 then resOut (selL es iz key) else ([], bagE es)
theorem selL_no {es : List En} {iz : List Int} {key : List V} {k : Nat} {e : En} (h : es[k]? = some e) (h0 : hitB iz key e.row = false) : selL (es.take (k + 1)) iz key = selL (es.take k) iz key := by
  unfold selL
  rw [List.take_add_one, h]
  simp [h0]
theorem selL_yes {es : List En} {iz : List Int} {key : List V} {k : Nat} {e : En} (h : es[k]? = some e) (h0 : hitB iz key e.row = true) : selL (es.take (k + 1)) iz key = selL (es.take k) iz key ++ [e] := by
  unfold selL
  rw [List.take_add_one, h]
  simp [h0]
theorem selL_length (es : List En) (iz : List Int) (key : List V) : (selL es iz key).length ≤ es.length := List.length_filter_le _ _
theorem rowsB_sel {l : List En} (h : RowsB l) (iz : List Int) (key : List V) : RowsB (selL l iz key) := fun e he => h e (List.mem_filter.1 he).1

set_option maxHeartbeats 2000000
set_option maxRecDepth 100000

theorem rselect_any6 (a : Option Addr) (len cap : Nat) (es : List En) (a2 : Option Addr) (len2 cap2 : Nat) (iz : List Int) (a3 : Option Addr) (len3 cap3 : Nat) (key : List V) (w : World) (hs : IsEnts w a len es) (hl : len ≤ 9223372036854775807) (hs2 : IsInts w a2 len2 iz) (hl2 : len2 ≤ 1000000) (hs3 : IsVals w a3 len3 key) (hl3 : len3 ≤ 9223372036854775807) :
    Calls Try.prog 42 #[.slice a len cap, .slice a2 len2 cap2, .slice a3 len3 cap3] w (EntsErr w (selOut es iz key)) := by
  have hln := hs.1
  have c1 := rvalidate_any6 a len cap es w hs hl
  unfold selOut
  by_cases hz : bagE es = 0
  · have ok := bagE_zero.1 hz
    rw [if_pos hz]
    rw [hz] at c1
    have hl5 : len ≤ 4096 := by have := ok.len; omega
    have RB := Lib.hid ok.rows
    have C1 := Lib.hid c1
    have HS := Lib.hid hs
    have HIT := Lib.hid (fun (r : List V) (b : Bool) (h : hitB iz key r = b) => h)
    have CP := Lib.hid (fun W (h : Below w.heap.size w W) ra rl rc r (hv : IsVals W ra rl r) q1 => rpick_any ra rl rc r a2 len2 cap2 iz W hv (hs2.below h (Nat.le_refl _)) q1 hl2)
    have CS := Lib.hid (fun W (h : Below w.heap.size w W) ra rl rc r (hv : IsVals W ra rl r) q1 => same_any ra rl rc r a3 len3 cap3 key W hv (hs3.below h (Nat.le_refl _)) q1 hl3)
    have hl2e := hs2.1
    obtain ⟨i0, hi, hz0, hz1, hz2⟩ := info_parts info_ent
    clear c1 hs ok hz hs2 hs3
    go_enter Try.func42, Try.ntmps42
    go_wp2_with fail
    refine C1.out.mono ?_
    rintro e w1 ⟨rfl, hb1⟩
    clear C1
    go_wp2_with fail
    go_loopw [9, 10] (fun ov iv wr => ∃ k : Nat, k ≤ len ∧ iv = .int .i64 k ∧ OwnEnts wr w.heap.size ov (selL (es.take k) iz key) ∧ Below w.heap.size w wr) (fun _ i _ => len - (intOf i).toNat)
    case atStart => exact ⟨0, Nat.zero_le _, rfl, OwnEnts.nil _ _, hb1⟩
    case round =>
      obtain ⟨k, hk, rfl, hO, hbel⟩ := hrel
      have HO := Lib.hid hO
      clear hO
      have hs9 := hbel.size
      by_cases hlt : k < len
      · obtain ⟨r, n, ra, rl, rc, b, off, hx, rfl, hbl, c0, c1, hv, g1, g2, g3⟩ := HS.out.at hlt
        have hrow : IsRow w (.slice ra rl rc) r := ⟨ra, rl, rc, rfl, hv, g1, g2, g3⟩
        have e := fun o => hbel.cell (p := ⟨b, o, none⟩) hbl
        rw [← e] at c0 c1
        have hm : maxLen = 9223372036854775807 := rfl
        have CPk := Lib.hid (CP.out wr hbel ra rl rc r (hv.below hbel (Nat.le_refl _)) (by omega))
        have hpl : (pickV r iz).length ≤ 1000000 := by rw [pickV_length]; omega
        cases hq : hitB iz key r with
        | true =>
          have hN := selL_yes hx hq
          have hl9 := selL_length (es.take k) iz key
          rw [List.length_take] at hl9
          have hl9' : (selL (es.take k) iz key).length ≤ 4096 := by omega
          have PU := Lib.hid (fun W (hW : Below wr.heap.size wr W) => pushed n (HO.out.below hW) hrow (hbel.trans (hW.mono hs9)))
          rw [← hN] at PU
          generalize selL (es.take k) iz key = acc at *
          have HQ := Lib.hid (show (cmpR (pickV r iz) key == 0) = true from hq)
          generalize pickV r iz = pv at *
          clear e hx hv hN hl9 hrow HS hln hq HIT
          go_wp2_with fail
          refine CPk.out.mono ?_
          rintro e w2 ⟨v2, rfl, ho2, hb2⟩
          obtain ⟨a5, k5, rfl, hi5, i1, i2, i3⟩ := own_rowv ho2 rfl
          have hB2 := hbel.trans (hb2.mono hs9)
          go_wp2_with fail
          refine (CS.out w2 hB2 a5 pv.length k5 pv hi5 (by omega)).mono ?_
          rintro e w3 ⟨rfl, hb3⟩
          rw [HQ.out]
          have hB3 : Below wr.heap.size wr w3 := hb2.trans (hb3.mono hb2.size)
          obtain ⟨l9, ho9, PUSH⟩ := PU.out w3 hB3
          have hs3 := hB3.size
          have HP := Lib.hid PUSH
          have e3 := (bcell hB3).1
          have hbl3 : b < wr.heap.size := Nat.lt_of_lt_of_le hbl hs9
          rw [← e3 _ _ hbl3] at c0 c1
          clear PUSH PU hi5 ho2 e3 HQ CPk hb2 hb3
          go_wp2_with (at_builtin; refine wpList_append_lies _ rfl _ _ 22 rfl w.heap.size 30 i0 _ 2 32 Try.underlying22 hi hz0 hz1 hz2 rfl (by decide) _ _ _ rfl (ho9.alloc _) ⟨w3.heap.size, 0, none⟩ 1 1 [.slice ra rl rc, .int .i64 n] rfl rfl (World.news_of_block (cs := #[.slice ra rl rc, .int .i64 n]) (t := 30) (fr := (0, 0)) (heap_alloc_new w3 _)) (by simp [Value.oneCell']) (by omega) (by unfold maxLen; omega) (by omega) (by simp; omega) (w3.heap.size + 1) (by simp) ?_)
          intro gg cc w9 hown9 hgrow9 hat9 hlt9
          obtain ⟨hO3, hB9⟩ := HP.out _ gg cc w9 ((Below.refl _ _).alloc (Nat.le_refl _) _) hown9 hgrow9 (hat9.imp id fun h => by rw [h]; simp)
          clear HP hown9 hgrow9 hat9 hlt9 ho9
          go_wp2_with fail
          go_roundw
          case rel => exact ⟨k + 1, by omega, by go_num, hO3, hB9⟩
          case measure => simp [intOf]; omega
        | false =>
          have hN := selL_no hx hq
          have HN := Lib.hid hN
          have HQ := Lib.hid (show (cmpR (pickV r iz) key == 0) = false from hq)
          generalize pickV r iz = pv at *
          clear e hx hv hN hrow hq HIT
          go_wp2_with fail
          refine CPk.out.mono ?_
          rintro e w2 ⟨v2, rfl, ho2, hb2⟩
          obtain ⟨a5, k5, rfl, hi5, i1, i2, i3⟩ := own_rowv ho2 rfl
          have hB2 := hbel.trans (hb2.mono hs9)
          go_wp2_with fail
          refine (CS.out w2 hB2 a5 pv.length k5 pv hi5 (by omega)).mono ?_
          rintro e w3 ⟨rfl, hb3⟩
          rw [HQ.out]
          have hB3 : Below wr.heap.size wr w3 := hb2.trans (hb3.mono hb2.size)
          have hO3 := HO.out.below hB3
          rw [← HN.out] at hO3
          clear hi5 ho2 HQ CPk HN hb2 hb3
          go_wp2_with fail
          go_roundw
          case rel => exact ⟨k + 1, by omega, by go_num, hO3, hbel.trans (hB3.mono hs9)⟩
          case measure => simp [intOf]; omega
      · obtain rfl : k = len := by omega
        have hE : es.take k = es := List.take_of_length_le (by omega)
        rw [hE] at HO
        have hl1 : (selL es iz key).length ≤ 1000000 := by have := selL_length es iz key; omega
        have R1 := Lib.hid (rowsB_sel RB.out iz key)
        obtain ⟨a5, k5, rfl, hi1, i1, i2, i3, _⟩ := own_ents HO.out
        generalize selL es iz key = e1 at *
        clear hE
        go_wp2_with fail
        refine (rresult_any a5 e1.length k5 e1 wr hi1 hl1 R1.out).mono ?_
        rintro e w3 ⟨v3, rfl, ho3, hb3⟩
        go_wp2_with fail
        go_ret2
        exact ⟨_, rfl, ho3.mono hs9, hbel.trans (hb3.mono hs9)⟩
  · rw [if_neg hz]
    generalize bagE es = z at *
    have hz0 : (z == 0) = false := by simpa using hz
    have C1 := Lib.hid c1
    clear c1 hs hz hs2 hs3
    go_enter Try.func42, Try.ntmps42
    go_wp2_with fail
    refine C1.out.mono ?_
    rintro e w1 ⟨rfl, hb1⟩
    go_wp2_with fail
    go_ret2
    exact ⟨_, rfl, OwnEnts.nil _ _, hb1⟩

end Go.Proofs.Ytdhhhmehkldliaa

set_option linter.unusedVariables false
namespace Go.Proofs.Ytdhhhmehkldliaa
open Go.RowKit Wh

def projL (es : List En) (iz : List Int) : List En := es.map fun e => ⟨pickV e.row iz, e.cnt⟩
def projOut (es : List En) (iz : List Int) : List En × Int := if bagE es = 0 then (if 12 < iz.length then ([], 2) else sumOut (projL es iz)) else ([], bagE es)
theorem projL_next {es : List En} {iz : List Int} {k : Nat} {e : En} (h : es[k]? = some e) : projL (es.take (k + 1)) iz = projL (es.take k) iz ++ [⟨pickV e.row iz, e.cnt⟩] := by
  unfold projL
  rw [List.take_add_one, h, List.map_append]
  rfl
theorem projL_length (es : List En) (iz : List Int) : (projL es iz).length = es.length := List.length_map _
theorem projL_rows (es : List En) {iz : List Int} (h : iz.length ≤ 1000000) : RowsB (projL es iz) := fun e he => by
  unfold projL at he
  obtain ⟨x, hx, rfl⟩ := List.mem_map.1 he
  rw [pickV_length]
  exact h
theorem projL_abs (es : List En) (iz : List Int) : absS (projL es iz) = absS es := by
  unfold projL
  induction es with
  | nil => rfl
  | cons e es ih => simp only [List.map_cons, absS, ih]

set_option maxHeartbeats 4000000
set_option maxRecDepth 100000

theorem rproject_any (a : Option Addr) (len cap : Nat) (es : List En) (a2 : Option Addr) (len2 cap2 : Nat) (iz : List Int) (w : World) (hs : IsEnts w a len es) (hl : len ≤ 9223372036854775807) (hs2 : IsInts w a2 len2 iz) (hl2 : len2 ≤ 1000000) :
    Calls Try.prog 40 #[.slice a len cap, .slice a2 len2 cap2] w (EntsErr w (projOut es iz)) := by
  have hln := hs.1
  have hln2 := hs2.1
  have c1 := rvalidate_any6 a len cap es w hs hl
  unfold projOut
  by_cases hz : bagE es = 0
  · have ok := bagE_zero.1 hz
    rw [if_pos hz]
    rw [hz] at c1
    have hl5 : len ≤ 4096 := by have := ok.len; omega
    have C1 := Lib.hid c1
    by_cases h12 : 12 < len2
    · rw [if_pos (by omega)]
      clear c1 hs ok hz hs2 hln hln2
      go_enter Try.func40, Try.ntmps40
      go_wp2_with fail
      refine C1.out.mono ?_
      rintro e w1 ⟨rfl, hb1⟩
      go_wp2_with fail
      go_ret2
      exact ⟨_, rfl, OwnEnts.nil _ _, hb1⟩
    rw [if_neg (by omega)]
    have AB := Lib.hid (show absS (projL es iz) ≤ 1000000000000 by rw [projL_abs]; have := ok.abs; omega)
    have RB := Lib.hid (projL_rows es (iz := iz) (by omega))
    have HS := Lib.hid hs
    have CP := Lib.hid (fun W (h : Below w.heap.size w W) ra rl rc r (hv : IsVals W ra rl r) q1 => rpick_any ra rl rc r a2 len2 cap2 iz W hv (hs2.below h (Nat.le_refl _)) q1 hl2)
    obtain ⟨i0, hi, hz0, hz1, hz2⟩ := info_parts info_ent
    have hln2' := hln2
    clear c1 hs ok hz hs2 hln2
    go_enter Try.func40, Try.ntmps40
    go_wp2_with fail
    refine C1.out.mono ?_
    rintro e w1 ⟨rfl, hb1⟩
    clear C1
    go_wp2_with fail
    go_loopw [7, 8] (fun ov iv wr => ∃ k : Nat, k ≤ len ∧ iv = .int .i64 k ∧ OwnEnts wr w.heap.size ov (projL (es.take k) iz) ∧ Below w.heap.size w wr) (fun _ i _ => len - (intOf i).toNat)
    case atStart => exact ⟨0, Nat.zero_le _, rfl, OwnEnts.nil _ _, hb1⟩
    case round =>
      obtain ⟨k, hk, rfl, hO, hbel⟩ := hrel
      have HO := Lib.hid hO
      clear hO
      have hs9 := hbel.size
      by_cases hlt : k < len
      · obtain ⟨r, n, ra, rl, rc, b, off, hx, rfl, hbl0, c0, c1, hv, g1, g2, g3⟩ := HS.out.at hlt
        have d0 := c0
        have d1 := c1
        have e := fun o => hbel.cell (p := ⟨b, o, none⟩) hbl0
        rw [← e] at c0 c1
        have hk9 : (k : Int) < (len : Int) := by omega
        have hl9 : (projL (es.take k) iz).length ≤ 4096 := by rw [projL_length, List.length_take]; omega
        have hbd : Below w.heap.size w wr.drew := hbel.trans ((Below.refl _ _).drew)
        have hrl : rl ≤ 9223372036854775807 := by have : maxLen = 9223372036854775807 := rfl; omega
        have CPk := Lib.hid (fun W (hW : Below w.heap.size w W) => CP.out W hW ra rl rc r (hv.below hW (Nat.le_refl _)) hrl)
        have hpl : (pickV r iz).length ≤ 1000000 := by rw [pickV_length]; omega
        have HN := Lib.hid (projL_next (iz := iz) hx)
        have HO6 := Lib.hid HO.out.drew
        generalize projL (es.take k) iz = acc at *
        generalize hq3 : projL (es.take (k + 1)) iz = acc2 at *
        have HQ3 := Lib.hid hq3
        generalize pickV r iz = pv at *
        have hS0 : wr.drew.cell? ⟨b, off + k * 2, none⟩ = some (.slice ra rl rc) ∧ wr.drew.cell? ⟨b, off + k * 2 + 1, none⟩ = some (.int .i64 n) ∧ Below w.heap.size w wr.drew := ⟨c0, c1, hbd⟩
        clear e hx hv hq3 CP HS HO hln hln2'
        go_wp2_with fail
        go_region_held3 (fun w' => w'.cell? ⟨b, off + k * 2, none⟩ = some (.slice ra rl rc) ∧ w'.cell? ⟨b, off + k * 2 + 1, none⟩ = some (.int .i64 n) ∧ Below w.heap.size w w')
          (first | with_reducible exact hS0 | with_reducible exact hS5 | with_reducible exact keepTwoCells hbl0 hS5 ((Below.refl _ _).alloc (Nat.le_refl _) _) | with_reducible exact hS9)
          (first | (go_at_call 69; refine (CPk.out _ (by go_split_ands; assumption)).mono ?_; rintro e w5 ⟨v2, rfl, ho2, hcall⟩; obtain ⟨a5, k5, rfl, _, _, _, _⟩ := own_rowv ho2 rfl; obtain ⟨hrow5, hfar5⟩ := clone_row ho2 rfl; have hS5 := keepTwoCells hbl0 hS0 hcall; have hO5 := OwnEnts.below HO6.out hcall; obtain ⟨l9, ho9, PUSH⟩ := pushedNew n hO5 hrow5 (hfar5 _ fun j hj => (HO6.out.choose_spec.2.1.lt j hj).2) hS5.2.2; have hs5 := hS5.2.2.size) |
            (refine step_append_lies _ (by rfl) (.tmp 23) (.tmp 37) _ (by rfl) w.heap.size 30 i0 _ 2 32 Try.underlying22 hi hz0 hz1 hz2 rfl (by omega) _ _ _ (by rfl) (ho9.alloc _) ⟨w5.heap.size, 0, none⟩ 1 1 [.slice a5 pv.length k5, .int .i64 n] (by rfl) (by rfl) (World.news_of_block (cs := #[.slice a5 pv.length k5, .int .i64 n]) (t := 30) (fr := (0, 0)) (heap_alloc_new w5 _)) (by simp [Value.oneCell']) (by omega) (by unfold maxLen; omega) (by omega) (by simp; omega) (w5.heap.size + 1) (by simp) ?_; intro gg cc w9 hown9 hgrow9 hat9 hlt9; obtain ⟨hO3, hB3⟩ := PUSH _ gg cc w9 ((Below.refl _ _).alloc (Nat.le_refl _) _) hown9 hgrow9 (hat9.imp id fun h => by rw [h]; simp); have hS9 := And.intro (((bcell hB3).1 _ _ hbl0).trans d0) (And.intro (((bcell hB3).1 _ _ hbl0).trans d1) hB3)))
        all_goals
          rw [← HN.out] at hO3
          clear PUSH hown9 hgrow9 hat9 hlt9 ho9 hO5 hrow5 hfar5 hcall hS0 hS5 hS9
          go_wp2_with fail
          go_roundw
          case rel => exact ⟨k + 1, by omega, by go_num, by rw [HQ3.out]; exact hO3, hB3⟩
          case measure => simp [intOf]; omega
      · obtain rfl : k = len := by omega
        have hE : es.take k = es := List.take_of_length_le (by omega)
        have hO := HO.out
        rw [hE] at hO
        have hl8 : (projL es iz).length ≤ 1000000 := by rw [projL_length]; omega
        obtain ⟨a5, k5, rfl, hi5, i1, i2, i3, _⟩ := own_ents hO
        have HR := Lib.hid (rsum_any a5 (projL es iz).length k5 (projL es iz) wr hi5 i1 i2 i3 hl8 AB.out RB.out)
        generalize projL es iz = e1 at *
        clear hE hO hi5 HO CP HS
        go_wp2_with fail
        refine HR.out.mono ?_
        rintro e w4 ⟨v4, rfl, ho4, hb4⟩
        go_wp2_with fail
        go_ret2
        exact ⟨_, rfl, ho4.mono hs9, hbel.trans (hb4.mono hs9)⟩
  · rw [if_neg hz]
    generalize bagE es = z at *
    have hz0 : (z == 0) = false := by simpa using hz
    have C1 := Lib.hid c1
    clear c1 hs hz hs2
    go_enter Try.func40, Try.ntmps40
    go_wp2_with fail
    refine C1.out.mono ?_
    rintro e w1 ⟨rfl, hb1⟩
    go_wp2_with fail
    go_ret2
    exact ⟨_, rfl, OwnEnts.nil _ _, hb1⟩

end Go.Proofs.Ytdhhhmehkldliaa
