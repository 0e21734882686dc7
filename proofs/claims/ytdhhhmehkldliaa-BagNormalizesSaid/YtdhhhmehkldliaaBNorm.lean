/-
  Normalize and Distinct, of the reference.
-/
import Derived.Test.YtdhhhmehkldliaaBSum
set_option linter.unusedVariables false
namespace Wh

theorem fitsE_next {es : List En} {k : Nat} {e : En} (h : es[k]? = some e) : fitsE (es.drop k) = if fitE e = 0 then fitsE (es.drop (k + 1)) else fitE e := by
  have hk := List.getElem?_eq_some_iff.1 h
  rw [List.drop_eq_getElem_cons hk.1, hk.2]
  rfl
theorem fitsE_zero {es : List En} (h : fitsE es = 0) : ∀ e ∈ es, fitE e = 0 := by
  induction es with
  | nil => simp
  | cons x es ih =>
    unfold fitsE at h
    by_cases hx : fitE x = 0
    · rw [if_pos hx] at h
      intro e he
      rcases List.mem_cons.1 he with rfl | he
      · exact hx
      · exact ih h e he
    · rw [if_neg hx] at h
      exact absurd h hx
theorem onceL_no {es : List En} {k : Nat} {e : En} (h : es[k]? = some e) (h0 : ¬ 0 < e.cnt) : onceL (es.take (k + 1)) = onceL (es.take k) := by
  unfold onceL
  rw [List.take_add_one, h]
  simp [h0]
theorem onceL_yes {es : List En} {k : Nat} {e : En} (h : es[k]? = some e) (h0 : 0 < e.cnt) : onceL (es.take (k + 1)) = onceL (es.take k) ++ [⟨e.row, 1⟩] := by
  unfold onceL
  rw [List.take_add_one, h]
  simp [h0]
theorem onceL_length (es : List En) : (onceL es).length ≤ es.length := by
  unfold onceL
  rw [List.length_map]
  exact List.length_filter_le _ _
theorem RowsB.once {l : List En} (h : RowsB l) : RowsB (onceL l) := fun e he => by
  unfold onceL at he
  obtain ⟨x, hx, rfl⟩ := List.mem_map.1 he
  exact h x (List.mem_filter.1 hx).1

end Wh
namespace Go.Proofs.Ytdhhhmehkldliaa
open Go.RowKit Wh

set_option maxHeartbeats 2000000
set_option maxRecDepth 100000

theorem rnormalize_any (a : Option Addr) (len cap : Nat) (es : List En) (w : World) (hs : IsEnts w a len es) (p1 : len ≤ cap) (p2 : cap ≤ maxLen) (p3 : a = none → cap = 0) (hl : len ≤ 1000000) :
    Calls Try.prog 24 #[.slice a len cap] w (EntsErr w (normOut es)) := by
  have hln := hs.1
  have HS := Lib.hid hs
  have BAD := Lib.hid (fun (z : Int) (h : fitsE es = z) (h0 : ¬ z = 0) => show normOut es = ([], z) by unfold normOut; rw [h, if_neg h0])
  have GOOD := Lib.hid (fun (h : fitsE es = 0) => show normOut es = sumOut es by unfold normOut; rw [if_pos h])
  have SUM := Lib.hid (fun (h : fitsE es = 0) W (hW : Below w.heap.size w W) => rsum_any a len cap es W (hs.below hW (Nat.le_refl _)) p1 p2 p3 hl (by
    have := absS_bd (es := es) fun e he => by
      have := fitE_zero (fitsE_zero h e he)
      exact ⟨this.2.1, this.2.2.1⟩
    omega) (fun e he => by have := (fitE_zero (fitsE_zero h e he)).1; omega))
  generalize normOut es = E at *
  clear hs
  go_enter Try.func24, Try.ntmps24
  go_wp2_with fail
  go_loopw [4] (fun iv wr => ∃ k : Nat, k ≤ len ∧ iv = .int .i64 k ∧ Hid (fitsE es = fitsE (es.drop k)) ∧ Below w.heap.size w wr) (fun i _ => len - (intOf i).toNat)
  case atStart => exact ⟨0, Nat.zero_le _, rfl, rfl, Below.refl _ _⟩
  case round =>
    obtain ⟨k, hk, rfl, HG, hbel⟩ := hrel
    have hsz := hbel.size
    by_cases hlt : k < len
    · obtain ⟨r, n, ra, rl, rc, b, off, hx, rfl, hbl, c0, c1, hv, g1, g2, g3⟩ := (HS.out.below hbel (Nat.le_refl _)).at hlt
      have HN := Lib.hid (fitsE_next hx)
      have CF := Lib.hid (rfits_any ra rl rc r n wr hv (by have : maxLen = 9223372036854775807 := rfl; omega))
      by_cases hf : fitE ⟨r, n⟩ = 0
      · have HG2 : Hid (fitsE es = fitsE (es.drop (k + 1))) := by show _ = _; rw [HG.out, HN.out, if_pos hf]
        rw [hf] at CF
        clear HN HG hf hx hv BAD GOOD SUM
        go_wp2_with (first | (go_at_call 50; refine CF.out.mono ?_; rintro e w1 ⟨rfl, hb⟩))
        go_roundw
        case rel => exact ⟨k + 1, by omega, by go_num, HG2, hbel.trans (hb.mono hsz)⟩
        case measure => simp [intOf]; omega
      · obtain rfl := BAD.out _ (by rw [HG.out, HN.out, if_neg hf]) hf
        clear HN HG hx hv BAD GOOD SUM
        generalize fitE ⟨r, n⟩ = z at *
        have hz0 : (z == 0) = false := by simpa using hf
        go_wp2_with (first | (go_at_call 50; refine CF.out.mono ?_; rintro e w1 ⟨rfl, hb⟩))
        go_ret2
        exact ⟨_, rfl, OwnEnts.nil _ _, hbel.trans (hb.mono hsz)⟩
    · obtain rfl : k = len := by omega
      have h0 : fitsE es = 0 := by rw [HG.out, List.drop_eq_nil_of_le (by omega)]; rfl
      obtain rfl := GOOD.out h0
      have C2 := Lib.hid (SUM.out h0)
      clear GOOD SUM BAD HG h0
      go_wp2_with fail
      refine (C2.out _ hbel).mono ?_
      rintro e w2 ⟨v2, rfl, ho2, hb2⟩
      go_wp2_with fail
      go_ret2
      exact ⟨_, rfl, ho2.mono hsz, hbel.trans (hb2.mono hsz)⟩

theorem rdistinct_any (a : Option Addr) (len cap : Nat) (es : List En) (w : World) (hs : IsEnts w a len es) (hl : len ≤ 9223372036854775807) :
    Calls Try.prog 38 #[.slice a len cap] w (EntsErr w (disOut es)) := by
  have hln := hs.1
  have c1 := rvalidate_any6 a len cap es w hs hl
  unfold disOut
  by_cases hz : bagE es = 0
  · have ok := bagE_zero.1 hz
    rw [if_pos hz]
    rw [hz] at c1
    have hl5 : len ≤ 4096 := by have := ok.len; omega
    have RB := Lib.hid ok.rows
    have C1 := Lib.hid c1
    have HS := Lib.hid hs
    obtain ⟨i0, hi, hz0, hz1, hz2⟩ := info_parts info_ent
    clear c1 hs ok hz
    go_enter Try.func38, Try.ntmps38
    go_wp2_with fail
    refine C1.out.mono ?_
    rintro e w1 ⟨rfl, hb1⟩
    clear C1
    go_wp2_with fail
    go_loopw [5, 6] (fun ov iv wr => ∃ k : Nat, k ≤ len ∧ iv = .int .i64 k ∧ OwnEnts wr w.heap.size ov (onceL (es.take k)) ∧ Below w.heap.size w wr) (fun _ i _ => len - (intOf i).toNat)
    case atStart => exact ⟨0, Nat.zero_le _, rfl, OwnEnts.nil _ _, hb1⟩
    case round =>
      obtain ⟨k, hk, rfl, hO, hbel⟩ := hrel
      have HO := Lib.hid hO
      clear hO
      have hs9 := hbel.size
      by_cases hlt : k < len
      · obtain ⟨r, n, ra, rl, rc, b, off, hx, rfl, hbl, c0, c1, hv, g1, g2, g3⟩ := HS.out.at hlt
        have hrow : IsRow w (.slice ra rl rc) r := ⟨ra, rl, rc, rfl, hv, g1, g2, g3⟩
        have e := fun o => hbel.cell (p := ⟨b, o, none⟩) hbl
        rw [← e] at c0 c1
        by_cases hn : 0 < n
        · have hN := onceL_yes hx hn
          have hl9 := onceL_length (es.take k)
          rw [List.length_take] at hl9
          obtain ⟨l9, ho9, PUSH⟩ := pushed 1 HO.out hrow hbel
          have hl9' : (onceL (es.take k)).length ≤ 4096 := by omega
          rw [← hN] at PUSH
          have HP := Lib.hid PUSH
          generalize onceL (es.take k) = acc at *
          clear e PUSH hx hv hN hl9 hrow HS hln
          go_wp2_with (at_builtin; refine wpList_append_lies _ rfl _ _ 22 rfl w.heap.size 30 i0 _ 2 32 Try.underlying22 hi hz0 hz1 hz2 rfl (by decide) _ _ _ rfl (ho9.alloc _) ⟨wr.heap.size, 0, none⟩ 1 1 [.slice ra rl rc, .int .i64 1] rfl rfl (World.news_of_block (cs := #[.slice ra rl rc, .int .i64 1]) (t := 30) (fr := (0, 0)) (heap_alloc_new wr _)) (by simp [Value.oneCell']) (by omega) (by unfold maxLen; omega) (by omega) (by simp; omega) (wr.heap.size + 1) (by simp) ?_)
          intro gg cc w9 hown9 hgrow9 hat9 hlt9
          obtain ⟨hO3, hB3⟩ := HP.out _ gg cc w9 ((Below.refl _ _).alloc (Nat.le_refl _) _) hown9 hgrow9 (hat9.imp id fun h => by rw [h]; simp)
          clear HP hown9 hgrow9 hat9 hlt9 ho9
          go_wp2_with fail
          go_roundw
          case rel => exact ⟨k + 1, by omega, by go_num, hO3, hB3⟩
          case measure => simp [intOf]; omega
        · have hN := onceL_no hx hn
          have HN := Lib.hid hN
          clear e hx hv hN hrow
          go_wp2_with fail
          go_roundw
          case rel => exact ⟨k + 1, by omega, by go_num, by rw [HN.out]; exact HO.out, hbel⟩
          case measure => simp [intOf]; omega
      · obtain rfl : k = len := by omega
        have hE : es.take k = es := List.take_of_length_le (by omega)
        rw [hE] at HO
        have hl1 : (onceL es).length ≤ 1000000 := by have := onceL_length es; omega
        have R1 := Lib.hid RB.out.once
        obtain ⟨a5, k5, rfl, hi1, i1, i2, i3, _⟩ := own_ents HO.out
        generalize onceL es = e1 at *
        clear hE
        go_wp2_with fail
        refine (rresult_any a5 e1.length k5 e1 wr hi1 hl1 R1.out).mono ?_
        rintro e w3 ⟨v3, rfl, ho3, hb3⟩
        go_wp2_with fail
        go_ret2
        exact ⟨_, rfl, ho3.mono hs9, hbel.trans (hb3.mono hs9)⟩
  · rw [if_neg hz]
    generalize bagE es = z at *
    have hz0 : (z == 0) = false := by simpa using hz
    have C1 := Lib.hid c1
    clear c1 hs hz
    go_enter Try.func38, Try.ntmps38
    go_wp2_with fail
    refine C1.out.mono ?_
    rintro e w1 ⟨rfl, hb1⟩
    go_wp2_with fail
    go_ret2
    exact ⟨_, rfl, OwnEnts.nil _ _, hb1⟩

end Go.Proofs.Ytdhhhmehkldliaa
