/-
  Normalize, Add, Subtract, Negate, Except, of the program.
-/
import Derived.Test.YtdhhhmehkldliaaBPColl
import Derived.Test.YtdhhhmehkldliaaBPMerge
import Derived.Test.YtdhhhmehkldliaaBPRes
import Derived.Test.YtdhhhmehkldliaaBNorm
set_option linter.unusedVariables false
set_option maxRecDepth 100000
namespace Wh

theorem RowsB.nz {l : List En} (h : RowsB l) : RowsB (nzL l) := fun e he => h e (nzL_mem he).1
theorem RowsB.bag {l : List En} (h : RowsB l) : RowsB (bagL l) := h.sort.nz
theorem RowsB.drop {l : List En} (h : RowsB l) (p : Int → Bool) : RowsB (dropL p l) := fun e he => h e (List.mem_filter.1 he).1
theorem bagL_length (l : List En) : (bagL l).length ≤ l.length := by
  have h1 := (sortL_facts _ l (Nat.le_refl _)).2.2
  have h2 : (bagL l).length ≤ (sortL l).length := List.length_filter_le _ _
  omega
theorem nzL_length (l : List En) : (nzL l).length ≤ l.length := List.length_filter_le _ _
theorem dropL_length (p : Int → Bool) (l : List En) : (dropL p l).length ≤ l.length := List.length_filter_le _ _
theorem fits_abs {es : List En} (h : fitsE es = 0) : absS es ≤ 65536 * (es.length : Int) := absS_bd (es := es) fun e he => by
  have := fitE_zero (fitsE_zero h e he)
  exact ⟨this.2.1, this.2.2.1⟩
theorem fits_rows {es : List En} (h : fitsE es = 0) : RowsB es := fun e he => by have := (fitE_zero (fitsE_zero h e he)).1; omega
theorem subOut_nil (b : List En) : subOut [] b = negOut b := by
  have h0 : bagE [] = 0 := rfl
  unfold subOut negOut twoE
  rw [if_pos h0, mergeL_nil]

end Wh
namespace Go.Proofs.Ytdhhhmehkldliaa
open Go.RowKit Wh

set_option maxHeartbeats 2000000

theorem normalize_any (a : Option Addr) (len cap : Nat) (es : List En) (w : World) (hs : IsEnts w a len es) (p1 : len ≤ cap) (p2 : cap ≤ maxLen) (p3 : a = none → cap = 0) (hl : len ≤ 1000000) :
    Calls Try.prog 23 #[.slice a len cap] w (EntsErr w (normOut es)) := by
  have hln := hs.1
  have HS := Lib.hid hs
  have BAD := Lib.hid (fun (z : Int) (h : fitsE es = z) (h0 : ¬ z = 0) => show normOut es = ([], z) by unfold normOut; rw [h, if_neg h0])
  have GOOD := Lib.hid (fun (h : fitsE es = 0) => show normOut es = resP (bagL es) by unfold normOut; rw [if_pos h, sumOut_eq])
  generalize normOut es = E at *
  clear hs
  go_enter Try.func23, Try.ntmps23
  go_wp2_with fail
  go_loopw [9] (fun iv wr => ∃ k : Nat, k ≤ len ∧ iv = .int .i64 k ∧ Hid (fitsE es = fitsE (es.drop k)) ∧ Below w.heap.size w wr) (fun i _ => len - (intOf i).toNat)
  case atStart => exact ⟨0, Nat.zero_le _, rfl, rfl, Below.refl _ _⟩
  case round =>
    obtain ⟨k, hk, rfl, HG, hbel⟩ := hrel
    have hsz := hbel.size
    by_cases hlt : k < len
    · obtain ⟨r, n, ra, rl, rc, b, off, hx, rfl, hbl, c0, c1, hv, g1, g2, g3⟩ := (HS.out.below hbel (Nat.le_refl _)).at hlt
      have HN := Lib.hid (fitsE_next hx)
      have hW1 : Below wr.heap.size wr (wr.alloc (.cells #[.slice ra rl rc, .int .i64 n] 30)) := (Below.refl _ _).alloc (Nat.le_refl _) _
      have hW1s : (wr.alloc (.cells #[.slice ra rl rc, .int .i64 n] 30)).heap.size = wr.heap.size + 1 := by simp
      have CF := Lib.hid (check_any ra rl rc r n _ (hv.below hW1 (Nat.le_refl _)) (by have : maxLen = 9223372036854775807 := rfl; omega))
      by_cases hf : fitE ⟨r, n⟩ = 0
      · have HG2 : Hid (fitsE es = fitsE (es.drop (k + 1))) := by show _ = _; rw [HG.out, HN.out, if_pos hf]
        rw [hf] at CF
        clear HN HG hf hx hv BAD GOOD
        go_wp2_with (first | (go_at_call 48; refine CF.out.mono ?_; rintro e w1 ⟨rfl, hb⟩))
        go_roundw
        case rel => exact ⟨k + 1, by omega, by go_num, HG2, hbel.trans ((hW1.trans (hb.mono (by omega))).mono hsz)⟩
        case measure => simp [intOf]; omega
      · obtain rfl := BAD.out _ (by rw [HG.out, HN.out, if_neg hf]) hf
        clear HN HG hx hv BAD GOOD
        generalize fitE ⟨r, n⟩ = z at *
        have hz0 : (z == 0) = false := by simpa using hf
        go_wp2_with (first | (go_at_call 48; refine CF.out.mono ?_; rintro e w1 ⟨rfl, hb⟩))
        go_ret2
        exact ⟨_, rfl, OwnEnts.nil _ _, hbel.trans ((hW1.trans (hb.mono (by omega))).mono hsz)⟩
    · obtain rfl : k = len := by omega
      have h0 : fitsE es = 0 := by rw [HG.out, List.drop_eq_nil_of_le (by omega)]; rfl
      obtain rfl := GOOD.out h0
      have CC := Lib.hid (clonee_any a k cap es wr (HS.out.below hbel (Nat.le_refl _)) p3 p1 hl)
      have HAB := Lib.hid (show absS es ≤ 1000000000000 by have := fits_abs h0; omega)
      have RB := Lib.hid (fits_rows h0).bag
      have hbl := bagL_length es
      have CO := Lib.hid (fun (W : World) (v : Value) (B : Nat) (h : OwnEnts W B v es) (hb : B ≤ W.heap.size) => collect_any h hb (by omega) HAB.out)
      have CR := Lib.hid (fun (W : World) (a5 : Option Addr) (k5 : Nat) (h : IsEnts W a5 (bagL es).length (bagL es)) => result_any a5 (bagL es).length k5 (bagL es) W h (by omega) RB.out)
      generalize bagL es = bs at *
      clear GOOD BAD HG h0
      go_wp2_with fail
      refine CC.out.mono ?_
      rintro e w2 ⟨v2, rfl, ho2, hb2⟩
      go_wp2_with fail
      refine (CO.out _ _ _ ho2 hb2.size).mono ?_
      rintro e w3 ⟨v3, rfl, ho3, hb3⟩
      obtain ⟨a5, k5, rfl, hi5, i1, i2, i3, _⟩ := own_ents ho3
      have hB3 := hb2.trans hb3
      go_wp2_with fail
      refine (CR.out _ a5 k5 hi5).mono ?_
      rintro e w4 ⟨v4, rfl, ho4, hb4⟩
      go_wp2_with fail
      go_ret2
      exact ⟨_, rfl, ho4.mono (Nat.le_trans hsz hB3.size), hbel.trans ((hB3.trans (hb4.mono hB3.size)).mono hsz)⟩

theorem add_any6 (a : Option Addr) (len cap : Nat) (es : List En) (a2 : Option Addr) (len2 cap2 : Nat) (fs : List En) (w : World) (hs : IsEnts w a len es) (hl : len ≤ 9223372036854775807) (hs2 : IsEnts w a2 len2 fs) (hl2 : len2 ≤ 9223372036854775807)
    (p1 : len ≤ cap) (p2 : cap ≤ maxLen) (p3 : a = none → cap = 0) (p4 : len2 ≤ cap2) (p5 : cap2 ≤ maxLen) (p6 : a2 = none → cap2 = 0) :
    Calls Try.prog 28 #[.slice a len cap, .slice a2 len2 cap2] w (EntsErr w (addOut es fs)) := by
  have hln := hs.1
  have hln2 := hs2.1
  have c1 := both_any a len cap es a2 len2 cap2 fs w hs hl hs2 hl2
  unfold addOut
  by_cases hz : twoE es fs = 0
  · obtain ⟨z1, z2⟩ := twoE_zero.1 hz
    have ok1 := bagE_zero.1 z1
    have ok2 := bagE_zero.1 z2
    rw [if_pos hz, resOut_eq]
    rw [hz] at c1
    have hsm : len + len2 ≤ 1000000 := by have := ok1.len; have := ok2.len; omega
    have hab : absS es + absS fs ≤ 1000000000000 := by have := ok1.abs; have := ok2.abs; omega
    have C2 := Lib.hid (fun W (h : Below w.heap.size w W) => merge_any a len cap es a2 len2 cap2 fs 1 (.inl rfl) W (hs.below h (Nat.le_refl _)) (hs2.below h (Nat.le_refl _)) p1 p2 p3 p4 p5 p6 hsm hab)
    rw [sgnL_one] at C2
    have R1 := Lib.hid (ok1.rows.merge ok2.rows).nz
    have hl1 : (nzL (mergeL es fs)).length ≤ 1000000 := by have := mergeL_length _ es fs (Nat.le_refl _); have := nzL_length (mergeL es fs); omega
    generalize nzL (mergeL es fs) = e1 at *
    have C1 := Lib.hid c1
    clear c1 hs hs2 ok1 ok2 z1 z2 hz hab
    go_enter Try.func28, Try.ntmps28
    go_wp2_with fail
    refine C1.out.mono ?_
    rintro e w1 ⟨rfl, hb1⟩
    go_wp2_with fail
    refine (C2.out _ hb1).mono ?_
    rintro e w2 ⟨v2, rfl, ho2, hb2⟩
    obtain ⟨a5, k5, rfl, hi1, i1, i2, i3, _⟩ := own_ents ho2
    have hB2 := hb1.trans (hb2.mono hb1.size)
    go_wp2_with fail
    refine (result_any a5 e1.length k5 e1 w2 hi1 hl1 R1.out).mono ?_
    rintro e w3 ⟨v3, rfl, ho3, hb3⟩
    go_wp2_with fail
    go_ret2
    exact ⟨_, rfl, ho3.mono hB2.size, hB2.trans (hb3.mono hB2.size)⟩
  · rw [if_neg hz]
    generalize twoE es fs = z at *
    have hz0 : (z == 0) = false := by simpa using hz
    have C1 := Lib.hid c1
    clear c1 hs hs2 hz
    go_enter Try.func28, Try.ntmps28
    go_wp2_with fail
    refine C1.out.mono ?_
    rintro e w1 ⟨rfl, hb1⟩
    go_wp2_with fail
    go_ret2
    exact ⟨_, rfl, OwnEnts.nil _ _, hb1⟩

theorem subtract_any6 (a : Option Addr) (len cap : Nat) (es : List En) (a2 : Option Addr) (len2 cap2 : Nat) (fs : List En) (w : World) (hs : IsEnts w a len es) (hl : len ≤ 9223372036854775807) (hs2 : IsEnts w a2 len2 fs) (hl2 : len2 ≤ 9223372036854775807)
    (p1 : len ≤ cap) (p2 : cap ≤ maxLen) (p3 : a = none → cap = 0) (p4 : len2 ≤ cap2) (p5 : cap2 ≤ maxLen) (p6 : a2 = none → cap2 = 0) :
    Calls Try.prog 30 #[.slice a len cap, .slice a2 len2 cap2] w (EntsErr w (subOut es fs)) := by
  have hln := hs.1
  have hln2 := hs2.1
  have c1 := both_any a len cap es a2 len2 cap2 fs w hs hl hs2 hl2
  unfold subOut
  by_cases hz : twoE es fs = 0
  · obtain ⟨z1, z2⟩ := twoE_zero.1 hz
    have ok1 := bagE_zero.1 z1
    have ok2 := bagE_zero.1 z2
    rw [if_pos hz, resOut_eq]
    rw [hz] at c1
    have hsm : len + len2 ≤ 1000000 := by have := ok1.len; have := ok2.len; omega
    have hab : absS es + absS fs ≤ 1000000000000 := by have := ok1.abs; have := ok2.abs; omega
    have C2 := Lib.hid (fun W (h : Below w.heap.size w W) => merge_any a len cap es a2 len2 cap2 fs (-1) (.inr rfl) W (hs.below h (Nat.le_refl _)) (hs2.below h (Nat.le_refl _)) p1 p2 p3 p4 p5 p6 hsm hab)
    rw [sgnL_neg] at C2
    have R1 := Lib.hid (ok1.rows.merge ok2.rows.neg).nz
    have hnl := negL_length fs
    have hl1 : (nzL (mergeL es (negL fs))).length ≤ 1000000 := by have := mergeL_length _ es (negL fs) (Nat.le_refl _); have := nzL_length (mergeL es (negL fs)); omega
    generalize nzL (mergeL es (negL fs)) = e1 at *
    have C1 := Lib.hid c1
    clear c1 hs hs2 ok1 ok2 z1 z2 hz hab hnl
    go_enter Try.func30, Try.ntmps30
    go_wp2_with fail
    refine C1.out.mono ?_
    rintro e w1 ⟨rfl, hb1⟩
    go_wp2_with fail
    refine (C2.out _ hb1).mono ?_
    rintro e w2 ⟨v2, rfl, ho2, hb2⟩
    obtain ⟨a5, k5, rfl, hi1, i1, i2, i3, _⟩ := own_ents ho2
    have hB2 := hb1.trans (hb2.mono hb1.size)
    go_wp2_with fail
    refine (result_any a5 e1.length k5 e1 w2 hi1 hl1 R1.out).mono ?_
    rintro e w3 ⟨v3, rfl, ho3, hb3⟩
    go_wp2_with fail
    go_ret2
    exact ⟨_, rfl, ho3.mono hB2.size, hB2.trans (hb3.mono hB2.size)⟩
  · rw [if_neg hz]
    generalize twoE es fs = z at *
    have hz0 : (z == 0) = false := by simpa using hz
    have C1 := Lib.hid c1
    clear c1 hs hs2 hz
    go_enter Try.func30, Try.ntmps30
    go_wp2_with fail
    refine C1.out.mono ?_
    rintro e w1 ⟨rfl, hb1⟩
    go_wp2_with fail
    go_ret2
    exact ⟨_, rfl, OwnEnts.nil _ _, hb1⟩

theorem negate_any6 (a : Option Addr) (len cap : Nat) (es : List En) (w : World) (hs : IsEnts w a len es) (hl : len ≤ 9223372036854775807) (p1 : len ≤ cap) (p2 : cap ≤ maxLen) (p3 : a = none → cap = 0) :
    Calls Try.prog 32 #[.slice a len cap] w (EntsErr w (negOut es)) := by
  have c := subtract_any6 none 0 0 [] a len cap es w ⟨rfl, .inl rfl⟩ (by omega) hs hl (Nat.le_refl _) (Nat.zero_le _) (fun _ => rfl) p1 p2 p3
  rw [subOut_nil] at c
  generalize negOut es = E at *
  have C := Lib.hid c
  clear c hs
  go_enter Try.func32, Try.ntmps32
  go_wp2_with fail
  refine C.out.mono ?_
  rintro e w1 ⟨v2, rfl, ho2, hb2⟩
  go_wp2_with fail
  go_ret2
  exact ⟨_, rfl, ho2, hb2⟩

theorem except_any6 (a : Option Addr) (len cap : Nat) (es : List En) (a2 : Option Addr) (len2 cap2 : Nat) (fs : List En) (w : World) (hs : IsEnts w a len es) (hl : len ≤ 9223372036854775807) (hs2 : IsEnts w a2 len2 fs) (hl2 : len2 ≤ 9223372036854775807)
    (p1 : len ≤ cap) (p2 : cap ≤ maxLen) (p3 : a = none → cap = 0) (p4 : len2 ≤ cap2) (p5 : cap2 ≤ maxLen) (p6 : a2 = none → cap2 = 0) :
    Calls Try.prog 34 #[.slice a len cap, .slice a2 len2 cap2] w (EntsErr w (excOut es fs)) := by
  have hln := hs.1
  have hln2 := hs2.1
  have c1 := both_any a len cap es a2 len2 cap2 fs w hs hl hs2 hl2
  unfold excOut
  by_cases hz : twoE es fs = 0
  · obtain ⟨z1, z2⟩ := twoE_zero.1 hz
    have ok1 := bagE_zero.1 z1
    have ok2 := bagE_zero.1 z2
    rw [if_neg (by simpa using hz), posB_any ok1.bag.nz, posB_any ok2.bag.nz]
    rw [hz] at c1
    have P1 := Lib.hid (fun W (h : Below w.heap.size w W) => contains_any6 _ _ _ pred_neg a len cap es W (hs.below h (Nat.le_refl _)) hl)
    have P2 := Lib.hid (fun W (h : Below w.heap.size w W) => contains_any6 _ _ _ pred_neg a2 len2 cap2 fs W (hs2.below h (Nat.le_refl _)) hl2)
    have hsm : len + len2 ≤ 1000000 := by have := ok1.len; have := ok2.len; omega
    have hab : absS es + absS fs ≤ 1000000000000 := by have := ok1.abs; have := ok2.abs; omega
    have C2 := Lib.hid (fun W (h : Below w.heap.size w W) => merge_any a len cap es a2 len2 cap2 fs (-1) (.inr rfl) W (hs.below h (Nat.le_refl _)) (hs2.below h (Nat.le_refl _)) p1 p2 p3 p4 p5 p6 hsm hab)
    rw [sgnL_neg] at C2
    have R1 := Lib.hid ((ok1.rows.merge ok2.rows.neg).nz.drop (fun n => decide (n < 0)))
    have hnl := negL_length fs
    have hl0 : (nzL (mergeL es (negL fs))).length ≤ 1000000 := by have := mergeL_length _ es (negL fs) (Nat.le_refl _); have := nzL_length (mergeL es (negL fs)); omega
    rw [resOut_eq, nz_atLeast0]
    generalize nzL (mergeL es (negL fs)) = e0 at *
    have hl1 : (dropL (fun n => decide (n < 0)) e0).length ≤ 1000000 := by have := dropL_length (fun n => decide (n < 0)) e0; omega
    have C3 := Lib.hid (fun (W : World) (v : Value) (B : Nat) (h : OwnEnts W B v e0) (hb : B ≤ W.heap.size) => delete_any _ _ _ pred_neg h hb hl0)
    generalize dropL (fun n => decide (n < 0)) e0 = e1 at *
    generalize anyP (fun n => decide (n < 0)) es = b1 at *
    generalize anyP (fun n => decide (n < 0)) fs = b2 at *
    have C1 := Lib.hid c1
    clear c1 hs hs2 ok1 ok2 z1 z2 hz hab hnl hln hln2 hl0
    cases b1 with
    | true =>
      rw [if_neg (by simp)]
      go_enter Try.func34, Try.ntmps34
      go_wp2_with fail
      refine C1.out.mono ?_
      rintro e w1 ⟨rfl, hb1⟩
      go_wp2_with fail
      refine (P1.out _ hb1).mono ?_
      rintro e w2 ⟨rfl, hb2⟩
      go_wp2_with fail
      go_ret2
      exact ⟨_, rfl, OwnEnts.nil _ _, hb1.trans (hb2.mono hb1.size)⟩
    | false =>
      cases b2 with
      | true =>
        rw [if_neg (by simp)]
        go_enter Try.func34, Try.ntmps34
        go_wp2_with fail
        refine C1.out.mono ?_
        rintro e w1 ⟨rfl, hb1⟩
        go_wp2_with fail
        refine (P1.out _ hb1).mono ?_
        rintro e w2 ⟨rfl, hb2⟩
        have hB2 := hb1.trans (hb2.mono hb1.size)
        go_wp2_with fail
        refine (P2.out _ hB2).mono ?_
        rintro e w3 ⟨rfl, hb3⟩
        go_wp2_with fail
        go_ret2
        exact ⟨_, rfl, OwnEnts.nil _ _, hB2.trans (hb3.mono hB2.size)⟩
      | false =>
        rw [if_pos (by simp)]
        go_enter Try.func34, Try.ntmps34
        go_wp2_with fail
        refine C1.out.mono ?_
        rintro e w1 ⟨rfl, hb1⟩
        go_wp2_with fail
        refine (P1.out _ hb1).mono ?_
        rintro e w2 ⟨rfl, hb2⟩
        have hB2 := hb1.trans (hb2.mono hb1.size)
        go_wp2_with fail
        refine (P2.out _ hB2).mono ?_
        rintro e w3 ⟨rfl, hb3⟩
        have hB3 := hB2.trans (hb3.mono hB2.size)
        go_wp2_with fail
        refine (C2.out _ hB3).mono ?_
        rintro e w4 ⟨v4, rfl, ho4, hb4⟩
        have hB4 := hB3.trans (hb4.mono hB3.size)
        go_wp2_with fail
        refine (C3.out _ _ _ ho4 hb4.size).mono ?_
        rintro e w5 ⟨v5, rfl, ho5, hb5⟩
        obtain ⟨a5, k5, rfl, hi1, i1, i2, i3, _⟩ := own_ents ho5
        have hB5 := hB4.trans (hb5.mono hB3.size)
        go_wp2_with fail
        refine (result_any a5 e1.length k5 e1 w5 hi1 hl1 R1.out).mono ?_
        rintro e w6 ⟨v6, rfl, ho6, hb6⟩
        go_wp2_with fail
        go_ret2
        exact ⟨_, rfl, ho6.mono hB5.size, hB5.trans (hb6.mono hB5.size)⟩
  · rw [if_pos (by simpa using hz)]
    generalize twoE es fs = z at *
    have hz0 : (z == 0) = false := by simpa using hz
    have C1 := Lib.hid c1
    clear c1 hs hs2 hz
    go_enter Try.func34, Try.ntmps34
    go_wp2_with fail
    refine C1.out.mono ?_
    rintro e w1 ⟨rfl, hb1⟩
    go_wp2_with fail
    go_ret2
    exact ⟨_, rfl, OwnEnts.nil _ _, hb1⟩

end Go.Proofs.Ytdhhhmehkldliaa
