/-
  Join, of package token, for tokens whose texts are given.
-/
import Derived.Test.YtloccocengegnaaDoorTPTok
import Derived.Test.YtloccocengegnaaDoorTQV
import Derived.Test.YtloccocengegnaaDoorTJn
import Derived.Test.YtloccocengegnaaDoorCRFormat
set_option linter.unusedVariables false
set_option maxRecDepth 100000
namespace Go.Proofs.YtloccocengegnaaDoor
open Go.RowKit Wh

/-- The program writes the token so. -/
def PWr (t : Tk) (l : List UInt8) : Prop := ∀ (a : Int) (W : World), Glo W → Calls Tryd.prog 19 #[tokV (t, a)] W (IsStr l W)

abbrev strC (ls : List (List UInt8)) : List Value := ls.map fun l => .string ⟨l.toArray⟩
theorem own_strs {w : World} {base n : Nat} {v : Value} {ls : List (List UInt8)} (h : w.ownsRow base 9 1 v n (strC ls)) (hn : ls.length = n) :
    ∃ (a : Option Addr) (cap : Nat), v = .slice a n cap ∧ IsStrs w a n (ls.map fun l => ⟨l.toArray⟩) ∧ n ≤ cap := by
  rcases h.2 with ⟨rfl, rfl⟩ | ⟨g, cap, cur, rfl, hg, hh, hnc, hmc, _, ht⟩
  · exact ⟨none, 0, rfl, ⟨by rw [List.length_map]; exact hn, .inl (by rw [List.eq_nil_of_length_eq_zero hn]; rfl)⟩, Nat.le_refl _⟩
  · have hlt : g < w.heap.size := (Array.getElem?_eq_some_iff.1 hh).1
    refine ⟨_, cap, rfl, ⟨by rw [List.length_map]; exact hn, .inr ⟨g, 0, rfl, hlt, fun i s hi => ?_⟩⟩, hnc⟩
    have hk := (List.getElem?_eq_some_iff.1 hi).1
    rw [List.length_map] at hk
    have := h.cellAt i (by omega)
    rw [Nat.zero_add, this, List.getElem?_map]
    rw [List.getElem?_map] at hi
    cases hl : ls[i]? with
    | none => rw [hl] at hi; cases hi
    | some l => rw [hl] at hi; cases hi; rfl

set_option maxHeartbeats 1000000 in
theorem pjoin_bad (a : Option Addr) (len cap : Nat) (ts : List TA) (w : World) (hs : IsToks w a len ts) (hl : len ≤ 1000000000000) (hz : ∀ t ∈ ts, t.1.tx.size ≤ 9223372036854775800) (hE : valE ts = 8) :
    Calls Tryd.prog 12 #[.slice a len cap] w (IsTxt [] 8 w) := by
  have C := Lib.hid (fun W hW => validate_any7 a len cap ts W hW hl hz)
  rw [hE] at C
  have HS := Lib.hid hs
  clear hs hz hE
  go_enter Tryd.func12, Tryd.ntmps12
  go_wp2_with fail
  refine (C.out _ HS.out).mono ?_
  rintro e w1 ⟨rfl, hb⟩
  go_wp2_with fail
  go_ret2
  exact ⟨rfl, hb⟩

set_option maxHeartbeats 4000000 in
theorem pjoin_ok (a : Option Addr) (len cap : Nat) (ts : List TA) (ls : List (List UInt8)) (w : World) (hs : IsToks w a len ts) (hl : len ≤ 1000000) (hc : len ≤ cap) (hm : cap ≤ maxLen) (hn : a = none → cap = 0) (hz : ∀ t ∈ ts, t.1.tx.size ≤ 9223372036854775800) (hE : valE ts = 0)
    (hll : ls.length + 1 = len) (hW : ∀ (i : Nat) (t : TA) (l : List UInt8), ts[i]? = some t → ls[i]? = some l → PWr t.1 l) (hlen : ∀ l ∈ ls, l.length ≤ 1000000) (hg : Glo w) :
    Calls Tryd.prog 12 #[.slice a len cap] w (IsTxt (jnO ls).1 (jnO ls).2 w) := by
  have C := Lib.hid (fun W hW => validate_any7 a len cap ts W hW (by omega) hz)
  rw [hE] at C
  have HS := Lib.hid hs
  have HW := Lib.hid hW
  have HL := Lib.hid hlen
  have HG := Lib.hid hg
  have HLL := Lib.hid hll
  have hsp : ∀ x, a = some x → x.spot = none := fun x hx => by
    rcases hs.2 with h | ⟨b, off, ha, _⟩
    · have := hs.1; rw [h] at this; simp at this; omega
    · rw [ha] at hx; cases hx; rfl
  have sl : ∀ W, (Instr.slice 26 (.slice a len cap) none (some (.int .i64 ((len : Int) - 1))) none).run Tryd.prog W = .ok (.slice a ls.length cap) W := fun W => by
    have := slice_to_toks a len cap ls.length (by omega) hm hn hsp W
    rw [show ((ls.length : Nat) : Int) = (len : Int) - 1 by omega] at this
    exact this
  have hll2 : ls.length ≤ 1000000 := by omega
  obtain ⟨i0, hi, hz0, hz1, hz2⟩ := info_parts info_str
  have GREAT := Lib.hid (fun (k : Nat) h => jnO_great (ls := ls) (k := k) h)
  have FIN : Hid (¬ 65536 < (jn ls).length → jnO ls = (jn ls, 0)) := fun h => by unfold jnO; rw [if_neg h]
  obtain ⟨O, hO⟩ : ∃ O, jnO ls = O := ⟨_, rfl⟩
  rw [hO] at GREAT FIN ⊢
  clear hs hz hE hW hlen hg hsp hll hO hn
  go_enter Tryd.func12, Tryd.ntmps12
  go_wp2_with fail
  refine (C.out _ HS.out).mono ?_
  rintro e w1 ⟨rfl, hb1⟩
  have hs1 := hb1.size
  go_wp2_with fail
  clear sl
  go_loopw [5, 6, 21] (fun tv sv iv wr => ∃ k : Nat, k ≤ ls.length ∧ iv = .int .i64 k ∧ wr.ownsRow w.heap.size 9 1 tv k (strC (ls.take k)) ∧ sv = .int .i64 ((jn (ls.take k)).length : Nat) ∧ (jn (ls.take k)).length ≤ 65536 ∧ Below w.heap.size w wr) (fun _ _ iv _ => ls.length - (intOf iv).toNat)
  case atStart => exact ⟨0, Nat.zero_le _, rfl, World.ownsRow_nil _ _ _ _, rfl, Nat.zero_le _, hb1⟩
  case round =>
    obtain ⟨k, hk, rfl, hown, rfl, hj, hbel⟩ := hrel
    have hs9 := hbel.size
    by_cases hlt : k < ls.length
    · obtain ⟨kd, tx, nm, p, b, off, hx, rfl, hblt, c0, c1, c2, c3⟩ := (HS.out.below hbel (Nat.le_refl _)).at (k := k) (by have := HLL.out; omega)
      obtain ⟨l, hl9⟩ : ∃ l, ls[k]? = some l := ⟨_, List.getElem?_eq_getElem hlt⟩
      have hl6 := HL.out l (List.mem_of_getElem? hl9)
      have PW := Lib.hid (fun W (hW : Below wr.heap.size wr W) => HW.out k _ l hx hl9 p W (HG.out.next (hbel.trans (hW.mono hs9))))
      have HJ := Lib.hid (jn_take hl9)
      have G2 := Lib.hid (GREAT.out (k + 1))
      have hcells : Hid (strC (ls.take k) ++ [.string ⟨l.toArray⟩] = strC (ls.take (k + 1))) := by
        show _ = _
        rw [List.take_add_one, hl9]
        simp [strC]
      simp only [tokV] at PW
      have hts : Hid ((⟨l.toArray⟩ : ByteArray).size = l.length) := by show l.toArray.size = l.length; simp
      have PW2 : Hid (∀ W, Below wr.heap.size wr W → Calls Tryd.prog 19 #[.agg #[.int .i64 kd, .string tx, .int .i64 nm, .int .i64 p]] W fun e w' => e = .returned (.string ⟨l.toArray⟩) ∧ Below W.heap.size W w') := PW.out
      clear PW hx hl9 GREAT FIN
      generalize (⟨l.toArray⟩ : ByteArray) = txt at *
      have hjl : Hid ((jn (ls.take (k + 1))).length = (jn (ls.take k)).length + (if k = 0 then 0 else 1) + txt.size) := by
        show _ = _
        rw [HJ.out, hts.out]
        by_cases h0 : k = 0
        · subst h0; rw [if_pos rfl, if_pos rfl]; simp [jn_nil]
        · rw [if_neg h0, if_neg h0]; simp; omega
      have htx : txt.size ≤ 1000000 := by rw [hts.out]; exact hl6
      clear HJ hts hl6
      generalize hj0 : (jn (ls.take k)).length = j0 at *
      generalize hj1 : (jn (ls.take (k + 1))).length = j1 at *
      have HJ1 := Lib.hid hj1
      clear hj0 hj1
      generalize strC (ls.take k) = cells at *
      by_cases hk0 : k = 0
      · have hjj : Hid (j1 = j0 + txt.size) := by show _ = _; rw [hjl.out, if_pos hk0]; omega
        have hk0i : ¬ (0 : Int) < (k : Int) := by omega
        have HK := Lib.hid hk0
        clear hjl hk0
        by_cases hgr : 65536 < j0 + txt.size
        · have hO := G2.out (by rw [hjj.out]; exact hgr)
          subst hO
          have hgri : (65536 : Int) < (j0 : Int) + (txt.size : Int) := by omega
          clear G2 HJ1 hjj
          go_wp2_with (first | (go_at_call 19; refine (PW2.out _ ((Below.refl _ _).alloc (Nat.le_refl _) _)).mono ?_; rintro e w2 ⟨rfl, hb2⟩))
          go_ret2
          exact ⟨rfl, (hbel.alloc (by omega) _).trans (hb2.mono (by simp; omega))⟩
        · have hj1 : j1 ≤ 65536 := by rw [hjj.out]; omega
          have hgri : ¬ (65536 : Int) < (j0 : Int) + (txt.size : Int) := by omega
          clear G2
          go_wp2_with (first | (go_at_call 19; refine (PW2.out _ ((Below.refl _ _).alloc (Nat.le_refl _) _)).mono ?_; rintro e w2 ⟨rfl, hb2⟩; have hB2 := (hbel.alloc (by omega) _).trans (hb2.mono (by simp; omega)); have hown2 := own_below (hown.alloc _) hb2; have hs2 := hB2.size; clear hb2) | (at_builtin; refine wpList_append_lies _ rfl _ _ 22 rfl w.heap.size 9 i0 _ 1 16 Tryd.underlying22 hi hz0 hz1 hz2 rfl (by decide) _ _ _ rfl (hown2.alloc _) ⟨w2.heap.size, 0, none⟩ 1 1 [.string txt] rfl rfl (by have h := heap_alloc_new w2 (.cells #[.string txt] 9); exact World.news_of_block (cs := #[.string txt]) (t := 9) (fr := (0, 0)) h) (by simp [Value.oneCell']) (by omega) (by unfold maxLen; omega) (by omega) (by simp; omega) (w2.heap.size + 1) (by simp) ?_))
          intro gg cc w9 hown9 hgrow9 hat9 hlt9
          have hB9 := (hB2.alloc (by omega) _).grown hgrow9 (by simp; omega) (fun j hj => (hown2.lt j hj).1)
          rw [hcells.out] at hown9
          clear hgrow9 hat9 hlt9 hown hown2 hB2
          go_wp2_with fail
          go_roundw
          case rel => exact ⟨k + 1, by omega, by go_num, hown9, by rw [HJ1.out, hjj.out]; go_num, by rw [HJ1.out]; exact hj1, hB9⟩
          case measure => simp [intOf]; omega
      · have hjj : Hid (j1 = j0 + 1 + txt.size) := by show _ = _; rw [hjl.out, if_neg hk0]
        have hk0i : (0 : Int) < (k : Int) := by omega
        have HK := Lib.hid hk0
        clear hjl hk0
        by_cases hgr : 65536 < j0 + 1 + txt.size
        · have hO := G2.out (by rw [hjj.out]; exact hgr)
          subst hO
          have hgri : (65536 : Int) < (j0 : Int) + 1 + (txt.size : Int) := by omega
          clear G2 HJ1 hjj
          go_wp2_with (first | (go_at_call 19; refine (PW2.out _ ((Below.refl _ _).alloc (Nat.le_refl _) _)).mono ?_; rintro e w2 ⟨rfl, hb2⟩))
          go_ret2
          exact ⟨rfl, (hbel.alloc (by omega) _).trans (hb2.mono (by simp; omega))⟩
        · have hj1 : j1 ≤ 65536 := by rw [hjj.out]; omega
          have hgri : ¬ (65536 : Int) < (j0 : Int) + 1 + (txt.size : Int) := by omega
          clear G2
          go_wp2_with (first | (go_at_call 19; refine (PW2.out _ ((Below.refl _ _).alloc (Nat.le_refl _) _)).mono ?_; rintro e w2 ⟨rfl, hb2⟩; have hB2 := (hbel.alloc (by omega) _).trans (hb2.mono (by simp; omega)); have hown2 := own_below (hown.alloc _) hb2; have hs2 := hB2.size; clear hb2) | (at_builtin; refine wpList_append_lies _ rfl _ _ 22 rfl w.heap.size 9 i0 _ 1 16 Tryd.underlying22 hi hz0 hz1 hz2 rfl (by decide) _ _ _ rfl (hown2.alloc _) ⟨w2.heap.size, 0, none⟩ 1 1 [.string txt] rfl rfl (by have h := heap_alloc_new w2 (.cells #[.string txt] 9); exact World.news_of_block (cs := #[.string txt]) (t := 9) (fr := (0, 0)) h) (by simp [Value.oneCell']) (by omega) (by unfold maxLen; omega) (by omega) (by simp; omega) (w2.heap.size + 1) (by simp) ?_))
          intro gg cc w9 hown9 hgrow9 hat9 hlt9
          have hB9 := (hB2.alloc (by omega) _).grown hgrow9 (by simp; omega) (fun j hj => (hown2.lt j hj).1)
          rw [hcells.out] at hown9
          clear hgrow9 hat9 hlt9 hown hown2 hB2
          go_wp2_with fail
          go_roundw
          case rel => exact ⟨k + 1, by omega, by go_num, hown9, by rw [HJ1.out, hjj.out]; go_num, by rw [HJ1.out]; exact hj1, hB9⟩
          case measure => simp [intOf]; omega
    · obtain rfl : k = ls.length := by omega
      have hE : ls.take ls.length = ls := List.take_of_length_le (Nat.le_refl _)
      rw [hE] at hown hj
      obtain ⟨a9, cap9, rfl, hstr, hcap⟩ := own_strs hown rfl
      have hmap : (ls.map fun l => (⟨l.toArray⟩ : ByteArray)).map bts = ls := by
        rw [List.map_map]
        have : bts ∘ (fun l : List UInt8 => (⟨l.toArray⟩ : ByteArray)) = id := by
          funext l
          exact bts_mk l
        rw [this, List.map_id]
      have JO := Lib.hid (join_any a9 ls.length cap9 (ls.map fun l => ⟨l.toArray⟩) wr hstr (by omega) hcap (by rw [hmap]; show (jn ls).length ≤ _; omega))
      rw [hmap] at JO
      have hO := FIN.out (by omega)
      subst hO
      clear FIN GREAT hE hmap hstr hown
      go_wp2_with fail
      refine JO.out.mono ?_
      rintro e w2 ⟨rfl, hb2⟩
      go_wp2_with fail
      go_ret2
      exact ⟨rfl, hbel.trans (hb2.mono hs9)⟩

end Go.Proofs.YtloccocengegnaaDoor

