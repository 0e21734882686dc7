/-
  The reference's parser: or.
-/
import Derived.Test.YtmdpjahhhfajaaaGreatDoorJA14
import Derived.LoopTactic
set_option linter.unusedVariables false
set_option linter.unusedSimpArgs false
set_option maxRecDepth 100000
namespace Go.Proofs.YtmdpjahhhfajaaaGreatDoor
open Go.RowKit Wh

/-- What holds in a loop over operands, where R is what is read in the end. -/
def LpRel (w : World) (b : Nat) (sl : Value) (ts : List TA) (rd : Nat → PO) (lvl len i d : Nat) (R : PO) (ev : Value) (wr : World) : Prop :=
  ∃ (l : List Nd) (j dd : Nat) (x : Int), wr.ownsRow w.heap.size 53 6 ev l.length (nodesL l) ∧ (l.length ≤ len - i ∧ j < len ∧ dd ≤ 300) ∧ Pr wr b sl j dd x ∧ w.grownBy wr (some b) ∧
    ((x = 0 ∧ dd = d ∧ i < j ∧ 1 ≤ l.length ∧ l.length ≤ j - i ∧ d ≤ 256 ∧ ∃ g, len ≤ j + g ∧ lpT ts rd lvl g l j = R) ∨ (¬ x = 0 ∧ R = .bad x j ∧ d ≤ dd))

theorem LpRel.start {w : World} {b : Nat} {sl : Value} {ts : List TA} {len i d f lvl : Nat} {a : Option Addr} (hT : TkH ts a len) (hl : lvl ≤ 6) (hi : i < len) (hm : 9 * (len - i) + (8 - (lvl + 1)) < f)
    {e : Ending} {w' : World} (h : RdP w b sl len i d (prT ts f (lvl + 1) i d) e w') :
    ∃ v, e = .returned v ∧ LpRel w b sl ts (fun k => prT ts f (lvl + 1) k d) lvl len i d (seqP (prT ts f (lvl + 1) i d) fun e j => lpT ts (fun k => prT ts f (lvl + 1) k d) lvl ts.length e j) v w' := by
  obtain ⟨v, l, j, dd, x, rfl, hown, hb, hP, hg, hc⟩ := h
  have hG := pr_gd hT.el f (lvl + 1) i d (by omega) (by rw [hT.ln]; exact hi) (by rw [hT.ln]; exact hm) (At8.no (by omega))
  refine ⟨v, rfl, l, j, dd, x, hown, hb, hP, hg, ?_⟩
  rcases hc with ⟨h1, h2, h3⟩ | ⟨h1, h2, h3⟩
  · rw [h2] at hG ⊢
    obtain ⟨g1, g2, g3, g4, g5⟩ := hG
    exact .inl ⟨h1, h3, g1, g3, g4, g5 (by omega), ts.length, by rw [hT.ln]; omega, rfl⟩
  · rw [h2]
    exact .inr ⟨h1, rfl, h3⟩

theorem LpRel.stop {w wr : World} {b : Nat} {sl : Value} {ts : List TA} {rd : Nat → PO} {lvl len i d : Nat} {R : PO} {v : Value} {l : List Nd} {j dd : Nat} {x : Int}
    (h1 : wr.ownsRow w.heap.size 53 6 v l.length (nodesL l)) (h2 : l.length ≤ len - i ∧ j < len ∧ dd ≤ 300) (h3 : Pr wr b sl j dd x) (h4 : w.grownBy wr (some b))
    (h5 : (x = 0 ∧ dd = d ∧ i < j ∧ 1 ≤ l.length ∧ l.length ≤ j - i ∧ d ≤ 256 ∧ ∃ g, len ≤ j + g ∧ lpT ts rd lvl g l j = R) ∨ (¬ x = 0 ∧ R = .bad x j ∧ d ≤ dd)) (hO : x = 0 → binO lvl (tkA ts j) = none)
    {w2 : World} (hb : Below wr.heap.size wr w2) (hbb : b < wr.heap.size) : RdP w b sl len i d R (.returned v) w2 := by
  refine ⟨v, l, j, dd, x, rfl, own_below h1 hb, h2, h3.below hb hbb, h4.trans (grown_below hb _), ?_⟩
  rcases h5 with ⟨hx, hd, _, _, _, _, g, hg, hR⟩ | h5
  · refine .inl ⟨hx, ?_, hd⟩
    obtain ⟨g, rfl⟩ : ∃ k, g = k + 1 := ⟨g - 1, by omega⟩
    unfold lpT at hR
    rw [hO hx] at hR
    exact hR.symm
  · exact .inr h5

/-- .. a round. -/
theorem LpRel.step {w w3 : World} {b : Nat} {sl : Value} {ts : List TA} {lvl len i d f j g : Nat} {op : Int} {R : PO} {l l2 : List Nd} {j2 dd2 : Nat} {x2 : Int} {v3 : Value}  {a : Option Addr} (hT : TkH ts a len)
    (hl : lvl ≤ 6) (hjn : j + 1 < len) (hm : 9 * (len - (j + 1)) + (8 - (lvl + 1)) < f) (hb2 : l2.length ≤ len - (j + 1) ∧ j2 < len ∧ dd2 ≤ 300)
    (hP2 : Pr w3 b sl j2 dd2 x2) (hg : w.grownBy w3 (some b)) (hown : w3.ownsRow w.heap.size 53 6 v3 (l.length + l2.length + 1) (nodesL (l ++ l2 ++ [opN op])))
    (hij : i < j) (hl1 : 1 ≤ l.length) (hlj : l.length ≤ j - i) (hd : d ≤ 256) (hlen : len ≤ j + g) (hR : lpT ts (fun k => prT ts f (lvl + 1) k d) lvl g l j = R) (hO : binO lvl (tkA ts j) = some op)
    (hc : (x2 = 0 ∧ prT ts f (lvl + 1) (j + 1) d = .ok l2 j2 ∧ dd2 = d) ∨ (¬ x2 = 0 ∧ prT ts f (lvl + 1) (j + 1) d = .bad x2 j2 ∧ d ≤ dd2)) :
    LpRel w b sl ts (fun k => prT ts f (lvl + 1) k d) lvl len i d R v3 w3 ∧ (if x2 = 0 then len + 1 - j2 else 0) < len + 1 - j := by
  obtain ⟨g, rfl⟩ : ∃ k, g = k + 1 := ⟨g - 1, by omega⟩
  have hG := pr_gd hT.el f (lvl + 1) (j + 1) d (by omega) (by rw [hT.ln]; exact hjn) (by rw [hT.ln]; exact hm) (At8.no (by omega))
  unfold lpT at hR
  rw [hO] at hR
  simp only at hR
  have e : (l ++ l2 ++ [opN op]).length = l.length + l2.length + 1 := by simp only [List.length_append, List.length_cons, List.length_nil]
  refine ⟨⟨l ++ l2 ++ [opN op], j2, dd2, x2, by rw [e]; exact hown, ⟨by rw [e]; omega, hb2.2⟩, hP2, hg, ?_⟩, ?_⟩
  · rcases hc with ⟨h1, h2, h3⟩ | ⟨h1, h2, h3⟩
    · rw [h2] at hG hR
      obtain ⟨g1, g2, g3, g4, g5⟩ := hG
      exact .inl ⟨h1, h3, by omega, by rw [e]; omega, by rw [e]; omega, hd, g, by omega, hR⟩
    · rw [h2] at hR
      exact .inr ⟨h1, hR.symm, h3⟩
  · rcases hc with ⟨h1, h2, h3⟩ | ⟨h1, h2, h3⟩
    · rw [h2] at hG
      obtain ⟨g1, g2, g3, g4, g5⟩ := hG
      rw [if_pos h1]
      omega
    · rw [if_neg h1]
      omega

set_option maxHeartbeats 4000000 in
theorem por_step {ts : List TA} {a : Option Addr} {len cap f : Nat} (hT : TkH ts a len) (H : Reads8 ts a len cap f 1 57) : Reads8 ts a len cap (f + 1) 0 32 := by
  intro i d b w hP hK hfar hi hm hd h8 h88
  have hR : prT ts (f + 1) 0 i d = (seqP (prT ts f (0 + 1) i d) fun e j => lpT ts (fun k => prT ts f (0 + 1) k d) 0 ts.length e j) := by rw [prT]; rfl
  rw [hR]
  have C := Lib.hid (H i d b w hP hK hfar hi (by omega) hd (At8.no (by omega)) (by omega))
  have ST := Lib.hid (fun e w' h => LpRel.start (w := w) (b := b) (sl := .slice a len cap) (e := e) (w' := w') hT (lvl := 0) (f := f) (d := d) (by omega) hi (by omega) h)
  obtain ⟨R, hRR⟩ : ∃ R, (seqP (prT ts f (0 + 1) i d) fun e j => lpT ts (fun k => prT ts f (0 + 1) k d) 0 ts.length e j) = R := ⟨_, rfl⟩
  rw [hRR] at ST ⊢
  clear hR hRR
  have hbw := hP.lt
  have HK := Lib.hid hK
  have HFAR := Lib.hid hfar
  have HH := Lib.hid H
  clear hP hK hfar h8 h88 H
  go_enter Tryz.func32, Tryz.ntmps32
  go_wp2_with fail
  refine C.out.mono ?_
  rintro e w1 hr
  obtain ⟨v, rfl, hL⟩ := ST.out e w1 hr
  have HL := Lib.hid hL
  clear C ST hr hL
  go_wp2_with fail
  go_loopw [3] (fun ev wr => Hid (LpRel w b (.slice a len cap) ts (fun k => prT ts f (0 + 1) k d) 0 len i d R ev wr)) (fun _ wr => prM b len wr)
  case atStart => exact HL
  case round =>
    obtain ⟨l, j, dd, x, hown, hbd, hPr, hg, hc⟩ := hrel.out
    have hbr := hPr.lt
    have hKr := toks_grown HK.out hg HFAR.out
    have CW := Lib.hid (pword_any b a len cap ts j dd x orS wr hPr hKr hT.one (by have := hT.le; omega) (by have := hT.le; omega) (tkA ts j) (hT.get j))
    by_cases hgo : x = 0 ∧ wrdT (tkA ts j) orS = true
    · obtain ⟨hx, hw⟩ := hgo
      subst hx
      rw [isS_wrd, hw] at CW
      have hO : binO 0 (tkA ts j) = some 15 := by unfold binO; rw [if_pos rfl, if_pos hw]
      have hjn := hT.next hbd.2.1 (binO_k hO)
      rcases hc with ⟨_, hdd, hij, hl1, hlj, hd2, g, hlen, hlp⟩ | ⟨hx, _⟩
      rotate_left
      · exact absurd rfl hx
      subst hdd
      have HF := Lib.hid (And.intro hij (And.intro hl1 (And.intro hlj (And.intro hd2 (And.intro hlen (And.intro hlp (And.intro hO hbd)))))))
      have HOW := Lib.hid hown
      have HPR := Lib.hid hPr
      have HG := Lib.hid hg
      have hpm := prM_eq (len := len) hPr
      rw [if_pos rfl] at hpm
      have HPM := Lib.hid hpm
      have hjb : j < 100000 := by have := hT.le; omega
      clear hrel hown hbd hPr hg hij hl1 hlj hlen hlp hw hO hKr hpm
      go_wp2_with fail
      refine CW.out.mono ?_
      rintro e w2 ⟨rfl, hb2⟩
      have hP2 := HPR.out.below hb2 hbr
      have c1 := hP2.c1
      have cf := hP2.free
      have HP2 := Lib.hid hP2
      have HB2 := Lib.hid hb2
      clear hP2 hb2 CW
      go_wp2_with fail
      have hP3 := Pr.inc1 HP2.out
      have hg13 : wr.grownBy (w2.setCell ⟨b, 1, none⟩ (.int .i64 ((j : Int) + 1))) (some b) := (grown_below HB2.out _).trans (grown_set _ _ _ _)
      have HG3 := Lib.hid (HG.out.trans hg13)
      have HO3 := Lib.hid (own_parser HOW.out hg13 hbw)
      have hK3 := toks_grown HK.out HG3.out HFAR.out
      have C3 := Lib.hid (HH.out (j + 1) dd b _ hP3 hK3 HFAR.out hjn (by have := HF.out.1; omega) (by have := HF.out.2.2.2.1; omega) (At8.no (by omega)) (by omega))
      have hs3 := HG3.out.size
      generalize w2.setCell ⟨b, 1, none⟩ (.int .i64 ((j : Int) + 1)) = w3 at *
      clear hP3 hK3 hg13 HP2 HB2 HPR HG HOW c1 cf
      refine C3.out.mono ?_
      rintro e w4 ⟨v2, l2, j2, dd2, x2, rfl, hown2, hbd2, hPr2, hg2, hc2⟩
      have HOW4 := Lib.hid (own_parser HO3.out hg2 hbw)
      have hg4 := HG3.out.trans hg2
      have hs4 := hg4.size
      obtain ⟨a1, c1, rfl, q1, qc1, qm1, qn1, qx1⟩ := own_nodes HOW4.out rfl
      obtain ⟨a2, c2, rfl, q2, qc2, qm2, qn2, qx2⟩ := own_nodes hown2 rfl
      have CJ := Lib.hid (pjoin8_any a1 l.length c1 l a2 l2.length c2 l2 15 w4 q1 qn1 (by have := HF.out.2.2.2.2.2.2.2.1; have := hT.le; omega) q2 qn2 (by have := hbd2.1; have := hT.le; omega))
      have HREST := Lib.hid (And.intro hPr2 (And.intro hg4 (And.intro hbd2 hc2)))
      clear C3 hown2 hPr2 hg2 hc2 hg4 hbd2 HO3 HG3 HOW4 q1 q2 qx1 qx2 qn1 qn2
      go_wp2_with fail
      refine CJ.out.mono ?_
      rintro e w5 ⟨v3, rfl, hown3, hb3⟩
      obtain ⟨hPr2, hg4, hbd2, hc2⟩ := HREST.out
      obtain ⟨f1, f2, f3, f4, f5, f6, f7, f8⟩ := HF.out
      obtain ⟨k1, k2⟩ := LpRel.step (op := 15) hT (by omega) hjn (by have := HF.out.1; omega) hbd2 (hPr2.below hb3 hPr2.lt) (hg4.trans (grown_below hb3 _)) (own_mono hown3 (by omega)) f1 f2 f3 f4 f5 f6 f7 hc2
      have K1 := Lib.hid k1
      have K2 := Lib.hid (And.intro HPM.out (And.intro (prM_eq (len := len) (hPr2.below hb3 hPr2.lt)) k2))
      clear hPr2 hg4 hbd2 hc2 f1 f2 f3 f4 f5 f6 f7 f8 k1 k2 hown3 hb3 CJ
      go_wp2_with fail
      go_roundw
      case rel => exact K1
      case measure =>
        obtain ⟨m1, m2, m3⟩ := K2.out
        rw [m1, m2]
        exact m3
    · have hI : isS x (tkA ts j) 1 orS = false := by
        by_cases hx : x = 0
        · subst hx
          rw [isS_wrd]
          cases hw : wrdT (tkA ts j) orS with
          | false => rfl
          | true => exact absurd ⟨rfl, hw⟩ hgo
        · exact isS_bad hx _ _ _
      rw [hI] at CW
      have hO : x = 0 → binO 0 (tkA ts j) = none := fun hx => by
        subst hx
        rw [isS_wrd] at hI
        unfold binO
        rw [if_pos rfl, if_neg (by rw [hI]; simp)]
      have FIN := Lib.hid (fun w2 h => LpRel.stop (w2 := w2) hown hbd hPr hg hc hO h hbr)
      clear hrel hown hbd hPr hg hc hO hI hgo hKr
      go_wp2_with fail
      refine CW.out.mono ?_
      rintro e w2 ⟨rfl, hb2⟩
      have F := Lib.hid (FIN.out w2 hb2)
      clear FIN CW hb2
      go_wp2_with fail
      go_ret
      exact F.out

end Go.Proofs.YtmdpjahhhfajaaaGreatDoor
