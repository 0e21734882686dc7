/-
  The reference's parser: and, concat, sum, product (written by gen8loop.py, as or in ERLoop).
-/
import Derived.Test.YtmdpjahhhfajaaaGreatDoorJA20
set_option linter.unusedVariables false
set_option linter.unusedSimpArgs false
set_option maxRecDepth 100000
namespace Wh
open Go Go.Proofs.YtmdpjahhhfajaaaGreatDoor
abbrev ppS : ByteArray := ⟨#[43, 43]⟩
abbrev pluS : ByteArray := ⟨#[43]⟩
abbrev mulS : ByteArray := ⟨#[42]⟩
abbrev divS : ByteArray := ⟨#[47]⟩
abbrev modS : ByteArray := ⟨#[37]⟩
theorem symT_other {t : TA} {s s' : ByteArray} (h : symT t s = true) (hne : eqS s s' = false) : symT t s' = false := by
  obtain ⟨hk, hs⟩ := symT_k h
  unfold symT
  rw [hs, hne, Bool.and_false]
end Wh
namespace Go.Proofs.YtmdpjahhhfajaaaGreatDoor
open Go.RowKit Wh


set_option maxHeartbeats 8000000 in
theorem pand_step {ts : List TA} {a : Option Addr} {len cap f : Nat} (hT : TkH ts a len) (H : Reads8 ts a len cap f 2 99) : Reads8 ts a len cap (f + 1) 1 57 := by
  intro i d b w hP hK hfar hi hm hd h8 h88
  have hR : prT ts (f + 1) 1 i d = (seqP (prT ts f (1 + 1) i d) fun e j => lpT ts (fun k => prT ts f (1 + 1) k d) 1 ts.length e j) := by rw [prT]; rfl
  rw [hR]
  have C := Lib.hid (H i d b w hP hK hfar hi (by omega) hd (At8.no (by omega)) (by omega))
  have ST := Lib.hid (fun e w' h => LpRel.start (w := w) (b := b) (sl := .slice a len cap) (e := e) (w' := w') hT (lvl := 1) (f := f) (d := d) (by omega) hi (by omega) h)
  obtain ⟨R, hRR⟩ : ∃ R, (seqP (prT ts f (1 + 1) i d) fun e j => lpT ts (fun k => prT ts f (1 + 1) k d) 1 ts.length e j) = R := ⟨_, rfl⟩
  rw [hRR] at ST ⊢
  clear hR hRR
  have hbw := hP.lt
  have HK := Lib.hid hK
  have HFAR := Lib.hid hfar
  have HH := Lib.hid H
  clear hP hK hfar h8 h88 H
  go_enter Tryz.func57, Tryz.ntmps57
  go_wp2_with fail
  refine C.out.mono ?_
  rintro e w1 hr
  obtain ⟨v, rfl, hL⟩ := ST.out e w1 hr
  have HL := Lib.hid hL
  clear C ST hr hL
  go_wp2_with fail
  go_loopw [3] (fun ev wr => Hid (LpRel w b (.slice a len cap) ts (fun k => prT ts f (1 + 1) k d) 1 len i d R ev wr)) (fun _ wr => prM b len wr)
  case atStart => exact HL
  case round =>
    obtain ⟨l, j, dd, x, hown, hbd, hPr, hg, hc⟩ := hrel.out
    have hbr := hPr.lt
    have hKr := toks_grown HK.out hg HFAR.out
    have CI := Lib.hid (p := ∀ S q (_ : isS x (tkA ts j) 1 S = q) W (_ : Below wr.heap.size wr W), Calls Tryz.prog 58 #[ptr b, .string S] W fun e w' => e = .returned (.bool q) ∧ Below W.heap.size W w') (by
      intro S q hq W h
      rw [← hq]
      exact pword_any b a len cap ts j dd x S W (hPr.below h hPr.lt) (hKr.below h (Nat.le_refl _)) hT.one (by have := hT.le; omega) (by have := hT.le; omega) (tkA ts j) (hT.get j))
    have FINI : (∀ S, (S = andS) → isS x (tkA ts j) 1 S = false) → (x = 0 → binO 1 (tkA ts j) = none) → Hid (∀ (hdone : True) w2 (h : Below wr.heap.size wr w2), RdP w b (.slice a len cap) len i d R (.returned _) w2) := fun _ hO => Lib.hid (fun _ w2 h => LpRel.stop hown hbd hPr hg hc hO h hbr)
    by_cases hx : x = 0
    · subst hx
      by_cases candS1 : wrdT (tkA ts j) andS = true
      · clear FINI
        have hO : binO 1 (tkA ts j) = some 14 := by unfold binO; simp [candS1]
        have hjn := hT.next hbd.2.1 (binO_k hO)
        rcases hc with ⟨_, hdd, hij, hl1, hlj, hd2, g, hlen, hlp⟩ | ⟨hx, _⟩
        rotate_left
        · exact absurd rfl hx
        subst hdd
        have HIandS1 := Lib.hid ((isS_wrd (tkA ts j) andS).trans candS1)
        have HF := Lib.hid (And.intro hij (And.intro hl1 (And.intro hlj (And.intro hd2 (And.intro hlen (And.intro hlp (And.intro hO hbd)))))))
        have HOW := Lib.hid hown
        have HPR := Lib.hid hPr
        have HG := Lib.hid hg
        have hpm := prM_eq (len := len) hPr
        rw [if_pos rfl] at hpm
        have HPM := Lib.hid hpm
        have hjb : j < 100000 := by have := hT.le; omega
        clear hrel hown hbd hPr hg hij hl1 hlj hlen hlp hO hKr hpm candS1
        go_wp2_with fail
        refine (CI.out _ true HIandS1.out _ (Below.refl _ _)).mono ?_
        rintro e u0 ⟨rfl, hb0⟩
        have HB0 := Lib.hid hb0
        clear hb0
        have hP2 := HPR.out.below HB0.out hbr
        have p1 := hP2.c1
        have cf := hP2.free
        have HP2 := Lib.hid hP2
        clear hP2 CI
        go_wp2_with fail
        have hP3 := Pr.inc1 HP2.out
        have hg13 : wr.grownBy (u0.setCell ⟨b, 1, none⟩ (.int .i64 ((j : Int) + 1))) (some b) := (grown_below HB0.out _).trans (grown_set _ _ _ _)
        have HG3 := Lib.hid (HG.out.trans hg13)
        have HO3 := Lib.hid (own_parser HOW.out hg13 hbw)
        have hK3 := toks_grown HK.out HG3.out HFAR.out
        have C3 := Lib.hid (HH.out (j + 1) dd b _ hP3 hK3 HFAR.out hjn (by have := HF.out.1; omega) (by have := HF.out.2.2.2.1; omega) (At8.no (by omega)) (by omega))
        have hs3 := HG3.out.size
        generalize u0.setCell ⟨b, 1, none⟩ (.int .i64 ((j : Int) + 1)) = w3 at *
        clear hP3 hK3 hg13 HP2 HPR HG HOW p1 cf
        refine C3.out.mono ?_
        rintro e w4 ⟨v2, l2, j2, dd2, x2, rfl, hown2, hbd2, hPr2, hg2, hc2⟩
        have HOW4 := Lib.hid (own_parser HO3.out hg2 hbw)
        have hg4 := HG3.out.trans hg2
        have hs4 := hg4.size
        obtain ⟨a1, c1, rfl, q1, qc1, qm1, qn1, qx1⟩ := own_nodes HOW4.out rfl
        obtain ⟨a2, c2, rfl, q2, qc2, qm2, qn2, qx2⟩ := own_nodes hown2 rfl
        have CJ := Lib.hid (pjoin8_any a1 l.length c1 l a2 l2.length c2 l2 14 w4 q1 qn1 (by have := HF.out.2.2.2.2.2.2.2.1; have := hT.le; omega) q2 qn2 (by have := hbd2.1; have := hT.le; omega))
        have HREST := Lib.hid (And.intro hPr2 (And.intro hg4 (And.intro hbd2 hc2)))
        clear C3 hown2 hPr2 hg2 hc2 hg4 hbd2 HO3 HG3 HOW4 q1 q2 qx1 qx2 qn1 qn2
        go_wp2_with fail
        refine CJ.out.mono ?_
        rintro e w5 ⟨v3, rfl, hown3, hb9⟩
        obtain ⟨hPr2, hg4, hbd2, hc2⟩ := HREST.out
        obtain ⟨f1, f2, f3, f4, f5, f6, f7, f8⟩ := HF.out
        obtain ⟨k1, k2⟩ := LpRel.step (op := 14) hT (by omega) hjn (by have := HF.out.1; omega) hbd2 (hPr2.below hb9 hPr2.lt) (hg4.trans (grown_below hb9 _)) (own_mono hown3 (by omega)) f1 f2 f3 f4 f5 f6 f7 hc2
        have K1 := Lib.hid k1
        have K2 := Lib.hid (And.intro HPM.out (And.intro (prM_eq (len := len) (hPr2.below hb9 hPr2.lt)) k2))
        clear hPr2 hg4 hbd2 hc2 f1 f2 f3 f4 f5 f6 f7 f8 k1 k2 hown3 hb9 CJ
        go_wp2_with fail
        go_roundw
        case rel => exact K1
        case measure =>
          obtain ⟨m1, m2, m3⟩ := K2.out
          rw [m1, m2]
          exact m3
      have candS0 : wrdT (tkA ts j) andS = false := by simpa using candS1
      clear candS1
      have hno : ∀ S, (S = andS) → isS 0 (tkA ts j) 1 S = false := by
        rintro S h
        rcases h with rfl
        · exact (isS_wrd _ _).trans candS0
      have hO : (0 : Int) = 0 → binO 1 (tkA ts j) = none := by intro _; unfold binO; simp [candS0]
      clear candS0
      have HIandS0 := Lib.hid (hno andS (by simp))
      have FIN := FINI hno hO
      clear hrel hown hbd hPr hg hc hO hKr hno FINI
      go_wp2_with fail
      refine (CI.out _ false HIandS0.out _ (Below.refl _ _)).mono ?_
      rintro e u0 ⟨rfl, hb0⟩
      have HB0 := Lib.hid hb0
      clear hb0
      have F := Lib.hid (FIN.out trivial u0 HB0.out)
      clear FIN CI
      go_wp2_with fail
      go_ret
      exact F.out
    · have hno : ∀ S, (S = andS) → isS x (tkA ts j) 1 S = false := fun S _ => isS_bad hx _ _ _
      have hO : x = 0 → binO 1 (tkA ts j) = none := fun h => absurd h hx
      have HIandS0 := Lib.hid (hno andS (by simp))
      have FIN := FINI hno hO
      clear hrel hown hbd hPr hg hc hO hKr hno FINI
      go_wp2_with fail
      refine (CI.out _ false HIandS0.out _ (Below.refl _ _)).mono ?_
      rintro e u0 ⟨rfl, hb0⟩
      have HB0 := Lib.hid hb0
      clear hb0
      have F := Lib.hid (FIN.out trivial u0 HB0.out)
      clear FIN CI
      go_wp2_with fail
      go_ret
      exact F.out


set_option maxHeartbeats 8000000 in
theorem pconcat_step {ts : List TA} {a : Option Addr} {len cap f : Nat} (hT : TkH ts a len) (H : Reads8 ts a len cap f 5 185) : Reads8 ts a len cap (f + 1) 4 167 := by
  intro i d b w hP hK hfar hi hm hd h8 h88
  have hR : prT ts (f + 1) 4 i d = (seqP (prT ts f (4 + 1) i d) fun e j => lpT ts (fun k => prT ts f (4 + 1) k d) 4 ts.length e j) := by rw [prT]; rfl
  rw [hR]
  have C := Lib.hid (H i d b w hP hK hfar hi (by omega) hd (At8.no (by omega)) (by omega))
  have ST := Lib.hid (fun e w' h => LpRel.start (w := w) (b := b) (sl := .slice a len cap) (e := e) (w' := w') hT (lvl := 4) (f := f) (d := d) (by omega) hi (by omega) h)
  obtain ⟨R, hRR⟩ : ∃ R, (seqP (prT ts f (4 + 1) i d) fun e j => lpT ts (fun k => prT ts f (4 + 1) k d) 4 ts.length e j) = R := ⟨_, rfl⟩
  rw [hRR] at ST ⊢
  clear hR hRR
  have hbw := hP.lt
  have HK := Lib.hid hK
  have HFAR := Lib.hid hfar
  have HH := Lib.hid H
  clear hP hK hfar h8 h88 H
  go_enter Tryz.func167, Tryz.ntmps167
  go_wp2_with fail
  refine C.out.mono ?_
  rintro e w1 hr
  obtain ⟨v, rfl, hL⟩ := ST.out e w1 hr
  have HL := Lib.hid hL
  clear C ST hr hL
  go_wp2_with fail
  go_loopw [3] (fun ev wr => Hid (LpRel w b (.slice a len cap) ts (fun k => prT ts f (4 + 1) k d) 4 len i d R ev wr)) (fun _ wr => prM b len wr)
  case atStart => exact HL
  case round =>
    obtain ⟨l, j, dd, x, hown, hbd, hPr, hg, hc⟩ := hrel.out
    have hbr := hPr.lt
    have hKr := toks_grown HK.out hg HFAR.out
    have CI := Lib.hid (p := ∀ S q (_ : isS x (tkA ts j) 5 S = q) W (_ : Below wr.heap.size wr W), Calls Tryz.prog 168 #[ptr b, .string S] W fun e w' => e = .returned (.bool q) ∧ Below W.heap.size W w') (by
      intro S q hq W h
      rw [← hq]
      exact pis_any b a len cap ts j dd x S W (hPr.below h hPr.lt) (hKr.below h (Nat.le_refl _)) hT.one (by have := hT.le; omega) (by have := hT.le; omega) (tkA ts j) (hT.get j))
    have FINI : (∀ S, (S = ppS) → isS x (tkA ts j) 5 S = false) → (x = 0 → binO 4 (tkA ts j) = none) → Hid (∀ (hdone : True) w2 (h : Below wr.heap.size wr w2), RdP w b (.slice a len cap) len i d R (.returned _) w2) := fun _ hO => Lib.hid (fun _ w2 h => LpRel.stop hown hbd hPr hg hc hO h hbr)
    by_cases hx : x = 0
    · subst hx
      by_cases cppS1 : symT (tkA ts j) ppS = true
      · clear FINI
        have hO : binO 4 (tkA ts j) = some 9 := by unfold binO; simp [cppS1]
        have hjn := hT.next hbd.2.1 (binO_k hO)
        rcases hc with ⟨_, hdd, hij, hl1, hlj, hd2, g, hlen, hlp⟩ | ⟨hx, _⟩
        rotate_left
        · exact absurd rfl hx
        subst hdd
        have HIppS1 := Lib.hid ((isS_sym (tkA ts j) ppS).trans cppS1)
        have HF := Lib.hid (And.intro hij (And.intro hl1 (And.intro hlj (And.intro hd2 (And.intro hlen (And.intro hlp (And.intro hO hbd)))))))
        have HOW := Lib.hid hown
        have HPR := Lib.hid hPr
        have HG := Lib.hid hg
        have hpm := prM_eq (len := len) hPr
        rw [if_pos rfl] at hpm
        have HPM := Lib.hid hpm
        have hjb : j < 100000 := by have := hT.le; omega
        clear hrel hown hbd hPr hg hij hl1 hlj hlen hlp hO hKr hpm cppS1
        go_wp2_with fail
        refine (CI.out _ true HIppS1.out _ (Below.refl _ _)).mono ?_
        rintro e u0 ⟨rfl, hb0⟩
        have HB0 := Lib.hid hb0
        clear hb0
        have hP2 := HPR.out.below HB0.out hbr
        have p1 := hP2.c1
        have cf := hP2.free
        have HP2 := Lib.hid hP2
        clear hP2 CI
        go_wp2_with fail
        have hP3 := Pr.inc1 HP2.out
        have hg13 : wr.grownBy (u0.setCell ⟨b, 1, none⟩ (.int .i64 ((j : Int) + 1))) (some b) := (grown_below HB0.out _).trans (grown_set _ _ _ _)
        have HG3 := Lib.hid (HG.out.trans hg13)
        have HO3 := Lib.hid (own_parser HOW.out hg13 hbw)
        have hK3 := toks_grown HK.out HG3.out HFAR.out
        have C3 := Lib.hid (HH.out (j + 1) dd b _ hP3 hK3 HFAR.out hjn (by have := HF.out.1; omega) (by have := HF.out.2.2.2.1; omega) (At8.no (by omega)) (by omega))
        have hs3 := HG3.out.size
        generalize u0.setCell ⟨b, 1, none⟩ (.int .i64 ((j : Int) + 1)) = w3 at *
        clear hP3 hK3 hg13 HP2 HPR HG HOW p1 cf
        refine C3.out.mono ?_
        rintro e w4 ⟨v2, l2, j2, dd2, x2, rfl, hown2, hbd2, hPr2, hg2, hc2⟩
        have HOW4 := Lib.hid (own_parser HO3.out hg2 hbw)
        have hg4 := HG3.out.trans hg2
        have hs4 := hg4.size
        obtain ⟨a1, c1, rfl, q1, qc1, qm1, qn1, qx1⟩ := own_nodes HOW4.out rfl
        obtain ⟨a2, c2, rfl, q2, qc2, qm2, qn2, qx2⟩ := own_nodes hown2 rfl
        have CJ := Lib.hid (pjoin8_any a1 l.length c1 l a2 l2.length c2 l2 9 w4 q1 qn1 (by have := HF.out.2.2.2.2.2.2.2.1; have := hT.le; omega) q2 qn2 (by have := hbd2.1; have := hT.le; omega))
        have HREST := Lib.hid (And.intro hPr2 (And.intro hg4 (And.intro hbd2 hc2)))
        clear C3 hown2 hPr2 hg2 hc2 hg4 hbd2 HO3 HG3 HOW4 q1 q2 qx1 qx2 qn1 qn2
        go_wp2_with fail
        refine CJ.out.mono ?_
        rintro e w5 ⟨v3, rfl, hown3, hb9⟩
        obtain ⟨hPr2, hg4, hbd2, hc2⟩ := HREST.out
        obtain ⟨f1, f2, f3, f4, f5, f6, f7, f8⟩ := HF.out
        obtain ⟨k1, k2⟩ := LpRel.step (op := 9) hT (by omega) hjn (by have := HF.out.1; omega) hbd2 (hPr2.below hb9 hPr2.lt) (hg4.trans (grown_below hb9 _)) (own_mono hown3 (by omega)) f1 f2 f3 f4 f5 f6 f7 hc2
        have K1 := Lib.hid k1
        have K2 := Lib.hid (And.intro HPM.out (And.intro (prM_eq (len := len) (hPr2.below hb9 hPr2.lt)) k2))
        clear hPr2 hg4 hbd2 hc2 f1 f2 f3 f4 f5 f6 f7 f8 k1 k2 hown3 hb9 CJ
        go_wp2_with fail
        go_roundw
        case rel => exact K1
        case measure =>
          obtain ⟨m1, m2, m3⟩ := K2.out
          rw [m1, m2]
          exact m3
      have cppS0 : symT (tkA ts j) ppS = false := by simpa using cppS1
      clear cppS1
      have hno : ∀ S, (S = ppS) → isS 0 (tkA ts j) 5 S = false := by
        rintro S h
        rcases h with rfl
        · exact (isS_sym _ _).trans cppS0
      have hO : (0 : Int) = 0 → binO 4 (tkA ts j) = none := by intro _; unfold binO; simp [cppS0]
      clear cppS0
      have HIppS0 := Lib.hid (hno ppS (by simp))
      have FIN := FINI hno hO
      clear hrel hown hbd hPr hg hc hO hKr hno FINI
      go_wp2_with fail
      refine (CI.out _ false HIppS0.out _ (Below.refl _ _)).mono ?_
      rintro e u0 ⟨rfl, hb0⟩
      have HB0 := Lib.hid hb0
      clear hb0
      have F := Lib.hid (FIN.out trivial u0 HB0.out)
      clear FIN CI
      go_wp2_with fail
      go_ret
      exact F.out
    · have hno : ∀ S, (S = ppS) → isS x (tkA ts j) 5 S = false := fun S _ => isS_bad hx _ _ _
      have hO : x = 0 → binO 4 (tkA ts j) = none := fun h => absurd h hx
      have HIppS0 := Lib.hid (hno ppS (by simp))
      have FIN := FINI hno hO
      clear hrel hown hbd hPr hg hc hO hKr hno FINI
      go_wp2_with fail
      refine (CI.out _ false HIppS0.out _ (Below.refl _ _)).mono ?_
      rintro e u0 ⟨rfl, hb0⟩
      have HB0 := Lib.hid hb0
      clear hb0
      have F := Lib.hid (FIN.out trivial u0 HB0.out)
      clear FIN CI
      go_wp2_with fail
      go_ret
      exact F.out


set_option maxHeartbeats 8000000 in
theorem psum_step {ts : List TA} {a : Option Addr} {len cap f : Nat} (hT : TkH ts a len) (H : Reads8 ts a len cap f 6 207) : Reads8 ts a len cap (f + 1) 5 185 := by
  intro i d b w hP hK hfar hi hm hd h8 h88
  have hR : prT ts (f + 1) 5 i d = (seqP (prT ts f (5 + 1) i d) fun e j => lpT ts (fun k => prT ts f (5 + 1) k d) 5 ts.length e j) := by rw [prT]; rfl
  rw [hR]
  have C := Lib.hid (H i d b w hP hK hfar hi (by omega) hd (At8.no (by omega)) (by omega))
  have ST := Lib.hid (fun e w' h => LpRel.start (w := w) (b := b) (sl := .slice a len cap) (e := e) (w' := w') hT (lvl := 5) (f := f) (d := d) (by omega) hi (by omega) h)
  obtain ⟨R, hRR⟩ : ∃ R, (seqP (prT ts f (5 + 1) i d) fun e j => lpT ts (fun k => prT ts f (5 + 1) k d) 5 ts.length e j) = R := ⟨_, rfl⟩
  rw [hRR] at ST ⊢
  clear hR hRR
  have hbw := hP.lt
  have HK := Lib.hid hK
  have HFAR := Lib.hid hfar
  have HH := Lib.hid H
  clear hP hK hfar h8 h88 H
  go_enter Tryz.func185, Tryz.ntmps185
  go_wp2_with fail
  refine C.out.mono ?_
  rintro e w1 hr
  obtain ⟨v, rfl, hL⟩ := ST.out e w1 hr
  have HL := Lib.hid hL
  clear C ST hr hL
  go_wp2_with fail
  go_loopw [3, 4] (fun ev ov wr => Hid (LpRel w b (.slice a len cap) ts (fun k => prT ts f (5 + 1) k d) 5 len i d R ev wr)) (fun _ _ wr => prM b len wr)
  case atStart => exact HL
  case round =>
    obtain ⟨l, j, dd, x, hown, hbd, hPr, hg, hc⟩ := hrel.out
    have hbr := hPr.lt
    have hKr := toks_grown HK.out hg HFAR.out
    have CI := Lib.hid (p := ∀ S q (_ : isS x (tkA ts j) 5 S = q) W (_ : Below wr.heap.size wr W), Calls Tryz.prog 168 #[ptr b, .string S] W fun e w' => e = .returned (.bool q) ∧ Below W.heap.size W w') (by
      intro S q hq W h
      rw [← hq]
      exact pis_any b a len cap ts j dd x S W (hPr.below h hPr.lt) (hKr.below h (Nat.le_refl _)) hT.one (by have := hT.le; omega) (by have := hT.le; omega) (tkA ts j) (hT.get j))
    have FINI : (∀ S, (S = pluS ∨ S = minS) → isS x (tkA ts j) 5 S = false) → (x = 0 → binO 5 (tkA ts j) = none) → Hid (∀ (hdone : True) w2 (h : Below wr.heap.size wr w2), RdP w b (.slice a len cap) len i d R (.returned _) w2) := fun _ hO => Lib.hid (fun _ w2 h => LpRel.stop hown hbd hPr hg hc hO h hbr)
    by_cases hx : x = 0
    · subst hx
      by_cases cpluS1 : symT (tkA ts j) pluS = true
      · clear FINI
        have cminS0 : symT (tkA ts j) minS = false := symT_other cpluS1 (by decide +kernel)
        have hO : binO 5 (tkA ts j) = some 4 := by unfold binO; simp [cpluS1, cminS0]
        have hjn := hT.next hbd.2.1 (binO_k hO)
        rcases hc with ⟨_, hdd, hij, hl1, hlj, hd2, g, hlen, hlp⟩ | ⟨hx, _⟩
        rotate_left
        · exact absurd rfl hx
        subst hdd
        have HIpluS1 := Lib.hid ((isS_sym (tkA ts j) pluS).trans cpluS1)
        have HIminS0 := Lib.hid ((isS_sym (tkA ts j) minS).trans cminS0)
        have HF := Lib.hid (And.intro hij (And.intro hl1 (And.intro hlj (And.intro hd2 (And.intro hlen (And.intro hlp (And.intro hO hbd)))))))
        have HOW := Lib.hid hown
        have HPR := Lib.hid hPr
        have HG := Lib.hid hg
        have hpm := prM_eq (len := len) hPr
        rw [if_pos rfl] at hpm
        have HPM := Lib.hid hpm
        have hjb : j < 100000 := by have := hT.le; omega
        clear hrel hown hbd hPr hg hij hl1 hlj hlen hlp hO hKr hpm cpluS1 cminS0
        go_wp2_with fail
        refine (CI.out _ true HIpluS1.out _ (Below.refl _ _)).mono ?_
        rintro e u0 ⟨rfl, hb0⟩
        have HB0 := Lib.hid hb0
        clear hb0
        go_wp2_with fail
        refine (CI.out _ false HIminS0.out _ HB0.out).mono ?_
        rintro e u1 ⟨rfl, hb1⟩
        have HB1 := Lib.hid (HB0.out.trans (hb1.mono HB0.out.size))
        clear hb1
        have hP2 := HPR.out.below HB1.out hbr
        have p1 := hP2.c1
        have cf := hP2.free
        have HP2 := Lib.hid hP2
        clear hP2 CI
        go_wp2_with fail
        have hP3 := Pr.inc1 HP2.out
        have hg13 : wr.grownBy (u1.setCell ⟨b, 1, none⟩ (.int .i64 ((j : Int) + 1))) (some b) := (grown_below HB1.out _).trans (grown_set _ _ _ _)
        have HG3 := Lib.hid (HG.out.trans hg13)
        have HO3 := Lib.hid (own_parser HOW.out hg13 hbw)
        have hK3 := toks_grown HK.out HG3.out HFAR.out
        have C3 := Lib.hid (HH.out (j + 1) dd b _ hP3 hK3 HFAR.out hjn (by have := HF.out.1; omega) (by have := HF.out.2.2.2.1; omega) (At8.no (by omega)) (by omega))
        have hs3 := HG3.out.size
        generalize u1.setCell ⟨b, 1, none⟩ (.int .i64 ((j : Int) + 1)) = w3 at *
        clear hP3 hK3 hg13 HP2 HPR HG HOW p1 cf
        refine C3.out.mono ?_
        rintro e w4 ⟨v2, l2, j2, dd2, x2, rfl, hown2, hbd2, hPr2, hg2, hc2⟩
        have HOW4 := Lib.hid (own_parser HO3.out hg2 hbw)
        have hg4 := HG3.out.trans hg2
        have hs4 := hg4.size
        obtain ⟨a1, c1, rfl, q1, qc1, qm1, qn1, qx1⟩ := own_nodes HOW4.out rfl
        obtain ⟨a2, c2, rfl, q2, qc2, qm2, qn2, qx2⟩ := own_nodes hown2 rfl
        have CJ := Lib.hid (pjoin8_any a1 l.length c1 l a2 l2.length c2 l2 4 w4 q1 qn1 (by have := HF.out.2.2.2.2.2.2.2.1; have := hT.le; omega) q2 qn2 (by have := hbd2.1; have := hT.le; omega))
        have HREST := Lib.hid (And.intro hPr2 (And.intro hg4 (And.intro hbd2 hc2)))
        clear C3 hown2 hPr2 hg2 hc2 hg4 hbd2 HO3 HG3 HOW4 q1 q2 qx1 qx2 qn1 qn2
        go_wp2_with fail
        refine CJ.out.mono ?_
        rintro e w5 ⟨v3, rfl, hown3, hb9⟩
        obtain ⟨hPr2, hg4, hbd2, hc2⟩ := HREST.out
        obtain ⟨f1, f2, f3, f4, f5, f6, f7, f8⟩ := HF.out
        obtain ⟨k1, k2⟩ := LpRel.step (op := 4) hT (by omega) hjn (by have := HF.out.1; omega) hbd2 (hPr2.below hb9 hPr2.lt) (hg4.trans (grown_below hb9 _)) (own_mono hown3 (by omega)) f1 f2 f3 f4 f5 f6 f7 hc2
        have K1 := Lib.hid k1
        have K2 := Lib.hid (And.intro HPM.out (And.intro (prM_eq (len := len) (hPr2.below hb9 hPr2.lt)) k2))
        clear hPr2 hg4 hbd2 hc2 f1 f2 f3 f4 f5 f6 f7 f8 k1 k2 hown3 hb9 CJ
        go_wp2_with fail
        go_roundw
        case rel => exact K1
        case measure =>
          obtain ⟨m1, m2, m3⟩ := K2.out
          rw [m1, m2]
          exact m3
      have cpluS0 : symT (tkA ts j) pluS = false := by simpa using cpluS1
      clear cpluS1
      by_cases cminS1 : symT (tkA ts j) minS = true
      · clear FINI
        have hO : binO 5 (tkA ts j) = some 5 := by unfold binO; simp [cpluS0, cminS1]
        have hjn := hT.next hbd.2.1 (binO_k hO)
        rcases hc with ⟨_, hdd, hij, hl1, hlj, hd2, g, hlen, hlp⟩ | ⟨hx, _⟩
        rotate_left
        · exact absurd rfl hx
        subst hdd
        have HIpluS0 := Lib.hid ((isS_sym (tkA ts j) pluS).trans cpluS0)
        have HIminS1 := Lib.hid ((isS_sym (tkA ts j) minS).trans cminS1)
        have HF := Lib.hid (And.intro hij (And.intro hl1 (And.intro hlj (And.intro hd2 (And.intro hlen (And.intro hlp (And.intro hO hbd)))))))
        have HOW := Lib.hid hown
        have HPR := Lib.hid hPr
        have HG := Lib.hid hg
        have hpm := prM_eq (len := len) hPr
        rw [if_pos rfl] at hpm
        have HPM := Lib.hid hpm
        have hjb : j < 100000 := by have := hT.le; omega
        clear hrel hown hbd hPr hg hij hl1 hlj hlen hlp hO hKr hpm cpluS0 cminS1
        go_wp2_with fail
        refine (CI.out _ false HIpluS0.out _ (Below.refl _ _)).mono ?_
        rintro e u0 ⟨rfl, hb0⟩
        have HB0 := Lib.hid hb0
        clear hb0
        go_wp2_with fail
        refine (CI.out _ true HIminS1.out _ HB0.out).mono ?_
        rintro e u1 ⟨rfl, hb1⟩
        have HB1 := Lib.hid (HB0.out.trans (hb1.mono HB0.out.size))
        clear hb1
        go_wp2_with fail
        refine (CI.out _ true HIminS1.out _ HB1.out).mono ?_
        rintro e u2 ⟨rfl, hb2⟩
        have HB2 := Lib.hid (HB1.out.trans (hb2.mono HB1.out.size))
        clear hb2
        have hP2 := HPR.out.below HB2.out hbr
        have p1 := hP2.c1
        have cf := hP2.free
        have HP2 := Lib.hid hP2
        clear hP2 CI
        go_wp2_with fail
        have hP3 := Pr.inc1 HP2.out
        have hg13 : wr.grownBy (u2.setCell ⟨b, 1, none⟩ (.int .i64 ((j : Int) + 1))) (some b) := (grown_below HB2.out _).trans (grown_set _ _ _ _)
        have HG3 := Lib.hid (HG.out.trans hg13)
        have HO3 := Lib.hid (own_parser HOW.out hg13 hbw)
        have hK3 := toks_grown HK.out HG3.out HFAR.out
        have C3 := Lib.hid (HH.out (j + 1) dd b _ hP3 hK3 HFAR.out hjn (by have := HF.out.1; omega) (by have := HF.out.2.2.2.1; omega) (At8.no (by omega)) (by omega))
        have hs3 := HG3.out.size
        generalize u2.setCell ⟨b, 1, none⟩ (.int .i64 ((j : Int) + 1)) = w3 at *
        clear hP3 hK3 hg13 HP2 HPR HG HOW p1 cf
        refine C3.out.mono ?_
        rintro e w4 ⟨v2, l2, j2, dd2, x2, rfl, hown2, hbd2, hPr2, hg2, hc2⟩
        have HOW4 := Lib.hid (own_parser HO3.out hg2 hbw)
        have hg4 := HG3.out.trans hg2
        have hs4 := hg4.size
        obtain ⟨a1, c1, rfl, q1, qc1, qm1, qn1, qx1⟩ := own_nodes HOW4.out rfl
        obtain ⟨a2, c2, rfl, q2, qc2, qm2, qn2, qx2⟩ := own_nodes hown2 rfl
        have CJ := Lib.hid (pjoin8_any a1 l.length c1 l a2 l2.length c2 l2 5 w4 q1 qn1 (by have := HF.out.2.2.2.2.2.2.2.1; have := hT.le; omega) q2 qn2 (by have := hbd2.1; have := hT.le; omega))
        have HREST := Lib.hid (And.intro hPr2 (And.intro hg4 (And.intro hbd2 hc2)))
        clear C3 hown2 hPr2 hg2 hc2 hg4 hbd2 HO3 HG3 HOW4 q1 q2 qx1 qx2 qn1 qn2
        go_wp2_with fail
        refine CJ.out.mono ?_
        rintro e w5 ⟨v3, rfl, hown3, hb9⟩
        obtain ⟨hPr2, hg4, hbd2, hc2⟩ := HREST.out
        obtain ⟨f1, f2, f3, f4, f5, f6, f7, f8⟩ := HF.out
        obtain ⟨k1, k2⟩ := LpRel.step (op := 5) hT (by omega) hjn (by have := HF.out.1; omega) hbd2 (hPr2.below hb9 hPr2.lt) (hg4.trans (grown_below hb9 _)) (own_mono hown3 (by omega)) f1 f2 f3 f4 f5 f6 f7 hc2
        have K1 := Lib.hid k1
        have K2 := Lib.hid (And.intro HPM.out (And.intro (prM_eq (len := len) (hPr2.below hb9 hPr2.lt)) k2))
        clear hPr2 hg4 hbd2 hc2 f1 f2 f3 f4 f5 f6 f7 f8 k1 k2 hown3 hb9 CJ
        go_wp2_with fail
        go_roundw
        case rel => exact K1
        case measure =>
          obtain ⟨m1, m2, m3⟩ := K2.out
          rw [m1, m2]
          exact m3
      have cminS0 : symT (tkA ts j) minS = false := by simpa using cminS1
      clear cminS1
      have hno : ∀ S, (S = pluS ∨ S = minS) → isS 0 (tkA ts j) 5 S = false := by
        rintro S h
        rcases h with rfl | rfl
        · exact (isS_sym _ _).trans cpluS0
        · exact (isS_sym _ _).trans cminS0
      have hO : (0 : Int) = 0 → binO 5 (tkA ts j) = none := by intro _; unfold binO; simp [cpluS0, cminS0]
      clear cpluS0 cminS0
      have HIpluS0 := Lib.hid (hno pluS (by simp))
      have HIminS0 := Lib.hid (hno minS (by simp))
      have FIN := FINI hno hO
      clear hrel hown hbd hPr hg hc hO hKr hno FINI
      go_wp2_with fail
      refine (CI.out _ false HIpluS0.out _ (Below.refl _ _)).mono ?_
      rintro e u0 ⟨rfl, hb0⟩
      have HB0 := Lib.hid hb0
      clear hb0
      go_wp2_with fail
      refine (CI.out _ false HIminS0.out _ HB0.out).mono ?_
      rintro e u1 ⟨rfl, hb1⟩
      have HB1 := Lib.hid (HB0.out.trans (hb1.mono HB0.out.size))
      clear hb1
      have F := Lib.hid (FIN.out trivial u1 HB1.out)
      clear FIN CI
      go_wp2_with fail
      go_ret
      exact F.out
    · have hno : ∀ S, (S = pluS ∨ S = minS) → isS x (tkA ts j) 5 S = false := fun S _ => isS_bad hx _ _ _
      have hO : x = 0 → binO 5 (tkA ts j) = none := fun h => absurd h hx
      have HIpluS0 := Lib.hid (hno pluS (by simp))
      have HIminS0 := Lib.hid (hno minS (by simp))
      have FIN := FINI hno hO
      clear hrel hown hbd hPr hg hc hO hKr hno FINI
      go_wp2_with fail
      refine (CI.out _ false HIpluS0.out _ (Below.refl _ _)).mono ?_
      rintro e u0 ⟨rfl, hb0⟩
      have HB0 := Lib.hid hb0
      clear hb0
      go_wp2_with fail
      refine (CI.out _ false HIminS0.out _ HB0.out).mono ?_
      rintro e u1 ⟨rfl, hb1⟩
      have HB1 := Lib.hid (HB0.out.trans (hb1.mono HB0.out.size))
      clear hb1
      have F := Lib.hid (FIN.out trivial u1 HB1.out)
      clear FIN CI
      go_wp2_with fail
      go_ret
      exact F.out


set_option maxHeartbeats 8000000 in
theorem pproduct_step {ts : List TA} {a : Option Addr} {len cap f : Nat} (hT : TkH ts a len) (H : Reads8 ts a len cap f 7 224) : Reads8 ts a len cap (f + 1) 6 207 := by
  intro i d b w hP hK hfar hi hm hd h8 h88
  have hR : prT ts (f + 1) 6 i d = (seqP (prT ts f (6 + 1) i d) fun e j => lpT ts (fun k => prT ts f (6 + 1) k d) 6 ts.length e j) := by rw [prT]; rfl
  rw [hR]
  have C := Lib.hid (H i d b w hP hK hfar hi (by omega) hd (At8.no (by omega)) (by omega))
  have ST := Lib.hid (fun e w' h => LpRel.start (w := w) (b := b) (sl := .slice a len cap) (e := e) (w' := w') hT (lvl := 6) (f := f) (d := d) (by omega) hi (by omega) h)
  obtain ⟨R, hRR⟩ : ∃ R, (seqP (prT ts f (6 + 1) i d) fun e j => lpT ts (fun k => prT ts f (6 + 1) k d) 6 ts.length e j) = R := ⟨_, rfl⟩
  rw [hRR] at ST ⊢
  clear hR hRR
  have hbw := hP.lt
  have HK := Lib.hid hK
  have HFAR := Lib.hid hfar
  have HH := Lib.hid H
  clear hP hK hfar h8 h88 H
  go_enter Tryz.func207, Tryz.ntmps207
  go_wp2_with fail
  refine C.out.mono ?_
  rintro e w1 hr
  obtain ⟨v, rfl, hL⟩ := ST.out e w1 hr
  have HL := Lib.hid hL
  clear C ST hr hL
  go_wp2_with fail
  go_loopw [3, 4] (fun ev ov wr => Hid (LpRel w b (.slice a len cap) ts (fun k => prT ts f (6 + 1) k d) 6 len i d R ev wr)) (fun _ _ wr => prM b len wr)
  case atStart => exact HL
  case round =>
    obtain ⟨l, j, dd, x, hown, hbd, hPr, hg, hc⟩ := hrel.out
    have hbr := hPr.lt
    have hKr := toks_grown HK.out hg HFAR.out
    have CI := Lib.hid (p := ∀ S q (_ : isS x (tkA ts j) 5 S = q) W (_ : Below wr.heap.size wr W), Calls Tryz.prog 168 #[ptr b, .string S] W fun e w' => e = .returned (.bool q) ∧ Below W.heap.size W w') (by
      intro S q hq W h
      rw [← hq]
      exact pis_any b a len cap ts j dd x S W (hPr.below h hPr.lt) (hKr.below h (Nat.le_refl _)) hT.one (by have := hT.le; omega) (by have := hT.le; omega) (tkA ts j) (hT.get j))
    have FINI : (∀ S, (S = mulS ∨ S = divS ∨ S = modS) → isS x (tkA ts j) 5 S = false) → (x = 0 → binO 6 (tkA ts j) = none) → Hid (∀ (hdone : True) w2 (h : Below wr.heap.size wr w2), RdP w b (.slice a len cap) len i d R (.returned _) w2) := fun _ hO => Lib.hid (fun _ w2 h => LpRel.stop hown hbd hPr hg hc hO h hbr)
    by_cases hx : x = 0
    · subst hx
      by_cases cmulS1 : symT (tkA ts j) mulS = true
      · clear FINI
        have cdivS0 : symT (tkA ts j) divS = false := symT_other cmulS1 (by decide +kernel)
        have cmodS0 : symT (tkA ts j) modS = false := symT_other cmulS1 (by decide +kernel)
        have hO : binO 6 (tkA ts j) = some 6 := by unfold binO; simp [cmulS1, cdivS0, cmodS0]
        have hjn := hT.next hbd.2.1 (binO_k hO)
        rcases hc with ⟨_, hdd, hij, hl1, hlj, hd2, g, hlen, hlp⟩ | ⟨hx, _⟩
        rotate_left
        · exact absurd rfl hx
        subst hdd
        have HImulS1 := Lib.hid ((isS_sym (tkA ts j) mulS).trans cmulS1)
        have HIdivS0 := Lib.hid ((isS_sym (tkA ts j) divS).trans cdivS0)
        have HImodS0 := Lib.hid ((isS_sym (tkA ts j) modS).trans cmodS0)
        have HF := Lib.hid (And.intro hij (And.intro hl1 (And.intro hlj (And.intro hd2 (And.intro hlen (And.intro hlp (And.intro hO hbd)))))))
        have HOW := Lib.hid hown
        have HPR := Lib.hid hPr
        have HG := Lib.hid hg
        have hpm := prM_eq (len := len) hPr
        rw [if_pos rfl] at hpm
        have HPM := Lib.hid hpm
        have hjb : j < 100000 := by have := hT.le; omega
        clear hrel hown hbd hPr hg hij hl1 hlj hlen hlp hO hKr hpm cmulS1 cdivS0 cmodS0
        go_wp2_with fail
        refine (CI.out _ true HImulS1.out _ (Below.refl _ _)).mono ?_
        rintro e u0 ⟨rfl, hb0⟩
        have HB0 := Lib.hid hb0
        clear hb0
        go_wp2_with fail
        refine (CI.out _ false HIdivS0.out _ HB0.out).mono ?_
        rintro e u1 ⟨rfl, hb1⟩
        have HB1 := Lib.hid (HB0.out.trans (hb1.mono HB0.out.size))
        clear hb1
        go_wp2_with fail
        refine (CI.out _ false HImodS0.out _ HB1.out).mono ?_
        rintro e u2 ⟨rfl, hb2⟩
        have HB2 := Lib.hid (HB1.out.trans (hb2.mono HB1.out.size))
        clear hb2
        have hP2 := HPR.out.below HB2.out hbr
        have p1 := hP2.c1
        have cf := hP2.free
        have HP2 := Lib.hid hP2
        clear hP2 CI
        go_wp2_with fail
        have hP3 := Pr.inc1 HP2.out
        have hg13 : wr.grownBy (u2.setCell ⟨b, 1, none⟩ (.int .i64 ((j : Int) + 1))) (some b) := (grown_below HB2.out _).trans (grown_set _ _ _ _)
        have HG3 := Lib.hid (HG.out.trans hg13)
        have HO3 := Lib.hid (own_parser HOW.out hg13 hbw)
        have hK3 := toks_grown HK.out HG3.out HFAR.out
        have C3 := Lib.hid (HH.out (j + 1) dd b _ hP3 hK3 HFAR.out hjn (by have := HF.out.1; omega) (by have := HF.out.2.2.2.1; omega) (At8.no (by omega)) (by omega))
        have hs3 := HG3.out.size
        generalize u2.setCell ⟨b, 1, none⟩ (.int .i64 ((j : Int) + 1)) = w3 at *
        clear hP3 hK3 hg13 HP2 HPR HG HOW p1 cf
        refine C3.out.mono ?_
        rintro e w4 ⟨v2, l2, j2, dd2, x2, rfl, hown2, hbd2, hPr2, hg2, hc2⟩
        have HOW4 := Lib.hid (own_parser HO3.out hg2 hbw)
        have hg4 := HG3.out.trans hg2
        have hs4 := hg4.size
        obtain ⟨a1, c1, rfl, q1, qc1, qm1, qn1, qx1⟩ := own_nodes HOW4.out rfl
        obtain ⟨a2, c2, rfl, q2, qc2, qm2, qn2, qx2⟩ := own_nodes hown2 rfl
        have CJ := Lib.hid (pjoin8_any a1 l.length c1 l a2 l2.length c2 l2 6 w4 q1 qn1 (by have := HF.out.2.2.2.2.2.2.2.1; have := hT.le; omega) q2 qn2 (by have := hbd2.1; have := hT.le; omega))
        have HREST := Lib.hid (And.intro hPr2 (And.intro hg4 (And.intro hbd2 hc2)))
        clear C3 hown2 hPr2 hg2 hc2 hg4 hbd2 HO3 HG3 HOW4 q1 q2 qx1 qx2 qn1 qn2
        go_wp2_with fail
        refine CJ.out.mono ?_
        rintro e w5 ⟨v3, rfl, hown3, hb9⟩
        obtain ⟨hPr2, hg4, hbd2, hc2⟩ := HREST.out
        obtain ⟨f1, f2, f3, f4, f5, f6, f7, f8⟩ := HF.out
        obtain ⟨k1, k2⟩ := LpRel.step (op := 6) hT (by omega) hjn (by have := HF.out.1; omega) hbd2 (hPr2.below hb9 hPr2.lt) (hg4.trans (grown_below hb9 _)) (own_mono hown3 (by omega)) f1 f2 f3 f4 f5 f6 f7 hc2
        have K1 := Lib.hid k1
        have K2 := Lib.hid (And.intro HPM.out (And.intro (prM_eq (len := len) (hPr2.below hb9 hPr2.lt)) k2))
        clear hPr2 hg4 hbd2 hc2 f1 f2 f3 f4 f5 f6 f7 f8 k1 k2 hown3 hb9 CJ
        go_wp2_with fail
        go_roundw
        case rel => exact K1
        case measure =>
          obtain ⟨m1, m2, m3⟩ := K2.out
          rw [m1, m2]
          exact m3
      have cmulS0 : symT (tkA ts j) mulS = false := by simpa using cmulS1
      clear cmulS1
      by_cases cdivS1 : symT (tkA ts j) divS = true
      · clear FINI
        have cmodS0 : symT (tkA ts j) modS = false := symT_other cdivS1 (by decide +kernel)
        have hO : binO 6 (tkA ts j) = some 7 := by unfold binO; simp [cmulS0, cdivS1, cmodS0]
        have hjn := hT.next hbd.2.1 (binO_k hO)
        rcases hc with ⟨_, hdd, hij, hl1, hlj, hd2, g, hlen, hlp⟩ | ⟨hx, _⟩
        rotate_left
        · exact absurd rfl hx
        subst hdd
        have HImulS0 := Lib.hid ((isS_sym (tkA ts j) mulS).trans cmulS0)
        have HIdivS1 := Lib.hid ((isS_sym (tkA ts j) divS).trans cdivS1)
        have HImodS0 := Lib.hid ((isS_sym (tkA ts j) modS).trans cmodS0)
        have HF := Lib.hid (And.intro hij (And.intro hl1 (And.intro hlj (And.intro hd2 (And.intro hlen (And.intro hlp (And.intro hO hbd)))))))
        have HOW := Lib.hid hown
        have HPR := Lib.hid hPr
        have HG := Lib.hid hg
        have hpm := prM_eq (len := len) hPr
        rw [if_pos rfl] at hpm
        have HPM := Lib.hid hpm
        have hjb : j < 100000 := by have := hT.le; omega
        clear hrel hown hbd hPr hg hij hl1 hlj hlen hlp hO hKr hpm cmulS0 cdivS1 cmodS0
        go_wp2_with fail
        refine (CI.out _ false HImulS0.out _ (Below.refl _ _)).mono ?_
        rintro e u0 ⟨rfl, hb0⟩
        have HB0 := Lib.hid hb0
        clear hb0
        go_wp2_with fail
        refine (CI.out _ true HIdivS1.out _ HB0.out).mono ?_
        rintro e u1 ⟨rfl, hb1⟩
        have HB1 := Lib.hid (HB0.out.trans (hb1.mono HB0.out.size))
        clear hb1
        go_wp2_with fail
        refine (CI.out _ true HIdivS1.out _ HB1.out).mono ?_
        rintro e u2 ⟨rfl, hb2⟩
        have HB2 := Lib.hid (HB1.out.trans (hb2.mono HB1.out.size))
        clear hb2
        go_wp2_with fail
        refine (CI.out _ false HImodS0.out _ HB2.out).mono ?_
        rintro e u3 ⟨rfl, hb3⟩
        have HB3 := Lib.hid (HB2.out.trans (hb3.mono HB2.out.size))
        clear hb3
        have hP2 := HPR.out.below HB3.out hbr
        have p1 := hP2.c1
        have cf := hP2.free
        have HP2 := Lib.hid hP2
        clear hP2 CI
        go_wp2_with fail
        have hP3 := Pr.inc1 HP2.out
        have hg13 : wr.grownBy (u3.setCell ⟨b, 1, none⟩ (.int .i64 ((j : Int) + 1))) (some b) := (grown_below HB3.out _).trans (grown_set _ _ _ _)
        have HG3 := Lib.hid (HG.out.trans hg13)
        have HO3 := Lib.hid (own_parser HOW.out hg13 hbw)
        have hK3 := toks_grown HK.out HG3.out HFAR.out
        have C3 := Lib.hid (HH.out (j + 1) dd b _ hP3 hK3 HFAR.out hjn (by have := HF.out.1; omega) (by have := HF.out.2.2.2.1; omega) (At8.no (by omega)) (by omega))
        have hs3 := HG3.out.size
        generalize u3.setCell ⟨b, 1, none⟩ (.int .i64 ((j : Int) + 1)) = w3 at *
        clear hP3 hK3 hg13 HP2 HPR HG HOW p1 cf
        refine C3.out.mono ?_
        rintro e w4 ⟨v2, l2, j2, dd2, x2, rfl, hown2, hbd2, hPr2, hg2, hc2⟩
        have HOW4 := Lib.hid (own_parser HO3.out hg2 hbw)
        have hg4 := HG3.out.trans hg2
        have hs4 := hg4.size
        obtain ⟨a1, c1, rfl, q1, qc1, qm1, qn1, qx1⟩ := own_nodes HOW4.out rfl
        obtain ⟨a2, c2, rfl, q2, qc2, qm2, qn2, qx2⟩ := own_nodes hown2 rfl
        have CJ := Lib.hid (pjoin8_any a1 l.length c1 l a2 l2.length c2 l2 7 w4 q1 qn1 (by have := HF.out.2.2.2.2.2.2.2.1; have := hT.le; omega) q2 qn2 (by have := hbd2.1; have := hT.le; omega))
        have HREST := Lib.hid (And.intro hPr2 (And.intro hg4 (And.intro hbd2 hc2)))
        clear C3 hown2 hPr2 hg2 hc2 hg4 hbd2 HO3 HG3 HOW4 q1 q2 qx1 qx2 qn1 qn2
        go_wp2_with fail
        refine CJ.out.mono ?_
        rintro e w5 ⟨v3, rfl, hown3, hb9⟩
        obtain ⟨hPr2, hg4, hbd2, hc2⟩ := HREST.out
        obtain ⟨f1, f2, f3, f4, f5, f6, f7, f8⟩ := HF.out
        obtain ⟨k1, k2⟩ := LpRel.step (op := 7) hT (by omega) hjn (by have := HF.out.1; omega) hbd2 (hPr2.below hb9 hPr2.lt) (hg4.trans (grown_below hb9 _)) (own_mono hown3 (by omega)) f1 f2 f3 f4 f5 f6 f7 hc2
        have K1 := Lib.hid k1
        have K2 := Lib.hid (And.intro HPM.out (And.intro (prM_eq (len := len) (hPr2.below hb9 hPr2.lt)) k2))
        clear hPr2 hg4 hbd2 hc2 f1 f2 f3 f4 f5 f6 f7 f8 k1 k2 hown3 hb9 CJ
        go_wp2_with fail
        go_roundw
        case rel => exact K1
        case measure =>
          obtain ⟨m1, m2, m3⟩ := K2.out
          rw [m1, m2]
          exact m3
      have cdivS0 : symT (tkA ts j) divS = false := by simpa using cdivS1
      clear cdivS1
      by_cases cmodS1 : symT (tkA ts j) modS = true
      · clear FINI
        have hO : binO 6 (tkA ts j) = some 8 := by unfold binO; simp [cmulS0, cdivS0, cmodS1]
        have hjn := hT.next hbd.2.1 (binO_k hO)
        rcases hc with ⟨_, hdd, hij, hl1, hlj, hd2, g, hlen, hlp⟩ | ⟨hx, _⟩
        rotate_left
        · exact absurd rfl hx
        subst hdd
        have HImulS0 := Lib.hid ((isS_sym (tkA ts j) mulS).trans cmulS0)
        have HIdivS0 := Lib.hid ((isS_sym (tkA ts j) divS).trans cdivS0)
        have HImodS1 := Lib.hid ((isS_sym (tkA ts j) modS).trans cmodS1)
        have HF := Lib.hid (And.intro hij (And.intro hl1 (And.intro hlj (And.intro hd2 (And.intro hlen (And.intro hlp (And.intro hO hbd)))))))
        have HOW := Lib.hid hown
        have HPR := Lib.hid hPr
        have HG := Lib.hid hg
        have hpm := prM_eq (len := len) hPr
        rw [if_pos rfl] at hpm
        have HPM := Lib.hid hpm
        have hjb : j < 100000 := by have := hT.le; omega
        clear hrel hown hbd hPr hg hij hl1 hlj hlen hlp hO hKr hpm cmulS0 cdivS0 cmodS1
        go_wp2_with fail
        refine (CI.out _ false HImulS0.out _ (Below.refl _ _)).mono ?_
        rintro e u0 ⟨rfl, hb0⟩
        have HB0 := Lib.hid hb0
        clear hb0
        go_wp2_with fail
        refine (CI.out _ false HIdivS0.out _ HB0.out).mono ?_
        rintro e u1 ⟨rfl, hb1⟩
        have HB1 := Lib.hid (HB0.out.trans (hb1.mono HB0.out.size))
        clear hb1
        go_wp2_with fail
        refine (CI.out _ true HImodS1.out _ HB1.out).mono ?_
        rintro e u2 ⟨rfl, hb2⟩
        have HB2 := Lib.hid (HB1.out.trans (hb2.mono HB1.out.size))
        clear hb2
        go_wp2_with fail
        refine (CI.out _ false HIdivS0.out _ HB2.out).mono ?_
        rintro e u3 ⟨rfl, hb3⟩
        have HB3 := Lib.hid (HB2.out.trans (hb3.mono HB2.out.size))
        clear hb3
        go_wp2_with fail
        refine (CI.out _ true HImodS1.out _ HB3.out).mono ?_
        rintro e u4 ⟨rfl, hb4⟩
        have HB4 := Lib.hid (HB3.out.trans (hb4.mono HB3.out.size))
        clear hb4
        have hP2 := HPR.out.below HB4.out hbr
        have p1 := hP2.c1
        have cf := hP2.free
        have HP2 := Lib.hid hP2
        clear hP2 CI
        go_wp2_with fail
        have hP3 := Pr.inc1 HP2.out
        have hg13 : wr.grownBy (u4.setCell ⟨b, 1, none⟩ (.int .i64 ((j : Int) + 1))) (some b) := (grown_below HB4.out _).trans (grown_set _ _ _ _)
        have HG3 := Lib.hid (HG.out.trans hg13)
        have HO3 := Lib.hid (own_parser HOW.out hg13 hbw)
        have hK3 := toks_grown HK.out HG3.out HFAR.out
        have C3 := Lib.hid (HH.out (j + 1) dd b _ hP3 hK3 HFAR.out hjn (by have := HF.out.1; omega) (by have := HF.out.2.2.2.1; omega) (At8.no (by omega)) (by omega))
        have hs3 := HG3.out.size
        generalize u4.setCell ⟨b, 1, none⟩ (.int .i64 ((j : Int) + 1)) = w3 at *
        clear hP3 hK3 hg13 HP2 HPR HG HOW p1 cf
        refine C3.out.mono ?_
        rintro e w4 ⟨v2, l2, j2, dd2, x2, rfl, hown2, hbd2, hPr2, hg2, hc2⟩
        have HOW4 := Lib.hid (own_parser HO3.out hg2 hbw)
        have hg4 := HG3.out.trans hg2
        have hs4 := hg4.size
        obtain ⟨a1, c1, rfl, q1, qc1, qm1, qn1, qx1⟩ := own_nodes HOW4.out rfl
        obtain ⟨a2, c2, rfl, q2, qc2, qm2, qn2, qx2⟩ := own_nodes hown2 rfl
        have CJ := Lib.hid (pjoin8_any a1 l.length c1 l a2 l2.length c2 l2 8 w4 q1 qn1 (by have := HF.out.2.2.2.2.2.2.2.1; have := hT.le; omega) q2 qn2 (by have := hbd2.1; have := hT.le; omega))
        have HREST := Lib.hid (And.intro hPr2 (And.intro hg4 (And.intro hbd2 hc2)))
        clear C3 hown2 hPr2 hg2 hc2 hg4 hbd2 HO3 HG3 HOW4 q1 q2 qx1 qx2 qn1 qn2
        go_wp2_with fail
        refine CJ.out.mono ?_
        rintro e w5 ⟨v3, rfl, hown3, hb9⟩
        obtain ⟨hPr2, hg4, hbd2, hc2⟩ := HREST.out
        obtain ⟨f1, f2, f3, f4, f5, f6, f7, f8⟩ := HF.out
        obtain ⟨k1, k2⟩ := LpRel.step (op := 8) hT (by omega) hjn (by have := HF.out.1; omega) hbd2 (hPr2.below hb9 hPr2.lt) (hg4.trans (grown_below hb9 _)) (own_mono hown3 (by omega)) f1 f2 f3 f4 f5 f6 f7 hc2
        have K1 := Lib.hid k1
        have K2 := Lib.hid (And.intro HPM.out (And.intro (prM_eq (len := len) (hPr2.below hb9 hPr2.lt)) k2))
        clear hPr2 hg4 hbd2 hc2 f1 f2 f3 f4 f5 f6 f7 f8 k1 k2 hown3 hb9 CJ
        go_wp2_with fail
        go_roundw
        case rel => exact K1
        case measure =>
          obtain ⟨m1, m2, m3⟩ := K2.out
          rw [m1, m2]
          exact m3
      have cmodS0 : symT (tkA ts j) modS = false := by simpa using cmodS1
      clear cmodS1
      have hno : ∀ S, (S = mulS ∨ S = divS ∨ S = modS) → isS 0 (tkA ts j) 5 S = false := by
        rintro S h
        rcases h with rfl | rfl | rfl
        · exact (isS_sym _ _).trans cmulS0
        · exact (isS_sym _ _).trans cdivS0
        · exact (isS_sym _ _).trans cmodS0
      have hO : (0 : Int) = 0 → binO 6 (tkA ts j) = none := by intro _; unfold binO; simp [cmulS0, cdivS0, cmodS0]
      clear cmulS0 cdivS0 cmodS0
      have HImulS0 := Lib.hid (hno mulS (by simp))
      have HIdivS0 := Lib.hid (hno divS (by simp))
      have HImodS0 := Lib.hid (hno modS (by simp))
      have FIN := FINI hno hO
      clear hrel hown hbd hPr hg hc hO hKr hno FINI
      go_wp2_with fail
      refine (CI.out _ false HImulS0.out _ (Below.refl _ _)).mono ?_
      rintro e u0 ⟨rfl, hb0⟩
      have HB0 := Lib.hid hb0
      clear hb0
      go_wp2_with fail
      refine (CI.out _ false HIdivS0.out _ HB0.out).mono ?_
      rintro e u1 ⟨rfl, hb1⟩
      have HB1 := Lib.hid (HB0.out.trans (hb1.mono HB0.out.size))
      clear hb1
      go_wp2_with fail
      refine (CI.out _ false HImodS0.out _ HB1.out).mono ?_
      rintro e u2 ⟨rfl, hb2⟩
      have HB2 := Lib.hid (HB1.out.trans (hb2.mono HB1.out.size))
      clear hb2
      have F := Lib.hid (FIN.out trivial u2 HB2.out)
      clear FIN CI
      go_wp2_with fail
      go_ret
      exact F.out
    · have hno : ∀ S, (S = mulS ∨ S = divS ∨ S = modS) → isS x (tkA ts j) 5 S = false := fun S _ => isS_bad hx _ _ _
      have hO : x = 0 → binO 6 (tkA ts j) = none := fun h => absurd h hx
      have HImulS0 := Lib.hid (hno mulS (by simp))
      have HIdivS0 := Lib.hid (hno divS (by simp))
      have HImodS0 := Lib.hid (hno modS (by simp))
      have FIN := FINI hno hO
      clear hrel hown hbd hPr hg hc hO hKr hno FINI
      go_wp2_with fail
      refine (CI.out _ false HImulS0.out _ (Below.refl _ _)).mono ?_
      rintro e u0 ⟨rfl, hb0⟩
      have HB0 := Lib.hid hb0
      clear hb0
      go_wp2_with fail
      refine (CI.out _ false HIdivS0.out _ HB0.out).mono ?_
      rintro e u1 ⟨rfl, hb1⟩
      have HB1 := Lib.hid (HB0.out.trans (hb1.mono HB0.out.size))
      clear hb1
      go_wp2_with fail
      refine (CI.out _ false HImodS0.out _ HB1.out).mono ?_
      rintro e u2 ⟨rfl, hb2⟩
      have HB2 := Lib.hid (HB1.out.trans (hb2.mono HB1.out.size))
      clear hb2
      have F := Lib.hid (FIN.out trivial u2 HB2.out)
      clear FIN CI
      go_wp2_with fail
      go_ret
      exact F.out


end Go.Proofs.YtmdpjahhhfajaaaGreatDoor
