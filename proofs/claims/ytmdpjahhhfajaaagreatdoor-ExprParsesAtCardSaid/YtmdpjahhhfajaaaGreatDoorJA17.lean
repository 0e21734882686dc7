/-
  The reference's parser: unary. · The reference's parser: day.
-/
import Derived.Test.YtmdpjahhhfajaaaGreatDoorJA16
set_option linter.unusedVariables false
set_option linter.unusedSimpArgs false
set_option maxRecDepth 100000
namespace Go.Proofs.YtmdpjahhhfajaaaGreatDoor
open Go.RowKit Wh

/-- Nodes that have just been made. -/
theorem RdP.made {w w' : World} {b : Nat} {sl : Value} {len i d j : Nat} {P : PO} {v : Value} {l : List Nd} (hown : w'.ownsRow w.heap.size 53 6 v l.length (nodesL l)) (hl : l.length ≤ len - i) (hP : Pr w' b sl j d 0) (hj : j < len) (hd : d ≤ 300) (hg : w.grownBy w' (some b)) (hR : P = .ok l j) :
    RdP w b sl len i d P (.returned v) w' :=
  ⟨v, l, j, d, 0, rfl, hown, ⟨hl, hj, hd⟩, hP, hg, .inl ⟨rfl, hR, rfl⟩⟩
theorem deepE_three (d : Nat) : deepE d 3 = 3 := by unfold deepE; rw [if_neg (fun h => by exact absurd h.1 (by decide))]

set_option maxHeartbeats 8000000 in
theorem punary_step {ts : List TA} {a : Option Addr} {len cap f : Nat} (hT : TkH ts a len) (H7 : Reads8 ts a len cap f 7 224) (H8 : Reads8 ts a len cap f 8 230) : Reads8 ts a len cap (f + 1) 7 224 := by
  intro i d b w hP hK hfar hi hm hd h8 h88
  have hbw := hP.lt
  have hil : i < 100000 := by have := hT.le; omega
  obtain ⟨R, hR⟩ : ∃ R, prT ts (f + 1) 7 i d = R := ⟨_, rfl⟩
  rw [hR]
  rw [prT, if_neg (by decide), if_neg (by decide), if_pos rfl] at hR
  have p0 := hP.c3
  have CB := Lib.hid (pbegins_any b a len cap ts i d 0 w hP hK hT.one (by have := hT.le; omega) (by omega) (tkA ts i) (tkA ts (i + 1)) (hT.get i) (hT.get (i + 1)))
  rw [begB0] at CB
  have CF := Lib.hid (fun W (h : Below w.heap.size w W) => pfail_any b (.slice a len cap) i d 0 3 W (hP.below h hP.lt))
  have CD := Lib.hid (fun x W (h : Pr W b (.slice a len cap) i d x) => pdeep_any b (.slice a len cap) i d x W h)
  have CM := Lib.hid (fun q (hq : symT (tkA ts i) minS = q) W (h : w.grownBy W (some b)) (hP' : Pr W b (.slice a len cap) i d 0) => show Calls Tryz.prog 168 #[ptr b, .string minS] W fun e w' => e = .returned (.bool q) ∧ Below W.heap.size W w' from by
    have := pis_any b a len cap ts i d 0 minS W hP' (toks_grown hK h hfar) hT.one (by have := hT.le; omega) (by omega) (tkA ts i) (hT.get i)
    rwa [isS_sym, hq] at this)
  by_cases cb : begT (tkA ts i) (tkA ts (i + 1)) = false
  · rw [if_pos cb] at hR
    subst hR
    rw [cb] at CB
    have HPP := Lib.hid hP
    clear H7 H8 CM hP hK hfar cb
    go_enter Tryz.func224, Tryz.ntmps224
    go_wp2_with fail
    refine CB.out.mono ?_
    rintro e w1 ⟨rfl, hb1⟩
    have CF1 := Lib.hid (CF.out w1 hb1)
    have HB1 := Lib.hid hb1
    clear hb1 CB CF
    go_wp2_with fail
    refine CF1.out.mono ?_
    rintro e w2 ⟨rfl, hP2, hg2⟩
    simp only [if_true] at hP2
    have CD2 := Lib.hid (CD.out 3 w2 hP2)
    rw [deepE_three] at CD2
    have HG2 := Lib.hid ((grown_below HB1.out (some b)).trans hg2)
    clear hP2 hg2 CF1 CD HB1
    go_wp2_with fail
    refine CD2.out.mono ?_
    rintro e w3 ⟨rfl, hP3, hg3⟩
    have F := Lib.hid (RdP.nil (w := w) (len := len) (i := i) hP3 (by decide) rfl hi (Nat.le_refl _) (by omega) (HG2.out.trans hg3))
    clear hP3 hg3 CD2 HG2
    go_wp2_with fail
    go_ret
    exact F.out
  rw [if_neg cb] at hR
  have cb1 : begT (tkA ts i) (tkA ts (i + 1)) = true := by simpa using cb
  rw [cb1] at CB
  by_cases hdd : 256 < d
  · rw [if_pos hdd] at hR
    subst hR
    have HD := Lib.hid (deepE_hi hdd)
    have HPP := Lib.hid hP
    clear H7 H8 CM hP hK hfar cb cb1 CF
    go_enter Tryz.func224, Tryz.ntmps224
    go_wp2_with fail
    refine CB.out.mono ?_
    rintro e w1 ⟨rfl, hb1⟩
    have CD2 := Lib.hid (CD.out 0 w1 (HPP.out.below hb1 HPP.out.lt))
    rw [HD.out] at CD2
    have HB1 := Lib.hid hb1
    clear hb1 CB CD
    go_wp2_with fail
    refine CD2.out.mono ?_
    rintro e w3 ⟨rfl, hP3, hg3⟩
    have F := Lib.hid (RdP.nil (w := w) (len := len) (i := i) hP3 (by decide) rfl hi (Nat.le_refl _) (by omega) ((grown_below HB1.out (some b)).trans hg3))
    clear hP3 hg3 CD2 HB1
    go_wp2_with fail
    go_ret
    exact F.out
  rw [if_neg hdd] at hR
  have HD := Lib.hid (deepE_lo hdd)
  by_cases cm : symT (tkA ts i) minS = true
  · rw [if_pos cm] at hR
    have hin := hT.next hi (by rw [(symT_k cm).1]; decide)
    have CM1 := Lib.hid (CM.out true cm)
    have CP := Lib.hid (fun W (h : w.grownBy W (some b)) (hP' : Pr W b (.slice a len cap) i d 0) => ppeek_any b a len cap ts i d 1 0 W hP' (toks_grown hK h hfar) hT.one (by have := hT.le; omega) (by omega) (by omega) (tkA ts (i + 1)) (hT.get (i + 1)))
    have HN2 := Lib.hid (hT.nm (i + 1) hin)
    by_cases k2 : (tkA ts (i + 1)).1.k = 2
    · rw [if_pos k2] at hR
      have hin2 := hT.next hin (by omega)
      obtain ⟨nb0, nb1⟩ := HN2.out k2
      obtain ⟨⟨⟨kk, tx, nm⟩, pp⟩, hu⟩ : ∃ t, tkA ts (i + 1) = t := ⟨_, rfl⟩
      rw [hu] at CP hR k2 nb0 nb1
      simp only at k2 nb0 nb1 hR
      subst k2
      unfold tokV at CP
      simp only at CP
      have HPP := Lib.hid hP
      have HRR := Lib.hid hR
      have CC := Lib.hid (fun W => pconst_any 2 (-nm) ⟨#[]⟩ W)
      clear H7 H8 hP hK hfar cb cb1 CF cm CM HN2 hu hR
      go_enter Tryz.func224, Tryz.ntmps224
      go_wp2_with fail
      refine CB.out.mono ?_
      rintro e w1 ⟨rfl, hb1⟩
      have CD2 := Lib.hid (CD.out 0 w1 (HPP.out.below hb1 HPP.out.lt))
      rw [HD.out] at CD2
      have HB1 := Lib.hid hb1
      clear hb1 CB CD
      go_wp2_with fail
      refine CD2.out.mono ?_
      rintro e w2 ⟨rfl, hP2, hg2⟩
      have hgw2 := (grown_below HB1.out (some b)).trans hg2
      have CM2 := Lib.hid (CM1.out w2 hgw2 hP2)
      have HP2 := Lib.hid hP2
      have HG2 := Lib.hid hgw2
      clear hP2 hg2 hgw2 CD2 HB1 CM1
      go_wp2_with fail
      refine CM2.out.mono ?_
      rintro e w3 ⟨rfl, hb3⟩
      have hP3 := HP2.out.below hb3 HP2.out.lt
      have hg3 := HG2.out.trans (grown_below hb3 (some b))
      have CP3 := Lib.hid (CP.out w3 hg3 hP3)
      have HP3 := Lib.hid hP3
      have HG3 := Lib.hid hg3
      clear hP3 hg3 hb3 CM2 CP
      go_wp2_with fail
      refine CP3.out.mono ?_
      rintro e w4 ⟨rfl, hb4⟩
      have hB4 := hb4.alloc hb4.size (.cells #[.int .i64 2, .string tx, .int .i64 nm, .int .i64 pp] 71)
      have hP4 := HP3.out.below hB4 HP3.out.lt
      have q1 := hP4.c1
      have qf := hP4.free
      have HP4 := Lib.hid hP4
      have HG4 := Lib.hid (HG3.out.trans (grown_below hB4 (some b)))
      have hX := Box4.new w4 (.int .i64 2) (.string tx) (.int .i64 nm) (.int .i64 pp) 71
      have x0 := hX.c0
      have hne : b ≠ w4.heap.size := by have := HP3.out.lt; have := hb4.size; omega
      have x2 := (hX.far (a := ⟨b, 1, none⟩) (v := .int .i64 ((i : Int) + 2)) (by simpa using hne.symm)).c2
      clear hP4 hB4 hb4 CP3 hX
      go_wp2_with fail
      refine (CC.out _).mono ?_
      rintro e w5 ⟨v5, rfl, hown5, hb5⟩
      have hP5 := Pr.inc1b HP4.out
      have hg5 := HG4.out.trans (grown_set (w4.alloc (.cells #[.int .i64 2, .string tx, .int .i64 nm, .int .i64 pp] 71)) b 1 (.int .i64 ((i : Int) + 2)))
      have F := Lib.hid (RdP.made (w := w) (len := len) (i := i) (P := R) (l := [cstN 2 (-nm) ⟨#[]⟩]) (own_mono hown5 hg5.size) (by simp; omega) (hP5.below hb5 hP5.lt) hin2 (by omega) (hg5.trans (grown_below hb5 _)) HRR.out.symm)
      clear hP5 hg5 hown5 hb5
      go_wp2_with fail
      go_ret
      exact F.out
    · rw [if_neg k2] at hR
      have hR2 : R = seqP (prT ts f 7 (i + 1) (d + 1)) fun e j => .ok (e ++ [opN 3]) j := by rw [← hR]; rfl
      have HRR := Lib.hid hR2
      have HH := Lib.hid (fun W (hP' : Pr W b (.slice a len cap) (i + 1) (d + 1) 0) (hg : w.grownBy W (some b)) => H7 (i + 1) (d + 1) b W hP' (toks_grown hK hg hfar) hfar hin (by omega) (by omega) (At8.no (by omega)) (by omega))
      obtain ⟨⟨⟨kk, tx, nm⟩, pp⟩, hu⟩ : ∃ t, tkA ts (i + 1) = t := ⟨_, rfl⟩
      rw [hu] at CP k2
      simp only at k2
      unfold tokV at CP
      simp only at CP
      have HPP := Lib.hid hP
      have hkb : (kk == 2) = false := by simpa using k2
      clear H7 H8 hP hK hfar cb cb1 CF cm CM HN2 hu hR hR2
      go_enter Tryz.func224, Tryz.ntmps224
      go_wp2_with fail
      refine CB.out.mono ?_
      rintro e w1 ⟨rfl, hb1⟩
      have CD2 := Lib.hid (CD.out 0 w1 (HPP.out.below hb1 HPP.out.lt))
      rw [HD.out] at CD2
      have HB1 := Lib.hid hb1
      clear hb1 CB CD
      go_wp2_with fail
      refine CD2.out.mono ?_
      rintro e w2 ⟨rfl, hP2, hg2⟩
      have hgw2 := (grown_below HB1.out (some b)).trans hg2
      have CM2 := Lib.hid (CM1.out w2 hgw2 hP2)
      have HP2 := Lib.hid hP2
      have HG2 := Lib.hid hgw2
      clear hP2 hg2 hgw2 CD2 HB1 CM1
      go_wp2_with fail
      refine CM2.out.mono ?_
      rintro e w3 ⟨rfl, hb3⟩
      have hP3 := HP2.out.below hb3 HP2.out.lt
      have hg3 := HG2.out.trans (grown_below hb3 (some b))
      have CP3 := Lib.hid (CP.out w3 hg3 hP3)
      have HP3 := Lib.hid hP3
      have HG3 := Lib.hid hg3
      clear hP3 hg3 hb3 CM2 CP
      go_wp2_with fail
      refine CP3.out.mono ?_
      rintro e w4 ⟨rfl, hb4⟩
      have hB4 := hb4.alloc hb4.size (.cells #[.int .i64 kk, .string tx, .int .i64 nm, .int .i64 pp] 71)
      have hP4 := HP3.out.below hB4 HP3.out.lt
      have q1 := hP4.c1
      have q2 := hP4.c2
      have qf := hP4.free
      have hX := Box4.new w4 (.int .i64 kk) (.string tx) (.int .i64 nm) (.int .i64 pp) 71
      have x0 := hX.c0
      have hP5 := Pr.inc2 (Pr.inc1 hP4)
      have hg5 := ((HG3.out.trans (grown_below hB4 (some b))).trans (grown_set _ b 1 (.int .i64 ((i : Int) + 1)))).trans (grown_set _ b 2 (.int .i64 ((d : Int) + 1)))
      have C5 := Lib.hid (HH.out _ hP5 hg5)
      have HG5 := Lib.hid hg5
      have hs5 := hg5.size
      clear hP4 hB4 hb4 CP3 hX HH hP5 hg5
      go_wp2_with fail
      generalize ((w4.alloc (.cells #[.int .i64 kk, .string tx, .int .i64 nm, .int .i64 pp] 71)).setCell ⟨b, 1, none⟩ (.int .i64 ((i : Int) + 1))).setCell ⟨b, 2, none⟩ (.int .i64 ((d : Int) + 1)) = w5 at *
      clear x0 q1 q2 qf
      refine C5.out.mono ?_
      rintro e w6 ⟨v, l, j, dd, x, rfl, hown, hbd, hP4, hg4, hc⟩
      have hdd1 : 1 ≤ dd := by rcases hc with ⟨_, _, h⟩ | ⟨_, _, h⟩ <;> omega
      have hdd3 := hbd.2.2
      have hg4' := HG5.out.trans hg4
      have HP4 := Lib.hid hP4
      have HOW := Lib.hid (own_mono hown hs5)
      have hs4 := hg4'.size
      have HR := Lib.hid (And.intro hg4' (And.intro hbd hc))
      have q1 := hP4.c1
      have q2 := hP4.c2
      have qf := hP4.free
      clear C5 hown hP4 hg4 hg4' hc hbd HG5
      have HP5 := Lib.hid (Pr.dec2 HP4.out hdd1)
      have hg5 := grown_set w6 b 2 (.int .i64 ((dd : Int) - 1))
      have HG5 := Lib.hid (HR.out.1.trans hg5)
      have hs5 := HG5.out.size
      have HO5 := Lib.hid (own_parser HOW.out hg5 hbw)
      have hll : l.length ≤ 100000 := by have := HR.out.2.1.1; have := hT.le; omega
      clear hg5
      have HL := Lib.hid (lit_node_set w6 b 2 (.int .i64 ((dd : Int) - 1)) (opN 3))
      go_wp2_with (at_builtin; refine wpList_app rfl (.tmp 64) (.tmp 66) rfl rfl rfl (HO5.out.alloc _) (by simp; omega) HL.out (fun h => by cases h) (by omega) (by omega) ?_)
      intro v5 w7 ho5 hg5
      obtain ⟨k1, k2⟩ := app_keeps HP5.out HG5.out hbw HO5.out hg5
      have F := Lib.hid (RdP.push (t := opN 3) HR.out.2.1 (Nat.lt_succ_self i) (by omega) hi k1 k2 ho5 HR.out.2.2 HRR.out)
      clear k1 k2 ho5 hg5 HP5 HG5 HO5 HL HR HOW HP4 q1 q2 qf
      go_wp2_with fail
      go_ret
      exact F.out
  · rw [if_neg cm] at hR
    have cm0 : symT (tkA ts i) minS = false := by simpa using cm
    have CM0 := Lib.hid (CM.out false cm0)
    have HH := Lib.hid (fun W (hP' : Pr W b (.slice a len cap) i d 0) (hg : w.grownBy W (some b)) => H8 i d b W hP' (toks_grown hK hg hfar) hfar hi (by omega) hd (fun _ => ⟨cb1, cm0⟩) (fun _ => by omega))
    rw [hR] at HH
    have HPP := Lib.hid hP
    clear H7 H8 hP hK hfar cb cb1 CF cm cm0 CM hR
    go_enter Tryz.func224, Tryz.ntmps224
    go_wp2_with fail
    refine CB.out.mono ?_
    rintro e w1 ⟨rfl, hb1⟩
    have CD2 := Lib.hid (CD.out 0 w1 (HPP.out.below hb1 HPP.out.lt))
    rw [HD.out] at CD2
    have HB1 := Lib.hid hb1
    clear hb1 CB CD
    go_wp2_with fail
    refine CD2.out.mono ?_
    rintro e w2 ⟨rfl, hP2, hg2⟩
    have hgw2 := (grown_below HB1.out (some b)).trans hg2
    have CM2 := Lib.hid (CM0.out w2 hgw2 hP2)
    have HP2 := Lib.hid hP2
    have HG2 := Lib.hid hgw2
    clear hP2 hg2 hgw2 CD2 HB1 CM0
    go_wp2_with fail
    refine CM2.out.mono ?_
    rintro e w3 ⟨rfl, hb3⟩
    have hP3 := HP2.out.below hb3 HP2.out.lt
    have hg3 := HG2.out.trans (grown_below hb3 (some b))
    have C3 := Lib.hid (HH.out w3 hP3 hg3)
    have HG3 := Lib.hid hg3
    clear hP3 hg3 hb3 CM2 HH
    go_wp2_with fail
    refine C3.out.mono ?_
    intro e w4 hr
    have hr2 := hr.from HG3.out
    obtain ⟨v, rfl⟩ := hr2.ret
    have F := Lib.hid hr2
    clear hr hr2 C3
    go_wp2_with fail
    go_ret
    exact F.out

end Go.Proofs.YtmdpjahhhfajaaaGreatDoor
set_option linter.unusedVariables false
set_option linter.unusedSimpArgs false
set_option maxRecDepth 100000
namespace Go.Proofs.YtmdpjahhhfajaaaGreatDoor
open Go.RowKit Wh

theorem bne0 {x : Int} (h : ¬ x = 0) : (x == 0) = false := by simpa using h

set_option maxHeartbeats 8000000 in
theorem pday_any {ts : List TA} {a : Option Addr} {len cap f : Nat} (hT : TkH ts a len) (H0 : Reads8 ts a len cap f 0 32) (i d b : Nat) (w : World) (hP : Pr w b (.slice a len cap) i (d + 1) 0) (hK : IsToks w a len ts) (hfar : ∀ x, a = some x → x.block ≠ b) (hi : i < len) (hm : 9 * (len - i) + 8 < f) (hd : d ≤ 256) :
    Calls Tryz.prog 235 #[ptr b] w (RdP w b (.slice a len cap) len i d (seqP (prT ts f 0 i (d + 1)) (dayT ts))) := by
  have hbw := hP.lt
  obtain ⟨R, hR⟩ : ∃ R, seqP (prT ts f 0 i (d + 1)) (dayT ts) = R := ⟨_, rfl⟩
  rw [hR]
  have hG := pr_gd hT.el f 0 i (d + 1) (by omega) (by rw [hT.ln]; exact hi) (by rw [hT.ln]; omega) (At8.no (by omega))
  have C := Lib.hid (H0 i (d + 1) b w hP hK hfar hi (by omega) (by omega) (At8.no (by omega)) (by omega))
  have CT := Lib.hid (fun S j dd x W (hj : j < len) (hP' : Pr W b (.slice a len cap) j dd x) (hg : w.grownBy W (some b)) => ptake_any b a len cap ts j dd x S W hP' (toks_grown hK hg hfar) hT.one (by have := hT.le; omega) (by have := hT.le; omega) (tkA ts j) (hT.get j))
  have CP := Lib.hid (fun j dd x W (hj : j < len) (hP' : Pr W b (.slice a len cap) j dd x) (hg : w.grownBy W (some b)) => ppeek_any b a len cap ts j dd 0 x W hP' (toks_grown hK hg hfar) hT.one (by have := hT.le; omega) (by have := hT.le; omega) (by omega) (tkA ts j) (by rw [Nat.add_zero]; exact hT.get j))
  have CF := Lib.hid (fun j dd x W (hP' : Pr W b (.slice a len cap) j dd x) => pfail_any b (.slice a len cap) j dd x 3 W hP')
  have HRR := Lib.hid hR
  have HGD := Lib.hid hG
  clear hP hK hfar H0 hR hG
  go_enter Tryz.func235, Tryz.ntmps235
  go_wp2_with fail
  refine C.out.mono ?_
  rintro e w1 ⟨v, l, j, dd, x, rfl, hown, hbd, hP1, hg1, hc⟩
  have hs1 := hg1.size
  have hj := hbd.2.1
  have hjb : j < 100000 := by have := hT.le; omega
  by_cases hok : x = 0 ∧ symT (tkA ts j) comS = true
  · obtain ⟨rfl, hco⟩ := hok
    rcases hc with ⟨_, hc1, hc2⟩ | ⟨hx, _⟩
    rotate_left
    · exact absurd rfl hx
    subst hc2
    have hg := HGD.out
    rw [hc1] at hg
    obtain ⟨g1, g2, g3, g4, _⟩ := hg
    have hn1 := hT.next hj (by rw [(symT_k hco).1]; decide)
    have CT1 := Lib.hid (CT.out comS j (d + 1) 0 w1 hj hP1 hg1)
    rw [isS_sym, hco, if_pos rfl, if_pos rfl] at CT1
    have hR := HRR.out
    rw [hc1, seqP_ok] at hR
    unfold dayT at hR
    rw [hco, if_neg (by simp)] at hR
    have HR := Lib.hid hR
    have HOW := Lib.hid hown
    have HG1 := Lib.hid hg1
    clear hR hco hown hc1 hP1 hg1 C HRR HGD
    go_wp2_with fail
    refine CT1.out.mono ?_
    rintro e w2 ⟨rfl, hP2, hg2⟩
    have hG2 := HG1.out.trans hg2
    have HO2 := Lib.hid (own_parser HOW.out hg2 hbw)
    have CP2 := Lib.hid (CP.out (j + 1) (d + 1) 0 w2 hn1 hP2 hG2)
    have HP2 := Lib.hid hP2
    have HG2 := Lib.hid hG2
    obtain ⟨⟨⟨kk, tx, nm⟩, pp⟩, hu⟩ : ∃ t, tkA ts (j + 1) = t := ⟨_, rfl⟩
    have hn2 := Lib.hid (fun (h : ¬ kk = 0) => hT.next hn1 (by rw [hu]; exact h))
    have hR := HR.out
    rw [hu] at CP2 hR
    unfold tokV at CP2
    simp only at CP2 hR
    have HR2 := Lib.hid hR
    clear hP2 hg2 hG2 CT1 CP hu HR hR HOW HG1
    go_wp2_with fail
    refine CP2.out.mono ?_
    rintro e w3 ⟨rfl, hb3⟩
    have hB3 := hb3.alloc hb3.size (.cells #[.int .i64 kk, .string tx, .int .i64 nm, .int .i64 pp] 71)
    have hP3 := HP2.out.below hB3 HP2.out.lt
    have p3 := hP3.c3
    have hX := Box4.new w3 (.int .i64 kk) (.string tx) (.int .i64 nm) (.int .i64 pp) 71
    have x0 := hX.c0
    have x1 := hX.c1
    have HX := Lib.hid hX
    have HP3 := Lib.hid hP3
    have HG3 := Lib.hid (HG2.out.trans (grown_below hB3 (some b)))
    have HO3 := Lib.hid (own_below HO2.out hB3)
    have CR := Lib.hid (fun W => rreserved_any tx W)
    have hne : ¬ w3.heap.size = b := by have := HP2.out.lt; have := hb3.size; omega
    clear hP3 hB3 hb3 CP2 HP2 HG2 HO2 hX
    by_cases hbad : ¬ kk = 1 ∨ resB tx = true
    · have hR := HR2.out
      rw [if_pos hbad] at hR
      have HR3 := Lib.hid hR
      clear HR2 hR hn2
      by_cases hk1 : kk = 1
      · subst hk1
        have hres : resB tx = true := by
          rcases hbad with h | h
          · exact absurd rfl h
          · exact h
        rw [hres] at CR
        clear hbad hres
        go_wp2_with fail
        refine (CR.out _).mono ?_
        rintro e w4 ⟨rfl, hb4⟩
        have CF4 := Lib.hid (CF.out (j + 1) (d + 1) 0 w4 (HP3.out.below hb4 HP3.out.lt))
        have HG4 := Lib.hid (HG3.out.trans (grown_below hb4 (some b)))
        clear hb4 CR CF x0 x1 p3 HX HP3 HG3
        go_wp2_with fail
        refine CF4.out.mono ?_
        rintro e w5 ⟨rfl, hP5, hg5⟩
        simp only [if_true] at hP5
        have F := Lib.hid (RdP.nil (w := w) (len := len) (i := i) (d := d) hP5 (by decide) HR3.out.symm hn1 (by omega) (by omega) (HG4.out.trans hg5))
        clear hP5 hg5 CF4 HG4 HR3
        go_wp2_with fail
        go_ret
        exact F.out
      · have hkb : (kk == 1) = false := by simpa using hk1
        have CF4 := Lib.hid (CF.out (j + 1) (d + 1) 0 _ HP3.out)
        clear hbad CR CF
        go_wp2_with fail
        refine CF4.out.mono ?_
        rintro e w5 ⟨rfl, hP5, hg5⟩
        simp only [if_true] at hP5
        have F := Lib.hid (RdP.nil (w := w) (len := len) (i := i) (d := d) hP5 (by decide) HR3.out.symm hn1 (by omega) (by omega) (HG3.out.trans hg5))
        clear hP5 hg5 CF4 HG3 HR3 x0 x1 p3 HX HP3
        go_wp2_with fail
        go_ret
        exact F.out
    · have hk1 : kk = 1 := by
        by_cases h : kk = 1
        · exact h
        · exact absurd (.inl h) hbad
      subst hk1
      have hres : resB tx = false := by
        cases h : resB tx with
        | false => rfl
        | true => exact absurd (.inr h) hbad
      have hn2 := hn2.out (by decide)
      have hR := HR2.out
      rw [if_neg hbad] at hR
      have HR3 := Lib.hid hR
      rw [hres] at CR
      clear hbad hres HR2 hR
      go_wp2_with fail
      refine (CR.out _).mono ?_
      rintro e w4 ⟨rfl, hb4⟩
      have hP4 := HP3.out.below hb4 HP3.out.lt
      have q1 := hP4.c1
      have qf := hP4.free
      have HP4 := Lib.hid hP4
      have HX4 := Lib.hid (HX.out.below hb4 HX.out.lt)
      have hP5 : Pr (w4.setCell ⟨b, 1, none⟩ (.int .i64 (((j + 1 : Nat) : Int) + 1))) b (.slice a len cap) (j + 2) (d + 1) 0 := Pr.inc1 hP4
      have hg45 := (grown_below hb4 (some b)).trans (grown_set w4 b 1 (.int .i64 (((j + 1 : Nat) : Int) + 1)))
      have hG5 := HG3.out.trans hg45
      have HO5 := Lib.hid (own_parser HO3.out hg45 hbw)
      have hX5 := HX4.out.far (a := ⟨b, 1, none⟩) (v := .int .i64 (((j + 1 : Nat) : Int) + 1)) (by simpa using hne)
      have hcast : ((j + 1 : Nat) : Int) = (j : Int) + 1 := by omega
      have hcast2 : ((j + 1 : Nat) : Int) = (j : Int) + 1 := by omega
      have CT5 := Lib.hid (CT.out clsS (j + 2) (d + 1) 0 _ hn2 hP5 hG5)
      have HG5 := Lib.hid hG5
      have HP5 := Lib.hid hP5
      have x1' := hX5.c1
      rw [hcast] at CT5 HG5 HO5 x1' HP5
      rw [hcast2] at q1
      have HX5 := Lib.hid hX5
      rw [hcast] at HX5
      have hs5 := HG5.out.size
      clear hb4 CR CT CF x0 x1 p3 HX HP3 HG3 HX4 hP4 hP5 hg45 hG5 HO3 hX5 hcast hcast2
      go_wp2_with fail
      generalize w4.setCell ⟨b, 1, none⟩ (.int .i64 ((j : Int) + 1 + 1)) = w5 at *
      clear q1 qf
      cases hsc : symT (tkA ts (j + 2)) clsS with
      | true =>
        have hR := HR3.out
        rw [hsc, if_neg (by simp)] at hR
        have HR4 := Lib.hid hR
        rw [isS_sym, hsc, if_pos rfl, if_pos rfl] at CT5
        have hn3 := hT.next hn2 (by rw [(symT_k hsc).1]; decide)
        clear HR3 hR hsc
        refine CT5.out.mono ?_
        rintro e w6 ⟨rfl, hP6, hg6⟩
        have HO6 := Lib.hid (own_parser HO5.out hg6 hbw)
        have hX6 := HX5.out.grown hg6 (fun hc => hne (by cases hc; rfl))
        have y1 := hX6.c1
        have q2 := hP6.c2
        have qf := hP6.free
        have HP6 := Lib.hid hP6
        have HG6 := Lib.hid (HG5.out.trans hg6)
        have HP7 := Lib.hid (Pr.dec2 hP6 (by omega))
        have hg7 := grown_set w6 b 2 (.int .i64 (((d + 1 : Nat) : Int) - 1))
        have HO7 := Lib.hid (own_parser HO6.out hg7 hbw)
        have HG7 := Lib.hid (HG6.out.trans hg7)
        have hX7 := hX6.far (a := ⟨b, 2, none⟩) (v := .int .i64 (((d + 1 : Nat) : Int) - 1)) (by simpa using hne)
        have y2 := hX7.c1
        have HL := Lib.hid (lit_node_set w6 b 2 (.int .i64 (((d + 1 : Nat) : Int) - 1)) ⟨20, ⟨0, 0, ⟨#[]⟩⟩, tx, 0⟩)
        have hcast3 : ((d + 1 : Nat) : Int) - 1 = (d : Int) := by omega
        have hcast4 : ((d + 1 : Nat) : Int) = (d : Int) + 1 := by omega
        rw [hcast3] at HO7 HG7 y2 HL HP7
        rw [hcast4] at q2
        have hs6 := HG6.out.size
        have hll : l.length ≤ 100000 := by have := hbd.1; have := hT.le; omega
        clear hP6 hg6 CT5 HP5 HX5 HG5 HO5 hX6 hg7 hX7 hcast3 hcast4 x1'
        go_wp2_with (at_builtin; refine wpList_app rfl (.tmp 44) (.tmp 48) rfl rfl rfl (HO7.out.alloc _) (by simp; omega) HL.out (fun h => by cases h) (by omega) (by omega) ?_)
        intro v7 w7 ho7 hg7
        obtain ⟨k1, k2⟩ := app_keeps HP7.out HG7.out hbw HO7.out hg7
        have F := Lib.hid (RdP.made (w := w) (len := len) (i := i) (P := R) (l := l ++ [⟨20, ⟨0, 0, ⟨#[]⟩⟩, tx, 0⟩]) (by rw [show (l ++ [(⟨20, ⟨0, 0, ⟨#[]⟩⟩, tx, 0⟩ : Nd)]).length = l.length + 1 by simp]; exact ho7) (by simp; omega) k1 hn3 (by omega) k2 HR4.out.symm)
        clear k1 k2 ho7 hg7 HP7 HG7 HO7 HL HR4 HP6 HG6 HO6 y1 y2 q2 qf
        go_wp2_with fail
        go_ret
        exact F.out
      | false =>
        have hR := HR3.out
        rw [hsc, if_pos rfl] at hR
        have HR4 := Lib.hid hR
        rw [isS_sym, hsc, if_neg (by simp), if_neg (by simp)] at CT5
        simp only [if_true] at CT5
        clear HR3 hR hsc
        refine CT5.out.mono ?_
        rintro e w6 ⟨rfl, hP6, hg6⟩
        have HO6 := Lib.hid (own_parser HO5.out hg6 hbw)
        have hX6 := HX5.out.grown hg6 (fun hc => hne (by cases hc; rfl))
        have y1 := hX6.c1
        have q2 := hP6.c2
        have qf := hP6.free
        have HP6 := Lib.hid hP6
        have HG6 := Lib.hid (HG5.out.trans hg6)
        have HP7 := Lib.hid (Pr.dec2 hP6 (by omega))
        have hg7 := grown_set w6 b 2 (.int .i64 (((d + 1 : Nat) : Int) - 1))
        have HO7 := Lib.hid (own_parser HO6.out hg7 hbw)
        have HG7 := Lib.hid (HG6.out.trans hg7)
        have hX7 := hX6.far (a := ⟨b, 2, none⟩) (v := .int .i64 (((d + 1 : Nat) : Int) - 1)) (by simpa using hne)
        have y2 := hX7.c1
        have HL := Lib.hid (lit_node_set w6 b 2 (.int .i64 (((d + 1 : Nat) : Int) - 1)) ⟨20, ⟨0, 0, ⟨#[]⟩⟩, tx, 0⟩)
        have hcast3 : ((d + 1 : Nat) : Int) - 1 = (d : Int) := by omega
        have hcast4 : ((d + 1 : Nat) : Int) = (d : Int) + 1 := by omega
        rw [hcast3] at HO7 HG7 y2 HL HP7
        rw [hcast4] at q2
        have hs6 := HG6.out.size
        have hll : l.length ≤ 100000 := by have := hbd.1; have := hT.le; omega
        clear hP6 hg6 CT5 HP5 HX5 HG5 HO5 hX6 hg7 hX7 hcast3 hcast4 x1'
        go_wp2_with (at_builtin; refine wpList_app rfl (.tmp 44) (.tmp 48) rfl rfl rfl (HO7.out.alloc _) (by simp; omega) HL.out (fun h => by cases h) (by omega) (by omega) ?_)
        intro v7 w7 ho7 hg7
        obtain ⟨k1, k2⟩ := app_keeps HP7.out HG7.out hbw HO7.out hg7
        have F := Lib.hid (show RdP w b (.slice a len cap) len i d R (.returned v7) w7 from ⟨v7, l ++ [⟨20, ⟨0, 0, ⟨#[]⟩⟩, tx, 0⟩], j + 2, d, 3, rfl, (by rw [show (l ++ [(⟨20, ⟨0, 0, ⟨#[]⟩⟩, tx, 0⟩ : Nd)]).length = l.length + 1 by simp]; exact ho7), ⟨by simp; omega, by omega, by omega⟩, k1, k2, .inr ⟨by decide, HR4.out.symm, Nat.le_refl _⟩⟩)
        clear k1 k2 ho7 hg7 HP7 HG7 HO7 HL HR4 HP6 HG6 HO6 y1 y2 q2 qf
        go_wp2_with fail
        go_ret
        exact F.out
  · have CT1 : Hid (Calls Tryz.prog 233 #[ptr b, .string comS] w1 fun e w' => e = .returned (.tuple #[]) ∧ Pr w' b (.slice a len cap) j dd (if x = 0 then 3 else x) ∧ w1.grownBy w' (some b)) := by
      have h := CT.out comS j dd x w1 hj hP1 hg1
      have hI : isS x (tkA ts j) 5 comS = false := by
        by_cases hx : x = 0
        · subst hx
          rw [isS_sym]
          cases hw : symT (tkA ts j) comS with
          | false => rfl
          | true => exact absurd ⟨rfl, hw⟩ hok
        · exact isS_bad hx _ _ _
      rw [hI, if_neg (by simp), if_neg (by simp)] at h
      exact h
    obtain ⟨y, hy⟩ : ∃ y : Int, (if x = 0 then 3 else x) = y := ⟨_, rfl⟩
    have hy0 : ¬ y = 0 := by
      rw [← hy]
      split
      · decide
      · assumption
    have HRB : Hid (R = .bad y j) := by
      show _ = _
      rw [← HRR.out]
      rcases hc with ⟨h1, h2, h3⟩ | ⟨h1, h2, h3⟩
      · rw [h2, seqP_ok, ← hy, if_pos h1]
        unfold dayT
        rw [if_pos]
        cases hw : symT (tkA ts j) comS with
        | false => rfl
        | true => exact absurd ⟨h1, hw⟩ hok
      · rw [h2, seqP_bad, ← hy, if_neg h1]
    rw [hy] at CT1
    have hdd : d ≤ dd ∧ dd ≤ 300 := by
      rcases hc with ⟨h1, h2, h3⟩ | ⟨h1, h2, h3⟩ <;> omega
    have HG1 := Lib.hid hg1
    have hyb := bne0 hy0
    clear hok hc hown hP1 hg1 C HRR HGD hy
    go_wp2_with fail
    refine CT1.out.mono ?_
    rintro e w2 ⟨rfl, hP2, hg2⟩
    have hG2 := HG1.out.trans hg2
    have CP2 := Lib.hid (CP.out j dd y w2 hj hP2 hG2)
    have HP2 := Lib.hid hP2
    have HG2 := Lib.hid hG2
    obtain ⟨⟨⟨kk, tx, nm⟩, pp⟩, hu⟩ : ∃ t, tkA ts j = t := ⟨_, rfl⟩
    rw [hu] at CP2
    unfold tokV at CP2
    simp only at CP2
    clear hP2 hg2 hG2 CT1 CP hu HG1
    go_wp2_with fail
    refine CP2.out.mono ?_
    rintro e w3 ⟨rfl, hb3⟩
    have hB3 := hb3.alloc hb3.size (.cells #[.int .i64 kk, .string tx, .int .i64 nm, .int .i64 pp] 71)
    have hP3 := HP2.out.below hB3 HP2.out.lt
    have p3 := hP3.c3
    have CF4 := Lib.hid (CF.out j dd y _ hP3)
    have HG3 := Lib.hid (HG2.out.trans (grown_below hB3 (some b)))
    clear hP3 hB3 hb3 CP2 HP2 HG2 CF
    go_wp2_with fail
    refine CF4.out.mono ?_
    rintro e w5 ⟨rfl, hP5, hg5⟩
    have hP5 : Pr w5 b (.slice a len cap) j dd y := by simpa [hy0] using hP5
    have F := Lib.hid (RdP.nil (w := w) (len := len) (i := i) (d := d) hP5 hy0 HRB.out hj (by omega) (by omega) (HG3.out.trans hg5))
    clear hP5 hg5 CF4 HG3 HRB p3
    go_wp2_with fail
    go_ret
    exact F.out

end Go.Proofs.YtmdpjahhhfajaaaGreatDoor
