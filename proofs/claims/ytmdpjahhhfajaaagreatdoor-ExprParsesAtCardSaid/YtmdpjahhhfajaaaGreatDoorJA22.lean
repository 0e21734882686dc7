/-
  The reference's parser: named, primary; all levels.
-/
import Derived.Test.YtmdpjahhhfajaaaGreatDoorJA18
import Derived.Test.YtmdpjahhhfajaaaGreatDoorJA19
import Derived.Test.YtmdpjahhhfajaaaGreatDoorJA21
set_option linter.unusedVariables false
set_option linter.unusedSimpArgs false
set_option maxRecDepth 100000
namespace Go.Proofs.YtmdpjahhhfajaaaGreatDoor
open Go.RowKit Wh

theorem eqS_lit {s t : ByteArray} {l : List UInt8} {q : Bool} (h : eqS s t = q) (hl : t.toList = l) : (s.toList == l) = q := by
  rw [← h, ← hl]
  rfl

set_option maxHeartbeats 16000000 in
theorem pnamed_any {ts : List TA} {a : Option Addr} {len cap f : Nat} (hT : TkH ts a len) (H0 : Reads8 ts a len cap f 0 32) (i d b : Nat) (w : World) (hP : Pr w b (.slice a len cap) i d 0) (hK : IsToks w a len ts) (hfar : ∀ x, a = some x → x.block ≠ b) (hi : i < len) (hm : 9 * (len - i) < f + 1) (hd : d ≤ 256)
    (hb1 : begT (tkA ts i) (tkA ts (i + 1)) = true) (hk : (tkA ts i).1.k = 1) :
    Calls Tryz.prog 232 #[ptr b, .string (tkA ts i).1.tx] w (RdP w b (.slice a len cap) len i d (prT ts (f + 1) 8 i d)) := by
  have hbw := hP.lt
  have hib : i < 100000 := by have := hT.le; omega
  have hin := hT.next hi (by omega)
  obtain ⟨R, hR⟩ : ∃ R, prT ts (f + 1) 8 i d = R := ⟨_, rfl⟩
  rw [hR]
  rw [prT, if_neg (by decide), if_neg (by decide), if_neg (by decide), if_pos rfl, if_neg (by omega), if_neg (by omega), if_neg (by omega), if_pos hk] at hR
  unfold begT at hb1
  rw [if_neg (by omega), if_pos hk] at hb1
  obtain ⟨tx, htx⟩ : ∃ tx, (tkA ts i).1.tx = tx := ⟨_, rfl⟩
  rw [htx] at hR hb1 ⊢
  have q1 := hP.c1
  have qf := hP.free
  have lit : ∀ (k n : Int), R = .ok [cstN k n ⟨#[]⟩] (i + 1) → ∀ v w', w'.ownsRow (w.setCell ⟨b, 1, none⟩ (.int .i64 ((i : Int) + 1))).heap.size 53 6 v 1 (nodesL [⟨0, ⟨k, n, ⟨#[]⟩⟩, ⟨#[]⟩, 0⟩]) → Below (w.setCell ⟨b, 1, none⟩ (.int .i64 ((i : Int) + 1))).heap.size (w.setCell ⟨b, 1, none⟩ (.int .i64 ((i : Int) + 1))) w' → RdP w b (.slice a len cap) len i d R (.returned v) w' := fun k n hRR v w' ho hb => by
    have hP2 := Pr.inc1 hP
    exact RdP.made (l := [cstN k n ⟨#[]⟩]) (own_mono ho (by rw [size_setC]; exact Nat.le_refl _)) (by simp; omega) (hP2.below hb hP2.lt) hin (by omega) ((grown_set _ _ _ _).trans (grown_below hb _)) hRR
  have LIT := Lib.hid lit
  have CC := Lib.hid (fun k n W => pconst_any k n ⟨#[]⟩ W)
  by_cases e1 : eqS tx nulS = true
  · rw [if_pos e1] at hR
    have L := Lib.hid (LIT.out 0 0 hR.symm)
    have e1' := eqS_lit e1 (show nulS.toList = [110, 117, 108, 108] from by decide +kernel)
    clear H0 hP hK hfar hR lit LIT hb1 htx e1
    go_enter Tryz.func232, Tryz.ntmps232
    go_wp2_with fail
    refine (CC.out _ _ _).mono ?_
    rintro e w2 ⟨v, rfl, ho, hb⟩
    have F := Lib.hid (L.out v w2 ho hb)
    clear ho hb L CC
    go_wp2_with fail
    go_ret
    exact F.out
  rw [if_neg e1] at hR
  have e1' := eqS_lit (q := false) (by simpa using e1) (show nulS.toList = [110, 117, 108, 108] from by decide +kernel)
  by_cases e2 : eqS tx truS = true
  · rw [if_pos e2] at hR
    have L := Lib.hid (LIT.out 1 1 hR.symm)
    have e2' := eqS_lit e2 (show truS.toList = [116, 114, 117, 101] from by decide +kernel)
    clear H0 hP hK hfar hR lit LIT hb1 htx e1 e2
    go_enter Tryz.func232, Tryz.ntmps232
    go_wp2_with fail
    refine (CC.out _ _ _).mono ?_
    rintro e w2 ⟨v, rfl, ho, hb⟩
    have F := Lib.hid (L.out v w2 ho hb)
    clear ho hb L CC
    go_wp2_with fail
    go_ret
    exact F.out
  rw [if_neg e2] at hR
  have e2' := eqS_lit (q := false) (by simpa using e2) (show truS.toList = [116, 114, 117, 101] from by decide +kernel)
  by_cases e3 : eqS tx falS = true
  · rw [if_pos e3] at hR
    have L := Lib.hid (LIT.out 1 0 hR.symm)
    have e3' := eqS_lit e3 (show falS.toList = [102, 97, 108, 115, 101] from by decide +kernel)
    clear H0 hP hK hfar hR lit LIT hb1 htx e1 e2 e3
    go_enter Tryz.func232, Tryz.ntmps232
    go_wp2_with fail
    refine (CC.out _ _ _).mono ?_
    rintro e w2 ⟨v, rfl, ho, hb⟩
    have F := Lib.hid (L.out v w2 ho hb)
    clear ho hb L CC
    go_wp2_with fail
    go_ret
    exact F.out
  rw [if_neg e3] at hR
  have e3' := eqS_lit (q := false) (by simpa using e3) (show falS.toList = [102, 97, 108, 115, 101] from by decide +kernel)
  rw [if_neg (by rintro (h | h | h) <;> contradiction), Bool.and_eq_true] at hb1
  have hres : resB tx = false := by simpa using hb1.1
  have CR := Lib.hid (fun W => rreserved_any tx W)
  rw [hres] at CR
  have CP := Lib.hid (fun W (h : w.grownBy W (some b)) (hP' : Pr W b (.slice a len cap) i d 0) => ppeek_any b a len cap ts i d 1 0 W hP' (toks_grown hK h hfar) hT.one (by have := hT.le; omega) (by omega) (by omega) (tkA ts (i + 1)) (hT.get (i + 1)))
  have HPP := Lib.hid hP
  by_cases co : symT (tkA ts (i + 1)) opnS = true
  · rw [if_pos co] at hR
    have hin2 := hT.next hin (by rw [(symT_k co).1]; decide)
    have CA := Lib.hid (fun W (hP' : Pr W b (.slice a len cap) i d 0) (hg : w.grownBy W (some b)) => pcall_any hT H0 i d b tx W hP' (toks_grown hK hg hfar) hfar hin2 (by omega) hd)
    have hR2 : (if eqS tx dayS = true then seqP (prT ts f 0 (i + 2) (d + 1)) (dayT ts) else if symT (tkA ts (i + 2)) clsS = true then finT tx [] (i + 2) else agT ts (fun k => prT ts f 0 k (d + 1)) tx ts.length [] (i + 2)) = R := by rw [← hR]; rfl
    rw [hR2] at CA
    obtain ⟨⟨⟨kk, ux, nm⟩, pp⟩, hu⟩ : ∃ t, tkA ts (i + 1) = t := ⟨_, rfl⟩
    rw [hu] at CP co
    obtain ⟨rfl, ho2⟩ : kk = 5 ∧ ux = opnS := symT_k co
    unfold tokV at CP
    simp only at CP
    have ho3 : (ux.toList == [40]) = true := by rw [ho2]; decide +kernel
    clear H0 hP hK hfar hR hR2 lit LIT hb1 htx e1 e2 e3 hres co hu CC ho2
    go_enter Tryz.func232, Tryz.ntmps232
    go_wp2_with fail
    refine (CR.out _).mono ?_
    rintro e w1 ⟨rfl, hb1⟩
    have CP1 := Lib.hid (CP.out w1 (grown_below hb1 (some b)) (HPP.out.below hb1 HPP.out.lt))
    have HB1 := Lib.hid hb1
    clear hb1 CP CR
    go_wp2_with fail
    refine CP1.out.mono ?_
    rintro e w2 ⟨rfl, hb2⟩
    have hB2 := hb2.alloc hb2.size (.cells #[.int .i64 5, .string ux, .int .i64 nm, .int .i64 pp] 71)
    have hB := HB1.out.trans (hB2.mono HB1.out.size)
    have hX := Box4.new w2 (.int .i64 5) (.string ux) (.int .i64 nm) (.int .i64 pp) 71
    have x0 := hX.c0
    have x1 := hX.c1
    have CA2 := Lib.hid (CA.out _ (HPP.out.below hB HPP.out.lt) (grown_below hB (some b)))
    have HGB := Lib.hid (grown_below hB (some b))
    clear hB2 hB hb2 hX CP1 HB1 CA
    go_wp2_with fail
    refine CA2.out.mono ?_
    intro e w3 hr
    have hr2 := hr.from HGB.out
    obtain ⟨v, rfl⟩ := hr2.ret
    have F := Lib.hid hr2
    clear hr hr2 CA2 HGB
    go_wp2_with fail
    go_ret
    exact F.out
  · rw [if_neg co] at hR
    have co0 : symT (tkA ts (i + 1)) opnS = false := by simpa using co
    have hname : nameB tx = true := by
      have := hb1.2
      rw [co0, Bool.false_or] at this
      exact this
    have CN := Lib.hid (fun W => rIsName_any tx W)
    rw [hname] at CN
    obtain ⟨⟨⟨kk, ux, nm⟩, pp⟩, hu⟩ : ∃ t, tkA ts (i + 1) = t := ⟨_, rfl⟩
    rw [hu] at CP co0
    unfold tokV at CP
    simp only at CP
    have hcase : ¬ kk = 5 ∨ (kk = 5 ∧ (ux.toList == [40]) = false) := by
      by_cases h5 : kk = 5
      · refine .inr ⟨h5, ?_⟩
        subst h5
        have h : eqS ux opnS = false := co0
        exact eqS_lit h (by decide +kernel)
      · exact .inl h5
    clear H0 hP hK hfar lit LIT hb1 htx e1 e2 e3 hres co co0 hu CC hname
    have HRR := Lib.hid hR
    clear hR
    have hcase2 : (kk == 5) = false ∨ ((kk == 5) = true ∧ (ux.toList == [40]) = false) := by
      rcases hcase with h | ⟨h, h2⟩
      · exact .inl (by simpa using h)
      · exact .inr ⟨by simp [h], h2⟩
    clear hcase
    rcases hcase2 with h5b | ⟨h5b, h40⟩
    all_goals
      go_enter Tryz.func232, Tryz.ntmps232
      go_wp2_with fail
      refine (CR.out _).mono ?_
      rintro e w1 ⟨rfl, hb1⟩
      have CP1 := Lib.hid (CP.out w1 (grown_below hb1 (some b)) (HPP.out.below hb1 HPP.out.lt))
      have HB1 := Lib.hid hb1
      clear hb1 CP CR
      go_wp2_with fail
      refine CP1.out.mono ?_
      rintro e w2 ⟨rfl, hb2⟩
      have hB2 := fun o => hb2.alloc hb2.size o
      have hB := fun o => HB1.out.trans ((hB2 o).mono HB1.out.size)
      have hX := fun x y z u => (Box4.new w2 x y z u 71)
      have x0 := fun x y z u => (hX x y z u).c0
      have x1 := fun x y z u => (hX x y z u).c1
      have q1' := fun o => (HPP.out.below (hB o) HPP.out.lt).c1
      have qf' := fun o => (HPP.out.below (hB o) HPP.out.lt).free
      have HBB := Lib.hid hB
      clear hB2 hB hb2 hX CP1 HB1
      go_wp2_with fail
      refine (CN.out _).mono ?_
      rintro e w3 ⟨rfl, rfl⟩
      go_wp2_with fail
      go_ret
      have hP3 := Pr.inc1 (HPP.out.below (HBB.out (.cells #[.int .i64 kk, .string ux, .int .i64 nm, .int .i64 pp] 71)) HPP.out.lt)
      refine RdP.made (l := [⟨1, ⟨0, 0, ⟨#[]⟩⟩, tx, 0⟩]) ?_ (by simp; omega) (hP3.alloc _) hin (by omega) (((grown_below (HBB.out _) (some b)).trans (grown_set _ _ _ _)).trans (World.grownBy_alloc _ _ _)) HRR.out.symm
      have h := World.ownsRow_lit (base := w.heap.size) (e := 53) (size := 6) ((w2.alloc (.cells #[.int .i64 kk, .string ux, .int .i64 nm, .int .i64 pp] 71)).setCell ⟨b, 1, none⟩ (.int .i64 ((i : Int) + 1))) #[.int .i64 1, .int .i64 0, .int .i64 0, .string ⟨#[]⟩, .string tx, .int .i64 0] 1 (by have := (HBB.out (.cells #[.int .i64 kk, .string ux, .int .i64 nm, .int .i64 pp] 71)).size; simpa [World.setCell] using this) (by unfold maxLen; omega) rfl
      simpa [nodesL, c6] using h

set_option maxHeartbeats 16000000 in
theorem pprimary_step {ts : List TA} {a : Option Addr} {len cap f : Nat} (hT : TkH ts a len) (H0 : Reads8 ts a len cap f 0 32) : Reads8 ts a len cap (f + 1) 8 230 := by
  intro i d b w hP hK hfar hi hm hd8 h8 h88
  obtain ⟨hb1, hmin⟩ := h8 rfl
  have hd := h88 rfl
  have hbw := hP.lt
  have hib : i < 100000 := by have := hT.le; omega
  have hin := hT.next hi (begT_k hb1)
  have CP := Lib.hid (ppeek_any b a len cap ts i d 0 0 w hP hK hT.one (by have := hT.le; omega) (by omega) (by omega) (tkA ts i) (by rw [Nat.add_zero]; exact hT.get i))
  have HPP := Lib.hid hP
  by_cases hk1 : (tkA ts i).1.k = 1
  · have CN := Lib.hid (fun W (hP' : Pr W b (.slice a len cap) i d 0) (hg : w.grownBy W (some b)) => pnamed_any hT H0 i d b W hP' (toks_grown hK hg hfar) hfar hi (by omega) hd hb1 hk1)
    obtain ⟨R, hR⟩ : ∃ R, prT ts (f + 1) 8 i d = R := ⟨_, rfl⟩
    rw [hR] at CN ⊢
    obtain ⟨⟨⟨kk, tx, nm⟩, pp⟩, hu⟩ : ∃ t, tkA ts i = t := ⟨_, rfl⟩
    rw [hu] at CP CN hk1
    simp only at hk1 CN
    subst hk1
    unfold tokV at CP
    simp only at CP
    clear H0 hP hK hfar hR hb1 hmin hu h8
    go_enter Tryz.func230, Tryz.ntmps230
    go_wp2_with fail
    refine CP.out.mono ?_
    rintro e w1 ⟨rfl, hb2⟩
    have hB := hb2.alloc hb2.size (.cells #[.int .i64 1, .string tx, .int .i64 nm, .int .i64 pp] 71)
    have CN2 := Lib.hid (CN.out _ (HPP.out.below hB HPP.out.lt) (grown_below hB (some b)))
    have HGB := Lib.hid (grown_below hB (some b))
    clear hB hb2 CP CN
    go_wp2_with fail
    refine CN2.out.mono ?_
    intro e w3 hr
    have hr2 := hr.from HGB.out
    obtain ⟨v, rfl⟩ := hr2.ret
    have F := Lib.hid hr2
    clear hr hr2 CN2 HGB
    go_wp2_with fail
    go_ret
    exact F.out
  obtain ⟨R, hR⟩ : ∃ R, prT ts (f + 1) 8 i d = R := ⟨_, rfl⟩
  rw [hR]
  rw [prT, if_neg (by decide), if_neg (by decide), if_neg (by decide), if_pos rfl] at hR
  rw [if_neg hk1] at hR
  by_cases hlit : (tkA ts i).1.k = 2 ∨ (tkA ts i).1.k = 3 ∨ (tkA ts i).1.k = 4
  · obtain ⟨⟨⟨kk, tx, nm⟩, pp⟩, hu⟩ : ∃ t, tkA ts i = t := ⟨_, rfl⟩
    rw [hu] at CP hlit hR
    simp only at hlit hR
    unfold tokV at CP
    simp only at CP
    have CC := Lib.hid (fun k n t W => pconst_any k n t W)
    clear H0 hK hfar hb1 hmin hu h8 hk1
    rcases hlit with rfl | rfl | rfl
    all_goals
      simp only [if_true, show ((3 : Int) = 2) = False from by simp, show ((4 : Int) = 2) = False from by simp, show ((4 : Int) = 3) = False from by simp, if_false] at hR
      have HRR := Lib.hid hR
      clear hR hP
      go_enter Tryz.func230, Tryz.ntmps230
      go_wp2_with fail
      refine CP.out.mono ?_
      rintro e w1 ⟨rfl, hb2⟩
      have hB := fun z => hb2.alloc hb2.size (.cells #[z, .string tx, .int .i64 nm, .int .i64 pp] 71)
      have q1' := fun z => (HPP.out.below (hB z) HPP.out.lt).c1
      have qf' := fun z => (HPP.out.below (hB z) HPP.out.lt).free
      have hX := fun z => Box4.new w1 z (.string tx) (.int .i64 nm) (.int .i64 pp) 71
      have hne : b ≠ w1.heap.size := by have := HPP.out.lt; have := hb2.size; omega
      have x1 := fun z => ((hX z).far (a := ⟨b, 1, none⟩) (v := .int .i64 ((i : Int) + 1)) (by simpa using hne.symm)).c1
      have x2 := fun z => ((hX z).far (a := ⟨b, 1, none⟩) (v := .int .i64 ((i : Int) + 1)) (by simpa using hne.symm)).c2
      have HBB := Lib.hid hB
      clear hB hb2 hX CP
      go_wp2_with fail
      refine (CC.out _ _ _ _).mono ?_
      rintro e w2 ⟨v, rfl, ho, hb⟩
      have hP2 := fun z => Pr.inc1 (HPP.out.below (HBB.out z) HPP.out.lt)
      have F : Hid (RdP w b (.slice a len cap) len i d R (.returned v) w2) := by
        refine RdP.made (l := [_]) (own_mono ho ?_) (by simp; omega) ((hP2 _).below hb (hP2 _).lt) hin (by omega) (((grown_below (HBB.out _) (some b)).trans (grown_set _ _ _ _)).trans (grown_below hb _)) HRR.out.symm
        rw [size_setC]
        exact (HBB.out _).size
      clear ho hb hP2 HBB HRR
      go_wp2_with fail
      go_ret
      exact F.out
  · have n2 : ¬ (tkA ts i).1.k = 2 := fun h => hlit (.inl h)
    have n3 : ¬ (tkA ts i).1.k = 3 := fun h => hlit (.inr (.inl h))
    have n4 : ¬ (tkA ts i).1.k = 4 := fun h => hlit (.inr (.inr h))
    rw [if_neg n2, if_neg n3, if_neg n4] at hR
    have ho : symT (tkA ts i) opnS = true := by
      unfold begT at hb1
      rw [if_neg hlit, if_neg hk1, hmin, Bool.false_or] at hb1
      exact hb1
    have hk5 : (tkA ts i).1.k = 5 := (symT_k ho).1
    have CI := Lib.hid (p := ∀ W (_ : Below w.heap.size w W), Calls Tryz.prog 168 #[ptr b, .string opnS] W fun e w' => e = .returned (.bool true) ∧ Below W.heap.size W w') (by
      intro W h
      have := pis_any b a len cap ts i d 0 opnS W (hP.below h hP.lt) (hK.below h (Nat.le_refl _)) hT.one (by have := hT.le; omega) (by omega) (tkA ts i) (hT.get i)
      rwa [isS_sym, ho] at this)
    have HH := Lib.hid (fun W (hP' : Pr W b (.slice a len cap) (i + 1) (d + 1) 0) (hg : w.grownBy W (some b)) => H0 (i + 1) (d + 1) b W hP' (toks_grown hK hg hfar) hfar hin (by omega) (by omega) (At8.no (by omega)) (by omega))
    have CT := Lib.hid (fun j dd x W (hj : j < len) (hP' : Pr W b (.slice a len cap) j dd x) (hg : w.grownBy W (some b)) => ptake_any b a len cap ts j dd x clsS W hP' (toks_grown hK hg hfar) hT.one (by have := hT.le; omega) (by have := hT.le; omega) (tkA ts j) (hT.get j))
    have hR2 : R = seqP (prT ts f 0 (i + 1) (d + 1)) fun e j => if symT (tkA ts j) clsS = true then .ok e (j + 1) else .bad 3 j := by rw [← hR]; rfl
    have HRR := Lib.hid hR2
    obtain ⟨⟨⟨kk, tx, nm⟩, pp⟩, hu⟩ : ∃ t, tkA ts i = t := ⟨_, rfl⟩
    rw [hu] at CP hk5
    simp only at hk5
    subst hk5
    unfold tokV at CP
    simp only at CP
    clear H0 hP hK hfar hb1 hmin hu h8 hR hR2 hlit ho n2 n3 n4 hk1
    go_enter Tryz.func230, Tryz.ntmps230
    go_wp2_with fail
    refine CP.out.mono ?_
    rintro e w1 ⟨rfl, hb2⟩
    have hB := hb2.alloc hb2.size (.cells #[.int .i64 5, .string tx, .int .i64 nm, .int .i64 pp] 71)
    have CI1 := Lib.hid (CI.out _ hB)
    have HB1 := Lib.hid hB
    clear hB hb2 CP CI
    go_wp2_with fail
    refine CI1.out.mono ?_
    rintro e w2 ⟨rfl, hb3⟩
    have hB2 := HB1.out.trans (hb3.mono HB1.out.size)
    have hP2 := HPP.out.below hB2 HPP.out.lt
    have q1 := hP2.c1
    have q2 := hP2.c2
    have qf := hP2.free
    have hP3 := Pr.inc2 (Pr.inc1 hP2)
    have hg3 := ((grown_below hB2 (some b)).trans (grown_set w2 b 1 (.int .i64 ((i : Int) + 1)))).trans (grown_set _ b 2 (.int .i64 ((d : Int) + 1)))
    have C3 := Lib.hid (HH.out _ hP3 hg3)
    have HG3 := Lib.hid hg3
    have hs3 := hg3.size
    clear hB2 hb3 hP2 hP3 hg3 CI1 HB1 HH
    go_wp2_with fail
    generalize (w2.setCell ⟨b, 1, none⟩ (.int .i64 ((i : Int) + 1))).setCell ⟨b, 2, none⟩ (.int .i64 ((d : Int) + 1)) = w3 at *
    clear q1 q2 qf
    refine C3.out.mono ?_
    rintro e w4 ⟨v, l, j, dd, x, rfl, hown, hbd, hP4, hg4, hc⟩
    have hdd1 : 1 ≤ dd := by rcases hc with ⟨_, _, h⟩ | ⟨_, _, h⟩ <;> omega
    have hdd3 := hbd.2.2
    have hj := hbd.2.1
    have hg4' := HG3.out.trans hg4
    have HP4 := Lib.hid hP4
    have q2 := hP4.c2
    have qf := hP4.free
    have hP5 := Pr.dec2 hP4 hdd1
    have hg5 := grown_set w4 b 2 (.int .i64 ((dd : Int) - 1))
    have HO5 := Lib.hid (own_parser (own_mono hown hs3) hg5 hbw)
    have HG5 := Lib.hid (hg4'.trans hg5)
    have CT5 := Lib.hid (CT.out j (dd - 1) x _ hj hP5 HG5.out)
    have HC := Lib.hid hc
    clear C3 hown hP4 hg4 hg4' hc HG3 hP5 hg5 CT
    go_wp2_with fail
    generalize w4.setCell ⟨b, 2, none⟩ (.int .i64 ((dd : Int) - 1)) = w5 at *
    clear q2 qf HP4
    refine CT5.out.mono ?_
    rintro e w6 ⟨rfl, hP6, hg6⟩
    have HO6 := own_parser HO5.out hg6 hbw
    have F : Hid (RdP w b (.slice a len cap) len i d R (.returned v) w6) := by
      refine ⟨v, l, if isS x (tkA ts j) 5 clsS = true then j + 1 else j, dd - 1, if isS x (tkA ts j) 5 clsS = true then x else if x = 0 then 3 else x, rfl, HO6, ⟨by have := hbd.1; omega, ?_, by omega⟩, hP6, HG5.out.trans hg6, ?_⟩
      · split
        · rename_i h
          refine hT.next hj ?_
          unfold isS at h
          rw [Bool.and_eq_true, Bool.and_eq_true, decide_eq_true_eq, decide_eq_true_eq] at h
          omega
        · exact hj
      · rcases HC.out with ⟨h1, h2, h3⟩ | ⟨h1, h2, h3⟩
        · rw [h1, isS_sym]
          by_cases hcl : symT (tkA ts j) clsS = true
          · rw [if_pos hcl, if_pos hcl]
            exact .inl ⟨rfl, by rw [HRR.out, h2, seqP_ok, if_pos hcl], by omega⟩
          · rw [if_neg hcl, if_neg hcl, if_pos rfl]
            exact .inr ⟨by decide, by rw [HRR.out, h2, seqP_ok, if_neg hcl], by omega⟩
        · simp only [isS_bad h1, Bool.false_eq_true, if_false, if_neg h1]
          exact .inr ⟨h1, by rw [HRR.out, h2, seqP_bad], by omega⟩
    clear hP6 hg6 HO6 CT5 HC HRR HG5 HO5
    go_wp2_with fail
    go_ret
    exact F.out

/-- All levels. -/
theorem reads8_all {ts : List TA} {a : Option Addr} {len cap : Nat} (hT : TkH ts a len) : ∀ f,
    Reads8 ts a len cap f 0 32 ∧ Reads8 ts a len cap f 1 57 ∧ Reads8 ts a len cap f 2 99 ∧
    Reads8 ts a len cap f 3 134 ∧ Reads8 ts a len cap f 4 167 ∧ Reads8 ts a len cap f 5 185 ∧
    Reads8 ts a len cap f 6 207 ∧ Reads8 ts a len cap f 7 224 ∧ Reads8 ts a len cap f 8 230 := by
  intro f
  induction f with
  | zero => refine ⟨?_, ?_, ?_, ?_, ?_, ?_, ?_, ?_, ?_⟩ <;> (intro i d b w _ _ _ _ h; omega)
  | succ f ih =>
    obtain ⟨h0, h1, h2, h3, h4, h5, h6, h7, h8⟩ := ih
    exact ⟨por_step hT h1, pand_step hT h2, pnot_step hT h2 h3, pcompare_step hT h4, pconcat_step hT h5, psum_step hT h6, pproduct_step hT h7, punary_step hT h7 h8, pprimary_step hT h0⟩

end Go.Proofs.YtmdpjahhhfajaaaGreatDoor
