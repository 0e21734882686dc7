/-
  The program's parser: name, primary; all levels. · For every layer: the number at a place of a slice that came in. · Raise, Validate of the reference.
-/
import Derived.Test.YtmdpjahhhfajaaaGreatDoorJC20
import Derived.Test.YtmdpjahhhfajaaaGreatDoorJC03
import Derived.Test.YtmdpjahhhfajaaaGreatDoorJC09
set_option linter.unusedVariables false
set_option linter.unusedSimpArgs false
set_option maxRecDepth 100000
namespace Go.Proofs.YtmdpjahhhfajaaaGreatDoor
open Go.RowKit Wh
set_option maxHeartbeats 16000000 in
theorem qname_any {ts : List TA} {a : Option Addr} {len cap f : Nat} (H : ReadsQ ts a len cap f) (i d b : Nat) (sv : Value) (rs : List (List Nd)) (vs : List Value) (w : World) (hP : Pq w b (.slice a len cap) i d sv) (hS : Sk w b rs sv vs) (hE : EnvQ w b a len ts) (hi : i < len) (hk : (tkA ts i).1.k = 1) (hrs : rs.length ≤ i) (hm : 9 * (len - i) < f + 1) (hd : d ≤ 256) :
  Calls Tryz.prog 129 #[ptr b] w (QdP w b (.slice a len cap) len d rs sv vs (prT ts (f + 1) 8 i d)) := by
 have hbw := hP.lt
 have hlen8 : len ≤ 100000 := hE.hH.le
 have hi8 : i < 100000 := by omega
 have hin := hE.hH.next hi (by omega)
 rw [prT_name hk]
 have CW := Lib.hid (qword_any b a len cap ts i d sv w hP hE.tk (by omega) (by omega))
 rw [wrdC_k hk] at CW
 have CI := Lib.hid (fun W (hb : Below w.heap.size w W) => qiscall_any b a len cap ts i d sv W (hP.below hb hbw) (hE.tk.below hb (Nat.le_refl _)) hin (by omega))
 have CC := Lib.hid (fun (ho : symT (tkA ts (i + 1)) opnS = true) W (hb : Below w.heap.size w W) => qcall_any H i d b sv rs vs W (hP.below hb hbw) (hS.below hb) (hE.below (hb.mono (Nat.le_of_lt hbw))) (by have := hE.hH.next hin (by rw [(symT_k ho).1]; decide); omega) hk hrs (by have := hE.hH.next hin (by rw [(symT_k ho).1]; decide); omega) hd)
 have CWC := Lib.hid (fun s W => qwordc_any s W)
 have CA := Lib.hid (fun t (ht : arN t = 0) W (hb : Below w.heap.size w W) => qapl0_any t ht b (.slice a len cap) i d sv rs vs W (hP.below hb hbw) (hS.below hb) (by omega))
 have HAR := Lib.hid (wrdC_ar (tkA ts i).1.tx)
 obtain ⟨s, hs⟩ : ∃ s, (tkA ts i).1.tx = s := ⟨_, rfl⟩
 rw [hs] at CW CC HAR ⊢
 obtain ⟨R, hR⟩ : ∃ R, (if (wrdC s).2 = true then PO.ok [(wrdC s).1] (i + 1) else if symT (tkA ts (i + 1)) opnS = true then calT ts f s i d else .ok [⟨1, ⟨0, 0, ⟨#[]⟩⟩, s, 0⟩] (i + 1)) = R := ⟨_, rfl⟩
 rw [hR]
 have CWC1 := Lib.hid (CWC.out s)
 have FIN := Lib.hid (fun t (hRR : R = .ok [t] (i + 1)) w1 w2 (hb : Below w.heap.size w w1) sv2 vs2 (hP2 : Pq w2 b (.slice a len cap) i d sv2) (hS2 : Sk w2 b (rs ++ [[t].take 257]) sv2 vs2) (hF2 : Fb w1 b sv vs w2 sv2 vs2) => QdP.done (rs := rs) (w := w) (sv0 := sv) (vs0 := vs) hRR hin (by omega : d ≤ 300) (Pq.inc1 hP2) (hS2.keep (grown_set w2 b 1 (.int .i64 ((i : Int) + 1)))) (Fb.below hb hbw) (hF2.trans (Fb.set 1 (.int .i64 ((i : Int) + 1)) hP2.lt)))
 clear hP hS hE H hs hk CWC
 obtain ⟨u, hu⟩ : ∃ u, wrdC s = u := ⟨_, rfl⟩
 rw [hu] at CWC1 HAR hR
 clear hu
 obtain ⟨⟨op, ⟨k, n, sx⟩, nm, ar⟩, q⟩ := u
 unfold ndV at CWC1 CA
 simp only at CWC1 HAR hR
 cases q with
 | true =>
  rw [if_pos rfl] at hR
  have CA1 := Lib.hid (CA.out ⟨op, ⟨k, n, sx⟩, nm, ar⟩ (HAR.out rfl))
  simp only at CA1
  have FIN1 := Lib.hid (FIN.out _ hR.symm)
  clear FIN CA HAR CI CC hR
  go_enter Tryz.func129, Tryz.ntmps129
  go_wp2_with fail
  refine CW.out.mono ?_
  rintro e w1 ⟨rfl, hb1⟩
  have HB1 := Lib.hid hb1
  clear hb1 CW
  go_wp2_with fail
  refine (CWC1.out w1).mono ?_
  rintro e w2 ⟨rfl, hb2⟩
  have hB2 := HB1.out.trans (hb2.mono HB1.out.size)
  have hB3 := hB2.alloc hB2.size (.cells #[.int .i64 op, .int .i64 k, .int .i64 n, .string sx, .string nm, .int .i64 ar] 53)
  have CA3 := Lib.hid (CA1.out _ hB3)
  have HB3 := Lib.hid hB3
  clear hb2 hB2 hB3 HB1 CWC1 CA1
  go_wp2_with fail
  refine CA3.out.mono ?_
  rintro e w4 ⟨rfl, sv4, vs4, hP4, hS4, hF4⟩
  have q1 := hP4.c1
  have qf := hP4.free
  have F := Lib.hid (FIN1.out _ _ HB3.out sv4 vs4 hP4 hS4 hF4)
  clear CA3 HB3 hP4 hS4 hF4 FIN1
  go_wp2_with fail
  go_ret
  exact F.out
 | false =>
  rw [if_neg (by simp)] at hR
  cases ho : symT (tkA ts (i + 1)) opnS with
  | true =>
   rw [ho, if_pos rfl] at hR
   have CC1 := Lib.hid (CC.out ho)
   rw [ho] at CI
   rw [hR] at CC1
   clear FIN CA HAR CC hR ho
   go_enter Tryz.func129, Tryz.ntmps129
   go_wp2_with fail
   refine CW.out.mono ?_
   rintro e w1 ⟨rfl, hb1⟩
   have HB1 := Lib.hid hb1
   clear hb1 CW
   go_wp2_with fail
   refine (CWC1.out w1).mono ?_
   rintro e w2 ⟨rfl, hb2⟩
   have hB2 := HB1.out.trans (hb2.mono HB1.out.size)
   have hB3 := hB2.alloc hB2.size (.cells #[.int .i64 op, .int .i64 k, .int .i64 n, .string sx, .string nm, .int .i64 ar] 53)
   have CI3 := Lib.hid (CI.out _ hB3)
   have HB3 := Lib.hid hB3
   clear hb2 hB2 hB3 HB1 CWC1 CI
   go_wp2_with fail
   refine CI3.out.mono ?_
   rintro e w4 ⟨rfl, hb4⟩
   have hB4 := HB3.out.trans (hb4.mono HB3.out.size)
   have CC4 := Lib.hid (CC1.out _ hB4)
   have HB4 := Lib.hid (Fb.below (sv := sv) (vs := vs) hB4 hbw)
   clear hb4 hB4 CI3 HB3 CC1
   go_wp2_with fail
   refine CC4.out.mono ?_
   intro e w5 hr
   have hr2 := hr.from HB4.out
   obtain ⟨x, rfl⟩ := hr2.ret
   have F := Lib.hid hr2
   clear hr hr2 CC4 HB4
   go_wp2_with fail
   go_ret
   exact F.out
  | false =>
   rw [ho, if_neg (by simp)] at hR
   have CA1 := Lib.hid (CA.out ⟨1, ⟨0, 0, ⟨#[]⟩⟩, s, 0⟩ rfl)
   simp only at CA1
   have FIN1 := Lib.hid (FIN.out _ hR.symm)
   rw [ho] at CI
   clear FIN CA HAR CC hR ho
   go_enter Tryz.func129, Tryz.ntmps129
   go_wp2_with fail
   refine CW.out.mono ?_
   rintro e w1 ⟨rfl, hb1⟩
   have HB1 := Lib.hid hb1
   clear hb1 CW
   go_wp2_with fail
   refine (CWC1.out w1).mono ?_
   rintro e w2 ⟨rfl, hb2⟩
   have hB2 := HB1.out.trans (hb2.mono HB1.out.size)
   have hB3 := hB2.alloc hB2.size (.cells #[.int .i64 op, .int .i64 k, .int .i64 n, .string sx, .string nm, .int .i64 ar] 53)
   have CI3 := Lib.hid (CI.out _ hB3)
   have HB3 := Lib.hid hB3
   clear hb2 hB2 hB3 HB1 CWC1 CI
   go_wp2_with fail
   refine CI3.out.mono ?_
   rintro e w4 ⟨rfl, hb4⟩
   have hB4 := HB3.out.trans (hb4.mono HB3.out.size)
   have CA4 := Lib.hid (CA1.out _ hB4)
   have HB4 := Lib.hid hB4
   clear hb4 hB4 CI3 HB3 CA1
   go_wp2_with fail
   refine CA4.out.mono ?_
   rintro e w5 ⟨rfl, sv4, vs4, hP4, hS4, hF4⟩
   have q1 := hP4.c1
   have qf := hP4.free
   have F := Lib.hid (FIN1.out _ _ HB4.out sv4 vs4 hP4 hS4 hF4)
   clear CA4 HB4 hP4 hS4 hF4 FIN1
   go_wp2_with fail
   go_ret
   exact F.out
set_option maxHeartbeats 16000000 in
theorem qprimary_step {ts : List TA} {a : Option Addr} {len cap f : Nat} (H : ReadsQ ts a len cap f) : PrimQ ts a len cap (f + 1) := by
 intro i d b sv rs vs w hP hS hE hi hrs hm hd hd9 hmin
 have hbw := hP.lt
 have hlen8 : len ≤ 100000 := hE.hH.le
 have hi8 : i < 100000 := by omega
 have CB := Lib.hid (qbegins_any b a len cap ts i d 8 sv w hP hE.tk hE.hH hE.hS hi (by omega))
 have hbl : begL 8 (tkA ts i) (tkA ts (i + 1)) = begT (tkA ts i) (tkA ts (i + 1)) := by
  unfold begL
  rw [hmin]
  simp
 rw [hbl] at CB
 cases hbg : begT (tkA ts i) (tkA ts (i + 1)) with
 | false =>
  rw [hbg] at CB
  rw [if_pos rfl]
  have HPS := Lib.hid hP
  clear hP hS hE H hd9 hmin hbl hbg
  go_enter Tryz.func90, Tryz.ntmps90
  go_wp2_with fail
  refine CB.out.mono ?_
  rintro e w1 ⟨rfl, hb1⟩
  have F := Lib.hid (QdP.err (rs := rs) (P := PO.bad 3 i) rfl (by decide : ¬ (3 : Int) = 0) hi (Nat.le_refl d) (by omega) (HPS.out.below hb1 hbw) (Fb.below (sv := sv) (vs := vs) hb1 hbw))
  clear hb1 CB HPS
  go_wp2_with fail
  go_ret
  exact F.out
 | true =>
  rw [hbg] at CB
  rw [if_neg (by simp)]
  have hd2 : d ≤ 256 := by
   by_cases h : 256 < d
   ·rw [hd9 h] at hbg; cases hbg
   ·omega
  have hin := hE.hH.next hi (begT_k hbg)
  have CN := Lib.hid (fun (hk : (tkA ts i).1.k = 1) W (hb : Below w.heap.size w W) => qname_any H i d b sv rs vs W (hP.below hb hbw) (hS.below hb) (hE.below (hb.mono (Nat.le_of_lt hbw))) hi hk hrs (by omega) hd2)
  have CG := Lib.hid (fun W (hb : Below w.heap.size w W) => qgroup_any H i d b sv rs vs W (hP.below hb hbw) (hS.below hb) (hE.below (hb.mono (Nat.le_of_lt hbw))) hin hrs (by omega) hd2)
  have CA := Lib.hid (fun t (ht : arN t = 0) W (hb : Below w.heap.size w W) => qapl0_any t ht b (.slice a len cap) i d sv rs vs W (hP.below hb hbw) (hS.below hb) (by omega))
  have CC := Lib.hid (fun k n W => qconst_any k n W)
  have FINX := Lib.hid (fun R t (hRR : R = PO.ok [t] (i + 1)) w1 w2 (hb : Below w.heap.size w w1) sv2 vs2 (hP2 : Pq w2 b (.slice a len cap) i d sv2) (hS2 : Sk w2 b (rs ++ [[t].take 257]) sv2 vs2) (hF2 : Fb w1 b sv vs w2 sv2 vs2) => QdP.done (rs := rs) (w := w) (sv0 := sv) (vs0 := vs) hRR hin (by omega : d ≤ 300) (Pq.inc1 hP2) (hS2.keep (grown_set w2 b 1 (.int .i64 ((i : Int) + 1)))) (Fb.below hb hbw) (hF2.trans (Fb.set 1 (.int .i64 ((i : Int) + 1)) hP2.lt)))
  unfold ndV at CC CA
  simp only at CC
  obtain ⟨R, hR⟩ : ∃ R, prT ts (f + 1) 8 i d = R := ⟨_, rfl⟩
  rw [hR] at CN ⊢
  have htk := tkA_in (ts := ts) (i := i) (by rw [hE.hH.ln]; exact hi)
  have HTK := Lib.hid (fun W (hb : Below w.heap.size w W) => hE.tk.below hb (Nat.le_refl _))
  have HP := Lib.hid hP
  obtain ⟨u, hu⟩ : ∃ u, tkA ts i = u := ⟨_, rfl⟩
  rw [hu] at htk CN
  have hbg2 := hbg
  rw [hu] at hbg2 hmin
  rw [prT, if_neg (by decide), if_neg (by decide), if_neg (by decide), if_pos rfl, hu] at hR
  clear hP hS hE H hd9 hbl hbg hu
  obtain ⟨⟨kd, tx, nm⟩, p⟩ := u
  simp only at CN hR
  have hbX : ∀ w1, Below w.heap.size w w1 → Below w.heap.size w ((w1.alloc (.cells #[.int .i64 kd, .string tx, .int .i64 nm, .int .i64 p] 71)).drew) := fun w1 h => (h.alloc h.size _).drew
  have HBX := Lib.hid hbX
  clear hbX
  have hcase : kd = 1 ∨ kd = 2 ∨ kd = 3 ∨ kd = 4 ∨ (kd = 5 ∧ ¬ kd = 1 ∧ ¬ kd = 2 ∧ ¬ kd = 3 ∧ ¬ kd = 4) := by
   by_cases k1 : kd = 1
   ·exact .inl k1
   by_cases k2 : kd = 2
   ·exact .inr (.inl k2)
   by_cases k3 : kd = 3
   ·exact .inr (.inr (.inl k3))
   by_cases k4 : kd = 4
   ·exact .inr (.inr (.inr (.inl k4)))
   refine .inr (.inr (.inr (.inr ⟨?_, k1, k2, k3, k4⟩)))
   unfold begT at hbg2
   rw [if_neg (by simp only; omega), if_neg k1, hmin, Bool.false_or] at hbg2
   exact (symT_k hbg2).1
  clear hbg2 hmin
  rcases hcase with rfl | rfl | rfl | rfl | ⟨rfl, k1, k2, k3, k4⟩
  ·-- a name
   have CN1 := Lib.hid (CN.out rfl)
   clear CN CG CA CC FINX hR
   go_enter Tryz.func90, Tryz.ntmps90
   go_wp2_with fail
   refine CB.out.mono ?_
   rintro e w1 ⟨rfl, hb1⟩
   have hT1 := HTK.out w1 hb1
   have hP1 := HP.out.below hb1 hbw
   obtain ⟨kd', tx', nm', p', g, off, e1, rfl, lg, t0, t1, t2, t3⟩ := hT1.at hi
   rw [htk] at e1
   cases e1
   have h0 := hP1.c0
   have h1 := hP1.c1
   have hf1 := hP1.free
   have hB := hP1.alloc (.cells #[.int .i64 0, .string ⟨#[]⟩, .int .i64 0, .int .i64 0] 71)
   have k0 := hB.c0
   have k1 := hB.c1
   have bel : Below w1.heap.size w1 (w1.alloc (.cells #[.int .i64 0, .string ⟨#[]⟩, .int .i64 0, .int .i64 0] 71)) := (Below.refl _ _).alloc (Nat.le_refl _) _
   have e : ∀ o, (w1.alloc (.cells #[.int .i64 0, .string ⟨#[]⟩, .int .i64 0, .int .i64 0] 71)).cell? ⟨g, o, none⟩ = w1.cell? ⟨g, o, none⟩ := fun o => bel.cell (p := ⟨g, o, none⟩) lg
   have s0 := (e _).trans t0
   have s1 := (e _).trans t1
   have s2 := (e _).trans t2
   have s3 := (e _).trans t3
   have hlen : (i : Int) < (len : Int) := by omega
   have CN2 := Lib.hid (CN1.out _ (HBX.out w1 hb1))
   have HF := Lib.hid (Fb.below (sv := sv) (vs := vs) (HBX.out w1 hb1) hbw)
   clear hT1 htk hB bel e hb1 CB hP1 CN1 HBX HTK HP
   go_wp2_with fail
   go_region
   go_wp2_with fail
   refine CN2.out.mono ?_
   intro e w2 hr
   have hr2 := hr.from HF.out
   obtain ⟨x, rfl⟩ := hr2.ret
   have F := Lib.hid hr2
   clear hr hr2 CN2 HF
   go_wp2_with fail
   go_ret
   exact F.out
  rotate_left 3
  ·-- a group
   rw [if_neg k2, if_neg k3, if_neg k4, if_neg k1] at hR
   have hR2 : (seqP (prT ts f 0 (i + 1) (d + 1)) fun e j => if symT (tkA ts j) clsS = true then PO.ok e (j + 1) else .bad 3 j) = R := by rw [← hR]; rfl
   rw [hR2] at CG
   clear CN CA CC FINX hR hR2 k1 k2 k3 k4
   go_enter Tryz.func90, Tryz.ntmps90
   go_wp2_with fail
   refine CB.out.mono ?_
   rintro e w1 ⟨rfl, hb1⟩
   have hT1 := HTK.out w1 hb1
   have hP1 := HP.out.below hb1 hbw
   obtain ⟨kd', tx', nm', p', g, off, e1, rfl, lg, t0, t1, t2, t3⟩ := hT1.at hi
   rw [htk] at e1
   cases e1
   have h0 := hP1.c0
   have h1 := hP1.c1
   have hf1 := hP1.free
   have hB := hP1.alloc (.cells #[.int .i64 0, .string ⟨#[]⟩, .int .i64 0, .int .i64 0] 71)
   have k0 := hB.c0
   have k1 := hB.c1
   have bel : Below w1.heap.size w1 (w1.alloc (.cells #[.int .i64 0, .string ⟨#[]⟩, .int .i64 0, .int .i64 0] 71)) := (Below.refl _ _).alloc (Nat.le_refl _) _
   have e : ∀ o, (w1.alloc (.cells #[.int .i64 0, .string ⟨#[]⟩, .int .i64 0, .int .i64 0] 71)).cell? ⟨g, o, none⟩ = w1.cell? ⟨g, o, none⟩ := fun o => bel.cell (p := ⟨g, o, none⟩) lg
   have s0 := (e _).trans t0
   have s1 := (e _).trans t1
   have s2 := (e _).trans t2
   have s3 := (e _).trans t3
   have hlen : (i : Int) < (len : Int) := by omega
   have CN2 := Lib.hid (CG.out _ (HBX.out w1 hb1))
   have HF := Lib.hid (Fb.below (sv := sv) (vs := vs) (HBX.out w1 hb1) hbw)
   clear hT1 htk hB bel e hb1 CB hP1 CG HBX HTK HP
   go_wp2_with fail
   go_region
   go_wp2_with fail
   refine CN2.out.mono ?_
   intro e w2 hr
   have hr2 := hr.from HF.out
   obtain ⟨x, rfl⟩ := hr2.ret
   have F := Lib.hid hr2
   clear hr hr2 CN2 HF
   go_wp2_with fail
   go_ret
   exact F.out
  ·-- an integer
   rw [if_pos rfl] at hR
   have CA1 := Lib.hid (CA.out (cstN 2 nm ⟨#[]⟩) rfl)
   simp only at CA1
   have FIN1 := Lib.hid (FINX.out R _ hR.symm)
   clear CN CG CA FINX hR
   go_enter Tryz.func90, Tryz.ntmps90
   go_wp2_with fail
   refine CB.out.mono ?_
   rintro e w1 ⟨rfl, hb1⟩
   have hT1 := HTK.out w1 hb1
   have hP1 := HP.out.below hb1 hbw
   obtain ⟨kd', tx', nm', p', g, off, e1, rfl, lg, t0, t1, t2, t3⟩ := hT1.at hi
   rw [htk] at e1
   cases e1
   have h0 := hP1.c0
   have h1 := hP1.c1
   have hf1 := hP1.free
   have hB := hP1.alloc (.cells #[.int .i64 0, .string ⟨#[]⟩, .int .i64 0, .int .i64 0] 71)
   have k0 := hB.c0
   have k1 := hB.c1
   have bel : Below w1.heap.size w1 (w1.alloc (.cells #[.int .i64 0, .string ⟨#[]⟩, .int .i64 0, .int .i64 0] 71)) := (Below.refl _ _).alloc (Nat.le_refl _) _
   have e : ∀ o, (w1.alloc (.cells #[.int .i64 0, .string ⟨#[]⟩, .int .i64 0, .int .i64 0] 71)).cell? ⟨g, o, none⟩ = w1.cell? ⟨g, o, none⟩ := fun o => bel.cell (p := ⟨g, o, none⟩) lg
   have s0 := (e _).trans t0
   have s1 := (e _).trans t1
   have s2 := (e _).trans t2
   have s3 := (e _).trans t3
   have hlen : (i : Int) < (len : Int) := by omega
   have HBB := Lib.hid (HBX.out w1 hb1)
   clear hT1 htk hB bel e hb1 CB hP1 HBX HTK HP
   go_wp2_with fail
   go_region
   have hX := (Box4.new w1 (.int .i64 2) (.string tx) (.int .i64 nm) (.int .i64 p) 71).drew
   have HBB2 := Lib.hid HBB.out
   generalize (w1.alloc (.cells #[.int .i64 2, .string tx, .int .i64 nm, .int .i64 p] 71)).drew = w2 at *
   have y0 := hX.c0
   have y1 := hX.c1
   have y2 := hX.c2
   clear hX h0 h1 hf1 k0 k1 s0 s1 s2 s3 t0 t1 t2 t3 HBB
   go_wp2_with fail
   refine (CC.out _ _ _).mono ?_
   rintro e w3 ⟨rfl, hb3⟩
   have hB3 := HBB2.out.trans (hb3.mono HBB2.out.size)
   have CA3 := Lib.hid (CA1.out w3 hB3)
   have HB3 := Lib.hid hB3
   clear CC hb3 hB3 CA1 HBB2 y0 y1 y2
   go_wp2_with fail
   refine CA3.out.mono ?_
   rintro e w4 ⟨rfl, sv4, vs4, hP4, hS4, hF4⟩
   have q1 := hP4.c1
   have qf := hP4.free
   have F := Lib.hid (FIN1.out _ _ HB3.out sv4 vs4 hP4 hS4 hF4)
   clear CA3 HB3 hP4 hS4 hF4 FIN1
   go_wp2_with fail
   go_ret
   exact F.out
  ·-- a text
   rw [if_neg (by decide), if_pos rfl] at hR
   have CA1 := Lib.hid (CA.out (cstN 3 0 tx) rfl)
   simp only at CA1
   have FIN1 := Lib.hid (FINX.out R _ hR.symm)
   clear CN CG CA FINX hR CC
   go_enter Tryz.func90, Tryz.ntmps90
   go_wp2_with fail
   refine CB.out.mono ?_
   rintro e w1 ⟨rfl, hb1⟩
   have hT1 := HTK.out w1 hb1
   have hP1 := HP.out.below hb1 hbw
   obtain ⟨kd', tx', nm', p', g, off, e1, rfl, lg, t0, t1, t2, t3⟩ := hT1.at hi
   rw [htk] at e1
   cases e1
   have h0 := hP1.c0
   have h1 := hP1.c1
   have hf1 := hP1.free
   have hB := hP1.alloc (.cells #[.int .i64 0, .string ⟨#[]⟩, .int .i64 0, .int .i64 0] 71)
   have k0 := hB.c0
   have k1 := hB.c1
   have bel : Below w1.heap.size w1 (w1.alloc (.cells #[.int .i64 0, .string ⟨#[]⟩, .int .i64 0, .int .i64 0] 71)) := (Below.refl _ _).alloc (Nat.le_refl _) _
   have e : ∀ o, (w1.alloc (.cells #[.int .i64 0, .string ⟨#[]⟩, .int .i64 0, .int .i64 0] 71)).cell? ⟨g, o, none⟩ = w1.cell? ⟨g, o, none⟩ := fun o => bel.cell (p := ⟨g, o, none⟩) lg
   have s0 := (e _).trans t0
   have s1 := (e _).trans t1
   have s2 := (e _).trans t2
   have s3 := (e _).trans t3
   have hlen : (i : Int) < (len : Int) := by omega
   have HBB := Lib.hid (HBX.out w1 hb1)
   clear hT1 htk hB bel e hb1 CB hP1 HBX HTK HP
   go_wp2_with fail
   go_region
   have hX := (Box4.new w1 (.int .i64 3) (.string tx) (.int .i64 nm) (.int .i64 p) 71).drew
   have CA3 := Lib.hid (CA1.out _ HBB.out)
   have HBB2 := Lib.hid HBB.out
   generalize (w1.alloc (.cells #[.int .i64 3, .string tx, .int .i64 nm, .int .i64 p] 71)).drew = w2 at *
   have y0 := hX.c0
   have y1 := hX.c1
   have y2 := hX.c2
   clear hX h0 h1 hf1 k0 k1 s0 s1 s2 s3 t0 t1 t2 t3 HBB CA1
   go_wp2_with fail
   refine CA3.out.mono ?_
   rintro e w4 ⟨rfl, sv4, vs4, hP4, hS4, hF4⟩
   have q1 := hP4.c1
   have qf := hP4.free
   have F := Lib.hid (FIN1.out _ _ HBB2.out sv4 vs4 hP4 hS4 hF4)
   clear CA3 HBB2 hP4 hS4 hF4 FIN1 y0 y1 y2
   go_wp2_with fail
   go_ret
   exact F.out
  ·-- a time
   rw [if_neg (by decide), if_neg (by decide), if_pos rfl] at hR
   have CA1 := Lib.hid (CA.out (cstN 4 nm ⟨#[]⟩) rfl)
   simp only at CA1
   have FIN1 := Lib.hid (FINX.out R _ hR.symm)
   clear CN CG CA FINX hR
   go_enter Tryz.func90, Tryz.ntmps90
   go_wp2_with fail
   refine CB.out.mono ?_
   rintro e w1 ⟨rfl, hb1⟩
   have hT1 := HTK.out w1 hb1
   have hP1 := HP.out.below hb1 hbw
   obtain ⟨kd', tx', nm', p', g, off, e1, rfl, lg, t0, t1, t2, t3⟩ := hT1.at hi
   rw [htk] at e1
   cases e1
   have h0 := hP1.c0
   have h1 := hP1.c1
   have hf1 := hP1.free
   have hB := hP1.alloc (.cells #[.int .i64 0, .string ⟨#[]⟩, .int .i64 0, .int .i64 0] 71)
   have k0 := hB.c0
   have k1 := hB.c1
   have bel : Below w1.heap.size w1 (w1.alloc (.cells #[.int .i64 0, .string ⟨#[]⟩, .int .i64 0, .int .i64 0] 71)) := (Below.refl _ _).alloc (Nat.le_refl _) _
   have e : ∀ o, (w1.alloc (.cells #[.int .i64 0, .string ⟨#[]⟩, .int .i64 0, .int .i64 0] 71)).cell? ⟨g, o, none⟩ = w1.cell? ⟨g, o, none⟩ := fun o => bel.cell (p := ⟨g, o, none⟩) lg
   have s0 := (e _).trans t0
   have s1 := (e _).trans t1
   have s2 := (e _).trans t2
   have s3 := (e _).trans t3
   have hlen : (i : Int) < (len : Int) := by omega
   have HBB := Lib.hid (HBX.out w1 hb1)
   clear hT1 htk hB bel e hb1 CB hP1 HBX HTK HP
   go_wp2_with fail
   go_region
   have hX := (Box4.new w1 (.int .i64 4) (.string tx) (.int .i64 nm) (.int .i64 p) 71).drew
   have HBB2 := Lib.hid HBB.out
   generalize (w1.alloc (.cells #[.int .i64 4, .string tx, .int .i64 nm, .int .i64 p] 71)).drew = w2 at *
   have y0 := hX.c0
   have y1 := hX.c1
   have y2 := hX.c2
   clear hX h0 h1 hf1 k0 k1 s0 s1 s2 s3 t0 t1 t2 t3 HBB
   go_wp2_with fail
   refine (CC.out _ _ _).mono ?_
   rintro e w3 ⟨rfl, hb3⟩
   have hB3 := HBB2.out.trans (hb3.mono HBB2.out.size)
   have CA3 := Lib.hid (CA1.out w3 hB3)
   have HB3 := Lib.hid hB3
   clear CC hb3 hB3 CA1 HBB2 y0 y1 y2
   go_wp2_with fail
   refine CA3.out.mono ?_
   rintro e w4 ⟨rfl, sv4, vs4, hP4, hS4, hF4⟩
   have q1 := hP4.c1
   have qf := hP4.free
   have F := Lib.hid (FIN1.out _ _ HB3.out sv4 vs4 hP4 hS4 hF4)
   clear CA3 HB3 hP4 hS4 hF4 FIN1
   go_wp2_with fail
   go_ret
   exact F.out
theorem readsQ_all {ts : List TA} {a : Option Addr} {len cap : Nat} : ∀ f, ReadsQ ts a len cap f ∧ PrimQ ts a len cap f := by
 intro f
 induction f with
 | zero =>
  refine ⟨?_, ?_⟩
  ·intro lvl i d b sv rs vs w _ _ _ _ _ _ hm
   omega
  ·intro i d b sv rs vs w _ _ _ _ _ hm
   omega
 | succ f ih => exact ⟨qread_step ih.1 ih.2, qprimary_step ih.1⟩
end Go.Proofs.YtmdpjahhhfajaaaGreatDoor
namespace Go.Proofs.YtmdpjahhhfajaaaGreatDoor
open Go.RowKit
theorem IsInts.at {w : World} {a : Option Addr} {len : Nat} {zs : List Int} (h : IsInts w a len zs) {k : Nat} (hk : k < len) :
  ∃ z b off, zs[k]? = some z ∧ a = some ⟨b, off, none⟩ ∧ b < w.heap.size ∧ w.cell? ⟨b, off + k, none⟩ = some (.int .i64 z) := by
 obtain ⟨h1, h2⟩ := h
 obtain ⟨z, hs⟩ : ∃ s, zs[k]? = some s := ⟨_, List.getElem?_eq_getElem (by omega)⟩
 rcases h2 with rfl | ⟨b, off, ha, hlt, hc⟩
 ·simp at hs
 ·exact ⟨z, b, off, hs, ha, hlt, hc k _ hs⟩
end Go.Proofs.YtmdpjahhhfajaaaGreatDoor
namespace Go.Proofs.YtmdpjahhhfajaaaGreatDoor
open Go.RowKit Wh
theorem slice_to_ints (a : Option Addr) (len cap k : Nat) (hk : k ≤ cap) (hm : cap ≤ maxLen) (hn : a = none → cap = 0) (hs : ∀ x, a = some x → x.spot = none) (W : World) :
  (Instr.slice 22 (.slice a len cap) none (some (.int .i64 k)) none).run Tryz.prog W = .ok (.slice a k cap) W := by
 have ht : Tryz.prog.underlying 22 = some (.slice (Tryz.prog.elem 22)) := by simp [Program.elem, Tryz.underlying22]
 have he : Tryz.prog.elem 22 = 3 := by simp [Program.elem, Tryz.underlying22]
 have hsz : (sizeOf 3).run Tryz.prog W = .ok 1 W := by
  obtain ⟨i0, hi, _, h1, _⟩ := info_parts info_int
  simp [sizeOf, typeInfo, hi, h1]
 rw [run_slice_h W _ _ _ _ ht .i64 _ (by omega) (by omega), he, hsz]
 by_cases hc : cap = 0
 ·simp [Result.andThen, sliced, hc]
 ·cases a with
  | none => exact absurd (hn rfl) hc
  | some x =>
   obtain ⟨b, off, spot⟩ := x
   have := hs _ rfl
   simp only at this
   subst this
   have hadd : (⟨b, off, none⟩ : Addr).add 0 = ⟨b, off, none⟩ := by unfold Addr.add; split <;> simp_all
   simp [Result.andThen, sliced, hc, hadd]
theorem maxL_bound (l : List Int) (h : ∀ z ∈ l, 0 ≤ z ∧ z ≤ 1000) : 0 ≤ maxL l ∧ maxL l ≤ 1000 := by
 unfold maxL
 have : ∀ (l : List Int) (a : Int), (∀ z ∈ l, 0 ≤ z ∧ z ≤ 1000) → 0 ≤ a → a ≤ 1000 → 0 ≤ l.foldl max a ∧ l.foldl max a ≤ 1000 := by
  intro l
  induction l with
  | nil => intro a _ h1 h2; exact ⟨h1, h2⟩
  | cons x l ih =>
   intro a hx h1 h2
   have := hx x (by simp)
   exact ih _ (fun z hz => hx z (by simp [hz])) (by omega) (by omega)
 exact this l 0 h (by omega) (by omega)
set_option maxHeartbeats 4000000 in
theorem rraise_any (a : Option Addr) (len cap n : Nat) (zs : List Int) (w : World) (hz : IsInts w a len zs) (hn : n ≤ len) (hc : len ≤ cap) (hm : cap ≤ maxLen) (hnil : a = none → cap = 0) (hs : ∀ x, a = some x → x.spot = none) (hb : ∀ z ∈ zs, 0 ≤ z ∧ z ≤ 1000) :
  Calls Tryz.prog 40 #[.slice a len cap, .int .i64 n] w fun e w' => e = .returned (.tuple #[.int .i64 (maxL (zs.drop (len - n)) + 1), .slice a (len - n) cap]) ∧ Below w.heap.size w w' := by
 have mm : maxLen = 9223372036854775807 := rfl
 obtain ⟨r, hr⟩ : ∃ r : Nat, len = r + n := ⟨len - n, by omega⟩
 subst hr
 rw [show r + n - n = r by omega]
 have HS := Lib.hid (fun W => slice_to_ints a (r + n) cap r (by omega) hm hnil hs W)
 have HZ := Lib.hid hz
 have HB := Lib.hid hb
 have hzl := hz.1
 clear hz hb hs hnil
 go_enter Tryz.func40, Tryz.ntmps40
 go_wp2_with fail
 go_loopw [6, 8] (fun hv iv wr => ∃ j : Nat, j ≤ n ∧ iv = .int .i64 ((r + j : Nat) : Int) ∧ hv = .int .i64 (maxL ((zs.drop r).take j)) ∧ Below w.heap.size w wr) (fun _ iv _ => (r + n) - (intOf iv).toNat)
 case atStart => exact ⟨0, Nat.zero_le _, by go_num, by simp [maxL], Below.refl _ _⟩
 case round =>
  obtain ⟨j, hj, rfl, rfl, hbel⟩ := hrel
  by_cases hlt : j < n
  ·obtain ⟨z, b, off, hz, rfl, hbl, hcell⟩ := (HZ.out.below hbel (Nat.le_refl _)).at (k := r + j) (by omega)
   have hz2 : (zs.drop r)[j]? = some z := by rw [List.getElem?_drop]; exact hz
   have HMX := Lib.hid (maxL_take (zs.drop r) j z hz2)
   generalize maxL ((zs.drop r).take j) = M at *
   clear hz hz2
   go_wp2_with fail
   go_roundw
   case rel => exact ⟨j + 1, by omega, by go_num, by first | (rw [HMX.out]; congr 1; all_goals (split <;> omega)) | rw [HMX.out], hbel⟩
   case measure => simp [intOf]; omega
  ·obtain rfl : j = n := by omega
   have HM : Hid (maxL ((zs.drop r).take j) = maxL (zs.drop r)) := by
    show _ = _
    rw [List.take_of_length_le (by rw [List.length_drop]; omega)]
   rw [HM.out]
   have HB2 : 0 ≤ maxL (zs.drop r) ∧ maxL (zs.drop r) ≤ 1000 := maxL_bound _ fun z hz => HB.out z (List.mem_of_mem_drop hz)
   obtain ⟨M, hM⟩ : ∃ M, maxL (zs.drop r) = M := ⟨_, rfl⟩
   rw [hM] at HB2 ⊢
   have HMM := Lib.hid hM
   clear hM HM
   have hsl := HS.out
   go_wp2_with fail
   go_quiet (fail)
   go_wp2_with fail
   go_ret2
   exact ⟨by rw [HMM.out]; rfl, Below.drewN' hbel _⟩
end Go.Proofs.YtmdpjahhhfajaaaGreatDoor
