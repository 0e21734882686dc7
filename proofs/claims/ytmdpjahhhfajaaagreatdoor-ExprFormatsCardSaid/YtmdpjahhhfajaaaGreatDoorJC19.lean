/-
  The program's parser: day. · The program's parser: operands. · Calls, plainly: what the table of built-in functions says of a call; a
-/
import Derived.Test.YtmdpjahhhfajaaaGreatDoorJC18
set_option linter.unusedVariables false
set_option linter.unusedSimpArgs false
set_option maxRecDepth 100000
namespace Go.Proofs.YtmdpjahhhfajaaaGreatDoor
open Go.RowKit Wh
set_option maxHeartbeats 16000000 in
theorem qday_any {ts : List TA} {a : Option Addr} {len cap f : Nat} (H : ReadsQ ts a len cap f) (i d b : Nat) (sv : Value) (rs : List (List Nd)) (vs : List Value) (w : World) (hP : Pq w b (.slice a len cap) i d sv) (hS : Sk w b rs sv vs) (hE : EnvQ w b a len ts) (hi : i < len) (hrs : rs.length ≤ i) (hm : 9 * (len - i) + 8 < f) (hd : d ≤ 256) :
  Calls Tryz.prog 183 #[ptr b] w (QdP w b (.slice a len cap) len d rs sv vs (seqP (prT ts f 0 i (d + 1)) (dayT ts))) := by
 have hbw := hP.lt
 have hlen8 : len ≤ 100000 := hE.hH.le
 have CN := Lib.hid (qnested_any H 0 i d b sv rs vs w (by omega) hP hS hE hi hrs (by omega) hd)
 have CT := Lib.hid (fun S j (hj : j < len) dd sv' W (hb : Below b w W) (hPW : Pq W b (.slice a len cap) j dd sv') => qtake_any b a len cap ts j dd sv' S W hPW (hE.below hb).tk hj (by omega))
 have HWC := Lib.hid (fun j (hj : j < len) => wT_sym (hE.hO j (by rw [hE.hH.ln]; exact hj)) (s := comS) (by decide +kernel) (by decide +kernel))
 have HWS := Lib.hid (fun j (hj : j < len) => wT_sym (hE.hO j (by rw [hE.hH.ln]; exact hj)) (s := clsS) (by decide +kernel) (by decide +kernel))
 have HX := Lib.hid (fun j (hj : j < len) (h : ¬ (tkA ts j).1.k = 0) => hE.hH.next hj h)
 have HTK := Lib.hid (fun W (hb : Below b w W) => (hE.below hb).tk)
 have HLN := Lib.hid hE.hH.ln
 have CR := Lib.hid (fun s W => tReserved_any s W)
 have CA := Lib.hid (fun l tx j dd sv' vs' W (hPW : Pq W b (.slice a len cap) j dd sv') (hSW : Sk W b (rs ++ [l.take 257]) sv' vs') => qapl1_any ⟨20, ⟨0, 0, ⟨#[]⟩⟩, tx, 0⟩ l (by show arN _ = _; rfl) b (.slice a len cap) j dd sv' rs vs' W hPW hSW (by omega))
 obtain ⟨D, hD⟩ : ∃ D, seqP (prT ts f 0 i (d + 1)) (dayT ts) = D := ⟨_, rfl⟩
 rw [hD]
 obtain ⟨R, hR⟩ : ∃ R, prT ts f 0 i (d + 1) = R := ⟨_, rfl⟩
 rw [hR] at CN hD
 clear hP hS hE hR H
 unfold ndV at CA
 simp only at CA
 go_enter Tryz.func183, Tryz.ntmps183
 go_wp2_with fail
 refine CN.out.mono ?_
 rintro e w2 ⟨j, dd, x, sv', vs', rfl, hjd, hP2, hb2, hc⟩
 rcases hc with ⟨rfl, rfl, l, rfl, hS2⟩ | ⟨hx, hdd, rfl⟩
 rotate_left
 ·have F := Lib.hid (QdP.err (rs := rs) (show D = .bad x j from hD.symm) hx hjd.1 hdd hjd.2 hP2 hb2)
  clear CA CN CT HWC HWS HX HTK CR hb2 hP2 hjd hD
  go_wp2_with fail
  go_ret
  exact F.out
 rw [seqP_ok] at hD
 obtain ⟨hj, hd3⟩ := hjd
 have CT2 := Lib.hid (CT.out comS j hj dd sv' w2 hb2.bel hP2)
 have HB2 := Lib.hid hb2
 have HS2 := Lib.hid hS2
 have hwj := HWC.out j hj
 cases hq1 : symT (tkA ts j) comS with
 | false =>
  rw [hwj, hq1, if_neg (by simp), if_neg (by simp)] at CT2
  have hD2 : D = .bad 3 j := by rw [← hD]; unfold dayT; rw [if_pos hq1]
  clear CA CN CT HWC HWS HX HTK CR hb2 hP2 hwj hq1 hD
  go_wp2_with fail
  refine CT2.out.mono ?_
  rintro e w3 ⟨rfl, hP3, hg3⟩
  have F := Lib.hid (QdP.err (rs := rs) hD2 (by decide : ¬ (3 : Int) = 0) hj (Nat.le_refl _) hd3 hP3 (HB2.out.trans (Fb.grown hg3 (Nat.lt_of_lt_of_le hbw HB2.out.bel.size))))
  clear CT2 hP3 hg3 HB2 HS2 hS2
  go_wp2_with fail
  go_ret
  exact F.out
 | true =>
  rw [hwj, hq1, if_pos rfl, if_pos rfl] at CT2
  have hj1 := HX.out j hj (by rw [(symT_k hq1).1]; decide)
  unfold dayT at hD
  rw [if_neg (by rw [hq1]; simp)] at hD
  have htk := tkA_in (ts := ts) (i := j + 1) (by rw [HLN.out]; exact hj1)
  have HX1 := Lib.hid (HX.out (j + 1) hj1)
  have HWS1 := Lib.hid (fun h => HWS.out (j + 2) h)
  obtain ⟨q, hq⟩ : ∃ q, j + 1 = q := ⟨_, rfl⟩
  rw [hq] at CT2 hj1 htk HX1 hD
  have hq2 : j + 2 = q + 1 := by omega
  rw [hq2] at HWS1 hD
  have hjq : j + 3 = q + 1 + 1 := by omega
  rw [hjq] at hD
  obtain ⟨u, hu⟩ : ∃ u, tkA ts q = u := ⟨_, rfl⟩
  rw [hu] at htk HX1 hD
  obtain ⟨⟨kd, tx, nm⟩, p⟩ := u
  simp only at HX1 hD
  have HD := Lib.hid hD
  have hq8 : q < 100000 := by omega
  clear hb2 hP2 hwj hq1 hD CN HWC HWS hu hS2
  go_wp2_with fail
  refine CT2.out.mono ?_
  rintro e w3 ⟨rfl, hP3, hg3⟩
  have hB3 := HB2.out.trans (Fb.grown hg3 (Nat.lt_of_lt_of_le hbw HB2.out.bel.size))
  have hS3 := HS2.out.keep hg3
  have hbw3 := hP3.lt
  obtain ⟨kd', tx', nm', p', g, off, e1, rfl, lg, t0, t1, t2, t3⟩ := (HTK.out w3 hB3.bel).at hj1
  rw [htk] at e1
  cases e1
  have h0 := hP3.c0
  have h1 := hP3.c1
  have hf1 := hP3.free
  have hB := hP3.alloc (.cells #[.int .i64 0, .string ⟨#[]⟩, .int .i64 0, .int .i64 0] 71)
  have k0 := hB.c0
  have k1 := hB.c1
  have bel : Below w3.heap.size w3 (w3.alloc (.cells #[.int .i64 0, .string ⟨#[]⟩, .int .i64 0, .int .i64 0] 71)) := (Below.refl _ _).alloc (Nat.le_refl _) _
  have e : ∀ o, (w3.alloc (.cells #[.int .i64 0, .string ⟨#[]⟩, .int .i64 0, .int .i64 0] 71)).cell? ⟨g, o, none⟩ = w3.cell? ⟨g, o, none⟩ := fun o => bel.cell (p := ⟨g, o, none⟩) lg
  have s0 := (e _).trans t0
  have s1 := (e _).trans t1
  have s2 := (e _).trans t2
  have s3 := (e _).trans t3
  have hlen : (q : Int) < (len : Int) := by omega
  have HP3 := Lib.hid hP3
  have HS3 := Lib.hid hS3
  have HB3 := Lib.hid hB3
  clear htk hB bel e CT2 hP3 hS3 hg3 hB3 HB2 HS2
  have hbX : ∀ z, Below w3.heap.size w3 ((w3.alloc (.cells #[.int .i64 z, .string tx, .int .i64 nm, .int .i64 p] 71)).drew) := fun z => ((Below.refl _ _).alloc (Nat.le_refl _) _).drew
  have HBX := Lib.hid hbX
  clear hbX
  by_cases hk1 : kd = 1
  ·subst hk1
   have HX2 := Lib.hid (HX1.out (by decide))
   clear HX1
   go_wp2_with fail
   go_region
   have hX := (Box4.new w3 (.int .i64 1) (.string tx) (.int .i64 nm) (.int .i64 p) 71).drew
   have hP4 := HP3.out.below (HBX.out 1) hbw3
   have hS4 := HS3.out.below (HBX.out 1)
   have hB4 := HB3.out.trans (Fb.below (HBX.out 1) hbw3)
   have hne : b ≠ w3.heap.size := by omega
   generalize (w3.alloc (.cells #[.int .i64 1, .string tx, .int .i64 nm, .int .i64 p] 71)).drew = w4 at *
   have y0 := hX.c0
   have y1 := hX.c1
   have z1 := hP4.c1
   have zf := hP4.free
   have y2 := (hX.far (a := ⟨b, 1, none⟩) (v := .int .i64 ((q : Int) + 1)) (by simpa using hne.symm)).c1
   have HP4 := Lib.hid hP4
   have HS4 := Lib.hid hS4
   have HB4 := Lib.hid hB4
   clear hX hP4 hS4 hB4 HP3 HS3 HB3 HBX h0 h1 hf1 k0 k1 s0 s1 s2 s3 t0 t1 t2 t3
   cases hres : resB tx with
   | true =>
    have hD2 : D = .bad 3 q := by
     rw [← HD.out, if_pos (.inr hres)]
    have CR1 := Lib.hid (CR.out tx)
    rw [hres] at CR1
    have F := Lib.hid (QdP.err (rs := rs) hD2 (by decide : ¬ (3 : Int) = 0) hj1 (Nat.le_refl _) hd3 HP4.out HB4.out)
    clear HD CR HP4 HS4 HB4 HX2 HX HWS1 CA CT HTK
    go_wp2_with fail
    refine (CR1.out _).mono ?_
    rintro e w5 ⟨rfl, rfl⟩
    go_wp2_with fail
    go_ret
    exact F.out
   | false =>
    have hD2 := HD.out
    rw [if_neg (by rw [hres]; simp)] at hD2
    have CR1 := Lib.hid (CR.out tx)
    rw [hres] at CR1
    have hP5 := Pq.inc1 HP4.out
    have hS5 := HS4.out.keep (grown_set w4 b 1 (.int .i64 ((q : Int) + 1)))
    have hB5 := HB4.out.trans (Fb.set 1 (.int .i64 ((q : Int) + 1)) HP4.out.lt)
    have CA5 := Lib.hid (CA.out l tx (q + 1) dd sv' vs' _ hP5 hS5)
    have HB5 := Lib.hid hB5
    have HD2 := Lib.hid hD2
    have hj2 := HX2.out
    clear HD CR HP4 HS4 HB4 hP5 hS5 hB5 CA hD2 HX2
    go_wp2_with fail
    refine (CR1.out _).mono ?_
    rintro e w5 ⟨rfl, rfl⟩
    go_wp2_with fail
    refine CA5.out.mono ?_
    rintro e w6 ⟨rfl, sv6, vs6, hP6, hS6, hF6⟩
    have hB6 := HB5.out.trans hF6
    have CT6 := Lib.hid (CT.out clsS (q + 1) hj2 dd sv6 w6 hB6.bel hP6)
    have hws := HWS1.out hj2
    have HB6 := Lib.hid hB6
    have HS6 := Lib.hid hS6
    have hbw6 := hP6.lt
    clear hB6 hS6 hP6 hF6 CA5 CT HWS1 HTK HB5 z1 zf y0 y1 y2
    cases hc : symT (tkA ts (q + 1)) clsS with
    | false =>
     rw [hws, hc, if_neg (by simp), if_neg (by simp)] at CT6
     have hD3 := HD2.out
     rw [if_pos hc] at hD3
     clear hws hc HD2
     go_wp2_with fail
     refine CT6.out.mono ?_
     rintro e w7 ⟨rfl, hP7, hg7⟩
     have F := Lib.hid (QdP.err (rs := rs) hD3.symm (by decide : ¬ (3 : Int) = 0) hj2 (Nat.le_refl _) hd3 hP7 (HB6.out.trans (Fb.grown hg7 hbw6)))
     clear hP7 hg7 CT6 HB6 HS6 hD3
     go_wp2_with fail
     go_ret
     exact F.out
    | true =>
     rw [hws, hc, if_pos rfl, if_pos rfl] at CT6
     have hD3 := HD2.out
     rw [if_neg (by rw [hc]; simp)] at hD3
     have hj3 := HX.out (q + 1) hj2 (by rw [(symT_k hc).1]; decide)
     clear hws hc HD2
     go_wp2_with fail
     refine CT6.out.mono ?_
     rintro e w7 ⟨rfl, hP7, hg7⟩
     have F : Hid (QdP w b (.slice (some ⟨g, off, none⟩) len cap) len dd rs sv vs D (.returned (.int .i64 0)) w7) := QdP.done (rs := rs) hD3.symm hj3 (by omega) hP7 (HS6.out.keep hg7) HB6.out (Fb.grown hg7 hbw6)
     clear hP7 hg7 CT6 HB6 HS6 hD3
     go_wp2_with fail
     go_ret
     exact F.out
  ·have hkb : (kd == 1) = false := by simpa using hk1
   have hD2 : D = .bad 3 q := by
    rw [← HD.out, if_pos (.inl hk1)]
   have F := Lib.hid (QdP.err (rs := rs) hD2 (by decide : ¬ (3 : Int) = 0) hj1 (Nat.le_refl _) hd3 (HP3.out.below (HBX.out kd) hbw3) (HB3.out.trans (Fb.below (HBX.out kd) hbw3)))
   clear HD CR CA CT HTK HX HX1 HWS1 HP3 HS3 HB3 HBX
   go_wp2_with fail
   go_region
   go_wp2_with fail
   go_ret
   exact F.out
end Go.Proofs.YtmdpjahhhfajaaaGreatDoor
namespace Go.Proofs.YtmdpjahhhfajaaaGreatDoor
open Go.RowKit Wh
def OpsP (ts : List TA) (s : ByteArray) (w : World) (b : Nat) (sl : Value) (len d : Nat) (rs : List (List Nd)) (sv : Value) (vs : List Value) (R : PO) (e : Ending) (w' : World) : Prop :=
 ∃ (j dd : Nat) (n x : Int) (sv' : Value) (vs' : List Value), e = .returned (.tuple #[.int .i64 n, .int .i64 x]) ∧ (j < len ∧ dd ≤ 300) ∧ Pq w' b sl j dd sv' ∧ Fb w b sv vs w' sv' vs' ∧
  ((x = 0 ∧ dd = d ∧ ∃ (ls : List (List Nd)), n = (ls.length : Int) ∧ rs.length + ls.length ≤ j ∧ symT (tkA ts j) clsS = true ∧ R = finT s ls j ∧ Sk w' b (rs ++ ls.map (·.take 257)) sv' vs') ∨ (¬ x = 0 ∧ d ≤ dd ∧ R = .bad x j))
set_option maxHeartbeats 16000000 in
theorem qoperands_any {ts : List TA} {a : Option Addr} {len cap f : Nat} (H : ReadsQ ts a len cap f) (s : ByteArray) (i d b : Nat) (sv : Value) (rs : List (List Nd)) (vs : List Value) (w : World) (hP : Pq w b (.slice a len cap) i d sv) (hS : Sk w b rs sv vs) (hE : EnvQ w b a len ts) (hi : i < len) (hrs : rs.length ≤ i) (hm : 9 * (len - i) + 8 < f) (hd : d ≤ 256) :
  Calls Tryz.prog 184 #[ptr b] w (OpsP ts s w b (.slice a len cap) len d rs sv vs (if symT (tkA ts i) clsS = true then finT s [] i else agT ts (fun k => prT ts f 0 k (d + 1)) s ts.length [] i)) := by
 have hbw := hP.lt
 have hlen8 : len ≤ 100000 := hE.hH.le
 have CW := Lib.hid (fun j (hj : j < len) dd sv' W (hb : Below b w W) (hPW : Pq W b (.slice a len cap) j dd sv') => qword_any b a len cap ts j dd sv' W hPW (hE.below hb).tk hj (by omega))
 have HWC := Lib.hid (fun j (hj : j < len) => wT_sym (hE.hO j (by rw [hE.hH.ln]; exact hj)) (s := comS) (by decide +kernel) (by decide +kernel))
 have HWS := Lib.hid (fun j (hj : j < len) => wT_sym (hE.hO j (by rw [hE.hH.ln]; exact hj)) (s := clsS) (by decide +kernel) (by decide +kernel))
 have HX := Lib.hid (fun j (hj : j < len) (h : ¬ (tkA ts j).1.k = 0) => hE.hH.next hj h)
 have CN := Lib.hid (fun k (hk : k < len) (hik : i ≤ k) sv' (ls : List (List Nd)) vs' W (hls : rs.length + ls.length ≤ k) (hb : Below b w W) (hPW : Pq W b (.slice a len cap) k d sv') (hSW : Sk W b (rs ++ ls.map (·.take 257)) sv' vs') => qnested_any H 0 k d b sv' (rs ++ ls.map (·.take 257)) vs' W (by omega) hPW hSW (hE.below hb) hk (by simp; omega) (by omega) hd)
 have HG := Lib.hid (fun k (hk : k < len) (hik : i ≤ k) => pr_gd hE.hH.el f 0 k (d + 1) (by omega) (by rw [hE.hH.ln]; exact hk) (by rw [hE.hH.ln]; omega) (At8.no (by omega)))
 have hln := hE.hH.ln
 have hW0 : Below b w w := Below.refl _ _
 have CW0 := Lib.hid (CW.out i hi d sv w hW0 hP)
 have hws := HWS.out i hi
 by_cases h0 : symT (tkA ts i) clsS = true
 ·rw [if_pos h0]
  rw [h0] at hws
  obtain ⟨W0, hW0e⟩ : ∃ s, wT (tkA ts i) = s := ⟨_, rfl⟩
  rw [hW0e] at CW0 hws
  have hw2 := eqS_lit hws (show clsS.toList = [41] from by decide +kernel)
  have HPS := Lib.hid (And.intro hP hS)
  clear hP hS hE H CW HWC HWS HX CN HG hws hW0e hW0
  go_enter Tryz.func184, Tryz.ntmps184
  go_wp2_with fail
  refine CW0.out.mono ?_
  rintro e w1 ⟨rfl, hb1⟩
  have F : Hid (OpsP ts s w b (.slice a len cap) len d rs sv vs (finT s [] i) (.returned (.tuple #[.int .i64 0, .int .i64 0])) w1) := ⟨i, d, 0, 0, sv, vs, rfl, ⟨hi, by omega⟩, HPS.out.1.below hb1 hbw, Fb.below hb1 hbw, .inl ⟨rfl, rfl, [], rfl, by simpa using hrs, h0, rfl, by simpa using HPS.out.2.below hb1⟩⟩
  clear hb1 CW0 HPS
  go_wp2_with fail
  go_ret2
  exact F.out
 have h0f : symT (tkA ts i) clsS = false := by simpa using h0
 rw [if_neg h0]
 rw [h0f] at hws
 obtain ⟨W0, hW0e⟩ : ∃ s, wT (tkA ts i) = s := ⟨_, rfl⟩
 rw [hW0e] at CW0 hws
 have hw2 := eqS_lit hws (show clsS.toList = [41] from by decide +kernel)
 obtain ⟨R, hR⟩ : ∃ R, agT ts (fun k => prT ts f 0 k (d + 1)) s ts.length [] i = R := ⟨_, rfl⟩
 rw [hR]
 have HR := Lib.hid hR
 have HP := Lib.hid hP
 have HS := Lib.hid hS
 clear hP hS hE H hws hW0e hR h0 h0f hW0
 go_enter Tryz.func184, Tryz.ntmps184
 go_wp2_with fail
 refine CW0.out.mono ?_
 rintro e w1 ⟨rfl, hb1⟩
 have HP1 := Lib.hid (HP.out.below hb1 hbw)
 have HS1 := Lib.hid (HS.out.below hb1)
 have HB1 := Lib.hid (Fb.below (sv := sv) (vs := vs) hb1 hbw)
 clear hb1 CW0 HP HS
 go_wp2_with fail
 go_loopw [2] (fun iv wr => ∃ (k g : Nat) (ls : List (List Nd)) (svr : Value) (vsr : List Value), iv = .int .i64 (ls.length : Int) ∧ Hid (i ≤ k ∧ k < len ∧ rs.length + ls.length ≤ k ∧ len ≤ k + g ∧ agT ts (fun k => prT ts f 0 k (d + 1)) s g ls k = R ∧ Pq wr b (.slice a len cap) k d svr ∧ Sk wr b (rs ++ ls.map (·.take 257)) svr vsr ∧ Fb w b sv vs wr svr vsr)) (fun _ wr => qM b len wr)
 case atStart => exact ⟨i, ts.length, [], sv, vs, rfl, Nat.le_refl _, hi, by simpa using hrs, by omega, HR.out, HP1.out, by simpa using HS1.out, HB1.out⟩
 case round =>
  obtain ⟨k, g, ls, svr, vsr, rfl, HX2⟩ := hrel
  obtain ⟨hik, hk, hls, hkg, hag, hPr, hSr, hFr⟩ := HX2.out
  have hbr := hPr.lt
  have HM := Lib.hid (qM_eq (len := len) hPr)
  have CN1 := Lib.hid (CN.out k hk hik svr ls vsr wr hls hFr.bel hPr hSr)
  obtain ⟨g, rfl⟩ : ∃ g', g = g' + 1 := ⟨g - 1, by omega⟩
  rw [agT] at hag
  have hgd := HG.out k hk hik
  obtain ⟨P, hPP⟩ : ∃ P, prT ts f 0 k (d + 1) = P := ⟨_, rfl⟩
  rw [hPP] at CN1 hag hgd
  have HAG := Lib.hid hag
  have HGD := Lib.hid hgd
  have HFr := Lib.hid hFr
  have hls8 : ls.length ≤ 100000 := by omega
  clear HX2 hag hPr hSr hFr hgd hPP HG CN HR HP1 HS1 HB1
  go_wp2_with fail
  refine CN1.out.mono ?_
  rintro e w2 ⟨j, dd, x, sv2, vs2, rfl, hjd, hP2, hb2, hc⟩
  have hB2 := HFr.out.trans hb2
  rcases hc with ⟨rfl, rfl, l, rfl, hS2⟩ | ⟨hx, hdd, rfl⟩
  rotate_left
  ·have F : Hid (OpsP ts s w b (.slice a len cap) len d rs sv vs R (.returned (.tuple #[.int .i64 0, .int .i64 x])) w2) := ⟨j, dd, 0, x, sv2, vs2, rfl, hjd, hP2, hB2, .inr ⟨hx, hdd, HAG.out.symm⟩⟩
   clear CN1 CW HWC HWS HX HAG HGD HFr hP2 hb2 hB2 hjd
   go_wp2_with fail
   go_ret2
   exact F.out
  obtain ⟨hj, hd3⟩ := hjd
  obtain ⟨g1, g2, g3, g4, _⟩ := HGD.out
  have hag := HAG.out
  simp only at hag
  have CW2 := Lib.hid (CW.out j hj dd sv2 w2 hB2.bel hP2)
  have hws2 := HWS.out j hj
  have hwc2 := HWC.out j hj
  have hS2b : Sk w2 b (rs ++ (ls ++ [l]).map (·.take 257)) sv2 vs2 := by simpa using hS2
  have HP2 := Lib.hid hP2
  have HS2 := Lib.hid hS2b
  have HB2 := Lib.hid hB2
  have hbw2 := hP2.lt
  have hnc : ((ls ++ [l]).length : Int) = (ls.length : Int) + 1 := by simp
  have hlen2 : (ls ++ [l]).length = ls.length + 1 := by simp
  obtain ⟨S, hSe⟩ : ∃ s, wT (tkA ts j) = s := ⟨_, rfl⟩
  rw [hSe] at CW2 hws2 hwc2
  clear CN1 CW HWC HWS HAG HGD HFr hP2 hb2 hB2 hS2 hS2b hSe
  by_cases hcl : symT (tkA ts j) clsS = true
  ·rw [if_pos hcl] at hag
   rw [hcl] at hws2
   have e1 := eqS_lit hws2 (show clsS.toList = [41] from by decide +kernel)
   have HF : Hid (∀ w3, Below w2.heap.size w2 w3 → OpsP ts s w b (.slice a len cap) len dd rs sv vs R (.returned (.tuple #[.int .i64 ((ls.length : Int) + 1), .int .i64 0])) w3) := fun w3 hb3 => ⟨j, dd, (ls.length : Int) + 1, 0, sv2, vs2, rfl, ⟨hj, hd3⟩, HP2.out.below hb3 hbw2, HB2.out.trans (Fb.below hb3 hbw2), .inl ⟨rfl, rfl, ls ++ [l], hnc.symm, by omega, hcl, hag.symm, HS2.out.below hb3⟩⟩
   clear hag hws2 hwc2 hcl HX HP2 HS2 HB2
   go_wp2_with fail
   refine CW2.out.mono ?_
   rintro e w3 ⟨rfl, hb3⟩
   have F := Lib.hid (HF.out w3 hb3)
   clear hb3 HF CW2
   go_wp2_with fail
   go_ret2
   exact F.out
  ·have hclf : symT (tkA ts j) clsS = false := by simpa using hcl
   rw [if_neg hcl] at hag
   rw [hclf] at hws2
   have e1 := eqS_lit hws2 (show clsS.toList = [41] from by decide +kernel)
   by_cases hcm : symT (tkA ts j) comS = true
   ·rw [if_pos hcm] at hag
    rw [hcm] at hwc2
    have e2 := eqS_lit hwc2 (show comS.toList = [44] from by decide +kernel)
    have hj1 := HX.out j hj (by rw [(symT_k hcm).1]; decide)
    have HAG := Lib.hid hag
    clear hag hws2 hwc2 hcl hclf hcm HX
    go_wp2_with fail
    refine CW2.out.mono ?_
    rintro e w3 ⟨rfl, hb3⟩
    have hP3 := HP2.out.below hb3 hbw2
    have p1 := hP3.c1
    have pf := hP3.free
    have hP4 := Pq.inc1 hP3
    have hF4 := (HB2.out.trans (Fb.below hb3 hbw2)).trans (Fb.set 1 (.int .i64 ((j : Int) + 1)) hP3.lt)
    have hS4 := (HS2.out.below hb3).keep (grown_set w3 b 1 (.int .i64 ((j : Int) + 1)))
    have HR2 : Hid (i ≤ j + 1 ∧ j + 1 < len ∧ rs.length + (ls ++ [l]).length ≤ j + 1 ∧ len ≤ j + 1 + g ∧ agT ts (fun k => prT ts f 0 k (dd + 1)) s g (ls ++ [l]) (j + 1) = R ∧ Pq (w3.setCell ⟨b, 1, none⟩ (.int .i64 ((j : Int) + 1))) b (.slice a len cap) (j + 1) dd sv2 ∧ Sk (w3.setCell ⟨b, 1, none⟩ (.int .i64 ((j : Int) + 1))) b (rs ++ (ls ++ [l]).map (·.take 257)) sv2 vs2 ∧ Fb w b sv vs (w3.setCell ⟨b, 1, none⟩ (.int .i64 ((j : Int) + 1))) sv2 vs2) := ⟨by omega, hj1, by omega, by omega, HAG.out, hP4, hS4, hF4⟩
    have HM2 := Lib.hid (qM_eq (len := len) hP4)
    clear hP3 hP4 hF4 hS4 HAG HP2 HS2 HB2 hb3 CW2
    go_wp2_with fail
    go_roundw
    case rel => exact ⟨j + 1, g, ls ++ [l], sv2, vs2, by rw [hnc], HR2⟩
    case measure =>
     rw [HM.out, HM2.out]
     omega
   ·have hcmf : symT (tkA ts j) comS = false := by simpa using hcm
    rw [if_neg hcm] at hag
    rw [hcmf] at hwc2
    have e2 := eqS_lit hwc2 (show comS.toList = [44] from by decide +kernel)
    have HF : Hid (∀ w3, Below w2.heap.size w2 w3 → OpsP ts s w b (.slice a len cap) len dd rs sv vs R (.returned (.tuple #[.int .i64 0, .int .i64 3])) w3) := fun w3 hb3 => ⟨j, dd, 0, 3, sv2, vs2, rfl, ⟨hj, hd3⟩, HP2.out.below hb3 hbw2, HB2.out.trans (Fb.below hb3 hbw2), .inr ⟨by decide, Nat.le_refl _, hag.symm⟩⟩
    clear hag hws2 hwc2 hcl hclf hcm hcmf HX HP2 HS2 HB2
    go_wp2_with fail
    refine CW2.out.mono ?_
    rintro e w3 ⟨rfl, hb3⟩
    have F := Lib.hid (HF.out w3 hb3)
    clear hb3 HF CW2
    go_wp2_with fail
    go_ret2
    exact F.out
end Go.Proofs.YtmdpjahhhfajaaaGreatDoor
namespace Wh
open Go Go.Proofs.YtmdpjahhhfajaaaGreatDoor
theorem bltO_day {s : ByteArray} (h : eqS s dayS = true) : bltO s = some (dayS, 20) := by
 obtain rfl := eqS_iff.1 h
 decide +kernel
theorem bltO_call {s : ByteArray} (h : eqS s dayS = false) (n : Nat) : (bltO s = none ∧ callO s n = (⟨21, ⟨0, 0, ⟨#[]⟩⟩, s, n⟩, (n : Int))) ∨ (∃ x op, bltO s = some (x, op) ∧ ¬ op = 20 ∧ callO s n = (opNd op, arN (opNd op))) := by
 unfold callO
 by_cases e1 : eqS s ⟨#[105, 102]⟩ = true
 ·rw [if_pos e1]
  obtain rfl := eqS_iff.1 e1
  exact .inr ⟨⟨#[105, 102]⟩, 17, by decide +kernel, by decide, rfl⟩
 rw [if_neg e1]
 by_cases e2 : eqS s ⟨#[99, 111, 97, 108, 101, 115, 99, 101]⟩ = true
 ·rw [if_pos e2]
  obtain rfl := eqS_iff.1 e2
  exact .inr ⟨⟨#[99, 111, 97, 108, 101, 115, 99, 101]⟩, 18, by decide +kernel, by decide, rfl⟩
 rw [if_neg e2]
 by_cases e3 : eqS s ⟨#[105, 115, 110, 117, 108, 108]⟩ = true
 ·rw [if_pos e3]
  obtain rfl := eqS_iff.1 e3
  exact .inr ⟨⟨#[105, 115, 110, 117, 108, 108]⟩, 16, by decide +kernel, by decide, rfl⟩
 rw [if_neg e3]
 by_cases e4 : eqS s ⟨#[108, 101, 110, 103, 116, 104]⟩ = true
 ·rw [if_pos e4]
  obtain rfl := eqS_iff.1 e4
  exact .inr ⟨⟨#[108, 101, 110, 103, 116, 104]⟩, 19, by decide +kernel, by decide, rfl⟩
 rw [if_neg e4]
 refine .inl ⟨?_, rfl⟩
 have f1 : eqS ⟨#[105, 102]⟩ s = false := by rw [eqS_comm]; simpa using e1
 have f2 : eqS ⟨#[99, 111, 97, 108, 101, 115, 99, 101]⟩ s = false := by rw [eqS_comm]; simpa using e2
 have f3 : eqS ⟨#[105, 115, 110, 117, 108, 108]⟩ s = false := by rw [eqS_comm]; simpa using e3
 have f4 : eqS ⟨#[108, 101, 110, 103, 116, 104]⟩ s = false := by rw [eqS_comm]; simpa using e4
 have f5 : eqS ⟨#[100, 97, 121]⟩ s = false := by rw [eqS_comm]; exact h
 unfold bltO bltP
 simp only [List.find?, f1, f2, f3, f4, f5]
theorem arN_call (s : ByteArray) (n : Nat) : arN ⟨21, ⟨0, 0, ⟨#[]⟩⟩, s, (n : Int)⟩ = (n : Int) := by
 unfold arN
 simp
def calT (ts : List TA) (f : Nat) (s : ByteArray) (i d : Nat) : PO :=
 if eqS s dayS = true then seqP (prT ts f 0 (i + 2) (d + 1)) (dayT ts)
 else if symT (tkA ts (i + 2)) clsS = true then finT s [] (i + 2)
 else agT ts (fun k => prT ts f 0 k (d + 1)) s ts.length [] (i + 2)
theorem prT_name {ts : List TA} {f i d : Nat} (hk : (tkA ts i).1.k = 1) : prT ts (f + 1) 8 i d = if (wrdC (tkA ts i).1.tx).2 = true then .ok [(wrdC (tkA ts i).1.tx).1] (i + 1) else if symT (tkA ts (i + 1)) opnS = true then calT ts f (tkA ts i).1.tx i d else .ok [⟨1, ⟨0, 0, ⟨#[]⟩⟩, (tkA ts i).1.tx, 0⟩] (i + 1) := by
 rw [prT, if_neg (by decide), if_neg (by decide), if_neg (by decide), if_pos rfl, if_neg (by omega), if_neg (by omega), if_neg (by omega), if_pos hk]
 unfold wrdC
 by_cases e1 : eqS (tkA ts i).1.tx nulS = true
 ·simp only [e1, if_true]
 by_cases e2 : eqS (tkA ts i).1.tx truS = true
 ·simp only [e1, e2, if_true, if_false, Bool.false_eq_true]
 by_cases e3 : eqS (tkA ts i).1.tx falS = true
 ·simp only [e1, e2, e3, if_true, if_false, Bool.false_eq_true]
 simp only [e1, e2, e3, if_true, if_false, Bool.false_eq_true]
 rfl
theorem wrdC_ar (s : ByteArray) (h : (wrdC s).2 = true) : arN (wrdC s).1 = 0 := by
 unfold wrdC at h ⊢
 by_cases e1 : eqS s nulS = true
 ·rw [if_pos e1]; rfl
 rw [if_neg e1] at h ⊢
 by_cases e2 : eqS s truS = true
 ·rw [if_pos e2]; rfl
 rw [if_neg e2] at h ⊢
 by_cases e3 : eqS s falS = true
 ·rw [if_pos e3]; rfl
 rw [if_neg e3] at h
 cases h
theorem wrdC_k {ts : List TA} {i : Nat} (hk : (tkA ts i).1.k = 1) : wT (tkA ts i) = (tkA ts i).1.tx := by
 unfold wT
 rw [if_pos (.inl hk)]
end Wh
