/-
  The program's parser: prefix, group. · The program's parser: not, unary; what a primary leaves.
-/
import Derived.Test.YtmdpjahhhfajaaaGreatDoorJC16
set_option linter.unusedVariables false
set_option linter.unusedSimpArgs false
set_option maxRecDepth 100000
namespace Go.Proofs.YtmdpjahhhfajaaaGreatDoor
open Go.RowKit Wh
theorem qapl_any (t : Nd) (ls : List (List Nd)) (ht : arN t = (ls.length : Int)) (hp8 : ls.length ≤ 8) (b : Nat) (sl : Value) (i d : Nat) (sv : Value) (rs : List (List Nd)) (vs : List Value) (w : World) (hP : Pq w b sl i d sv) (hS : Sk w b (rs ++ ls.map (·.take 257)) sv vs) (hnl : rs.length ≤ 190000) :
  Calls Tryz.prog 91 #[ptr b, ndV t] w fun e w' => e = .returned (.tuple #[]) ∧ ∃ sv' vs', Pq w' b sl i d sv' ∧ Sk w' b (rs ++ [(ls.flatten ++ [t]).take 257]) sv' vs' ∧ Fb w b sv vs w' sv' vs' := by
 have h := qapply_any t ls.length ht hp8 b sl i d sv rs (ls.map (·.take 257)) vs (by simp) w hP hS hnl
 rw [cut_flat] at h
 exact h
theorem qapl1_any (t : Nd) (l : List Nd) (ht : arN t = 1) (b : Nat) (sl : Value) (i d : Nat) (sv : Value) (rs : List (List Nd)) (vs : List Value) (w : World) (hP : Pq w b sl i d sv) (hS : Sk w b (rs ++ [l.take 257]) sv vs) (hnl : rs.length ≤ 190000) :
  Calls Tryz.prog 91 #[ptr b, ndV t] w fun e w' => e = .returned (.tuple #[]) ∧ ∃ sv' vs', Pq w' b sl i d sv' ∧ Sk w' b (rs ++ [(l ++ [t]).take 257]) sv' vs' ∧ Fb w b sv vs w' sv' vs' := by
 have h := qapl_any t [l] ht (by simp) b sl i d sv rs vs w hP hS hnl
 simpa using h
theorem qapl0_any (t : Nd) (ht : arN t = 0) (b : Nat) (sl : Value) (i d : Nat) (sv : Value) (rs : List (List Nd)) (vs : List Value) (w : World) (hP : Pq w b sl i d sv) (hS : Sk w b rs sv vs) (hnl : rs.length ≤ 190000) :
  Calls Tryz.prog 91 #[ptr b, ndV t] w fun e w' => e = .returned (.tuple #[]) ∧ ∃ sv' vs', Pq w' b sl i d sv' ∧ Sk w' b (rs ++ [[t].take 257]) sv' vs' ∧ Fb w b sv vs w' sv' vs' := by
 have h := qapl_any t [] ht (by simp) b sl i d sv rs vs w hP (by simpa using hS) hnl
 simpa using h
theorem QdP.done {w w1 w2 : World} {b : Nat} {sl : Value} {len d j : Nat} {sv sv0 sv1 : Value} {rs : List (List Nd)} {vs vs0 vs1 : List Value} {l : List Nd} {P : PO} (hR : P = .ok l j) (hj : j < len) (hd : d ≤ 300) (hP : Pq w2 b sl j d sv) (hS : Sk w2 b (rs ++ [l.take 257]) sv vs) (h1 : Fb w b sv0 vs0 w1 sv1 vs1) (h2 : Fb w1 b sv1 vs1 w2 sv vs) : QdP w b sl len d rs sv0 vs0 P (.returned (.int .i64 0)) w2 :=
 ⟨j, d, 0, sv, vs, rfl, ⟨hj, hd⟩, hP, h1.trans h2, .inl ⟨rfl, rfl, l, hR, hS⟩⟩
theorem QdP.err {w w2 : World} {b : Nat} {sl : Value} {len d dd j : Nat} {x : Int} {sv sv0 : Value} {rs : List (List Nd)} {vs vs0 : List Value} {P : PO} (hR : P = .bad x j) (hx : ¬ x = 0) (hj : j < len) (hdd : d ≤ dd) (hd : dd ≤ 300) (hP : Pq w2 b sl j dd sv) (h1 : Fb w b sv0 vs0 w2 sv vs) : QdP w b sl len d rs sv0 vs0 P (.returned (.int .i64 x)) w2 :=
 ⟨j, dd, x, sv, vs, rfl, ⟨hj, hd⟩, hP, h1, .inr ⟨hx, hdd, hR⟩⟩
set_option maxHeartbeats 8000000 in
theorem qprefix_any {ts : List TA} {a : Option Addr} {len cap f : Nat} (H : ReadsQ ts a len cap f) (op : Int) (hop : arN (opNd op) = 1) (lvl i d b : Nat) (sv : Value) (rs : List (List Nd)) (vs : List Value) (w : World) (hl : lvl ≤ 7) (hP : Pq w b (.slice a len cap) i d sv) (hS : Sk w b rs sv vs) (hE : EnvQ w b a len ts) (hi : i + 1 < len) (hrs : rs.length ≤ i) (hm : 9 * (len - (i + 1)) + (8 - lvl) < f) (hd : d ≤ 256) :
  Calls Tryz.prog 89 #[ptr b, .int .i64 op, .int .i64 lvl] w (QdP w b (.slice a len cap) len d rs sv vs (seqP (prT ts f lvl (i + 1) (d + 1)) fun e j => .ok (e ++ [opNd op]) j)) := by
 have hbw := hP.lt
 have hi8 : i < 100000 := by have := hE.hH.le; omega
 have q1 := hP.c1
 have qf := hP.free
 have hP1 := hP.inc1
 have hB1 : Fb w b sv vs (w.setCell ⟨b, 1, none⟩ (.int .i64 ((i : Int) + 1))) sv vs := Fb.set 1 _ hbw
 have CN := Lib.hid (qnested_any H lvl (i + 1) d b sv rs vs _ hl hP1 (hS.keep (grown_set w b 1 (.int .i64 ((i : Int) + 1)))) (hE.below hB1.bel) hi (by omega) hm hd)
 have CA := Lib.hid (fun l j dd sv' vs' W (hPW : Pq W b (.slice a len cap) j dd sv') (hSW : Sk W b (rs ++ [l.take 257]) sv' vs') => qapl1_any (opNd op) l hop b (.slice a len cap) j dd sv' rs vs' W hPW hSW (by omega))
 obtain ⟨R, hR⟩ : ∃ R, prT ts f lvl (i + 1) (d + 1) = R := ⟨_, rfl⟩
 rw [hR] at CN ⊢
 have HB1 := Lib.hid hB1
 clear hP hS hE hP1 hB1 hR H
 unfold ndV at CA
 simp only at CA
 go_enter Tryz.func89, Tryz.ntmps89
 go_wp2_with fail
 refine CN.out.mono ?_
 rintro e w2 ⟨j, dd, x, sv', vs', rfl, hjd, hP2, hb2, hc⟩
 have hB2 := HB1.out.trans hb2
 rcases hc with ⟨rfl, rfl, l, rfl, hS2⟩ | ⟨hx, hdd, rfl⟩
 ·have CA2 := Lib.hid (CA.out l j dd sv' vs' w2 hP2 hS2)
  have HB2 := Lib.hid (And.intro hB2 hjd)
  clear CA CN HB1 hB2 hb2 hP2 hS2 hjd
  go_wp2_with fail
  refine CA2.out.mono ?_
  rintro e w3 ⟨rfl, sv3, vs3, hP3, hS3, hb3⟩
  have F := Lib.hid (QdP.done (P := seqP (.ok l j) fun e j => .ok (e ++ [opNd op]) j) rfl HB2.out.2.1 (by omega) hP3 hS3 HB2.out.1 hb3)
  clear CA2 hP3 hS3 hb3
  go_wp2_with fail
  go_ret
  exact F.out
 ·have F := Lib.hid (QdP.err (rs := rs) (P := seqP (.bad x j) fun e j => .ok (e ++ [opNd op]) j) rfl hx hjd.1 hdd hjd.2 hP2 hB2)
  clear CA CN HB1 hB2 hb2 hP2 hjd
  go_wp2_with fail
  go_ret
  exact F.out
set_option maxHeartbeats 8000000 in
theorem qgroup_any {ts : List TA} {a : Option Addr} {len cap f : Nat} (H : ReadsQ ts a len cap f) (i d b : Nat) (sv : Value) (rs : List (List Nd)) (vs : List Value) (w : World) (hP : Pq w b (.slice a len cap) i d sv) (hS : Sk w b rs sv vs) (hE : EnvQ w b a len ts) (hi : i + 1 < len) (hrs : rs.length ≤ i) (hm : 9 * (len - (i + 1)) + 8 < f) (hd : d ≤ 256) :
  Calls Tryz.prog 130 #[ptr b] w (QdP w b (.slice a len cap) len d rs sv vs (seqP (prT ts f 0 (i + 1) (d + 1)) fun e j => if symT (tkA ts j) clsS = true then .ok e (j + 1) else .bad 3 j)) := by
 have hbw := hP.lt
 have hi8 : i < 100000 := by have := hE.hH.le; omega
 have q1 := hP.c1
 have qf := hP.free
 have hP1 := hP.inc1
 have hB1 : Fb w b sv vs (w.setCell ⟨b, 1, none⟩ (.int .i64 ((i : Int) + 1))) sv vs := Fb.set 1 _ hbw
 have CN := Lib.hid (qnested_any H 0 (i + 1) d b sv rs vs _ (by omega) hP1 (hS.keep (grown_set w b 1 (.int .i64 ((i : Int) + 1)))) (hE.below hB1.bel) hi (by omega) hm hd)
 have CT := Lib.hid (fun j (hj : j < len) dd sv' W (hb : Below b w W) (hPW : Pq W b (.slice a len cap) j dd sv') => qtake_any b a len cap ts j dd sv' clsS W hPW (hE.below hb).tk hj (by have := hE.hH.le; omega))
 have HW := Lib.hid (fun j (hj : j < len) => wT_sym (hE.hO j (by rw [hE.hH.ln]; exact hj)) (s := clsS) (by decide +kernel) (by decide +kernel))
 have HX := Lib.hid (fun j (hj : j < len) (h : symT (tkA ts j) clsS = true) => hE.hH.next hj (by rw [(symT_k h).1]; decide))
 obtain ⟨R, hR⟩ : ∃ R, prT ts f 0 (i + 1) (d + 1) = R := ⟨_, rfl⟩
 rw [hR] at CN ⊢
 have HB1 := Lib.hid hB1
 clear hP hS hE hP1 hB1 hR H
 go_enter Tryz.func130, Tryz.ntmps130
 go_wp2_with fail
 refine CN.out.mono ?_
 rintro e w2 ⟨j, dd, x, sv', vs', rfl, hjd, hP2, hb2, hc⟩
 have hB2 := HB1.out.trans hb2
 rcases hc with ⟨rfl, rfl, l, rfl, hS2⟩ | ⟨hx, hdd, rfl⟩
 ·have CA2 := Lib.hid (CT.out j hjd.1 dd sv' w2 hB2.bel hP2)
  have HB2 := Lib.hid (And.intro hB2 hjd)
  have HS2 := Lib.hid hS2
  have FIN : Hid (∀ q, symT (tkA ts j) clsS = q → ∀ w3, Pq w3 b (.slice a len cap) (if q = true then j + 1 else j) dd sv' → w2.grownBy w3 (some b) → QdP w b (.slice a len cap) len dd rs sv vs (seqP (.ok l j) fun e j => if symT (tkA ts j) clsS = true then .ok e (j + 1) else .bad 3 j) (.returned (.int .i64 (if q = true then 0 else 3))) w3) := by
   intro q hq w3 hP3 hg3
   have hb3 : Fb w b sv vs w3 sv' vs' := HB2.out.1.trans (Fb.grown hg3 (Nat.lt_of_lt_of_le hbw HB2.out.1.bel.size))
   cases q with
   | true =>
    exact ⟨j + 1, dd, 0, sv', vs', rfl, ⟨HX.out j hjd.1 hq, hjd.2⟩, hP3, hb3, .inl ⟨rfl, rfl, l, by rw [seqP_ok, if_pos hq], HS2.out.keep hg3⟩⟩
   | false =>
    exact ⟨j, dd, 3, sv', vs', rfl, hjd, hP3, hb3, .inr ⟨by decide, Nat.le_refl _, by rw [seqP_ok, if_neg (by rw [hq]; simp)]⟩⟩
  obtain ⟨q, hq⟩ : ∃ q, symT (tkA ts j) clsS = q := ⟨_, rfl⟩
  rw [HW.out j hjd.1, hq] at CA2
  have FIN2 := Lib.hid (FIN.out q hq)
  obtain ⟨z, hz⟩ : ∃ z : Int, (if q = true then (0 : Int) else 3) = z := ⟨_, rfl⟩
  rw [hz] at CA2 FIN2
  clear CT CN HB1 hB2 hb2 hP2 hS2 HW FIN
  go_wp2_with fail
  refine CA2.out.mono ?_
  rintro e w3 ⟨rfl, hP3, hg3⟩
  have F := Lib.hid (FIN2.out w3 hP3 hg3)
  clear CA2 hP3 hg3 FIN2 hq HS2 HX HB2 hz
  go_wp2_with fail
  go_ret
  exact F.out
 ·have F := Lib.hid (QdP.err (rs := rs) (P := seqP (.bad x j) fun e j => if symT (tkA ts j) clsS = true then .ok e (j + 1) else .bad 3 j) rfl hx hjd.1 hdd hjd.2 hP2 hB2)
  clear CT CN HB1 hB2 hb2 hP2 hjd HW HX
  go_wp2_with fail
  go_ret
  exact F.out
end Go.Proofs.YtmdpjahhhfajaaaGreatDoor
namespace Go.Proofs.YtmdpjahhhfajaaaGreatDoor
open Go.RowKit Wh
set_option maxHeartbeats 8000000 in
theorem qnot_any {ts : List TA} {a : Option Addr} {len cap f : Nat} (H : ReadsQ ts a len cap f) (i d b : Nat) (sv : Value) (rs : List (List Nd)) (vs : List Value) (w : World) (hP : Pq w b (.slice a len cap) i d sv) (hS : Sk w b rs sv vs) (hE : EnvQ w b a len ts) (hi : i < len) (hrs : rs.length ≤ i) (hm : 9 * (len - i) + 6 < f + 1) (hd : d ≤ 257) (hd8 : 256 < d → begL 2 (tkA ts i) (tkA ts (i + 1)) = false) :
  Calls Tryz.prog 51 #[ptr b] w (QdP w b (.slice a len cap) len d rs sv vs (prT ts (f + 1) 2 i d)) := by
 have hbw := hP.lt
 have CW := Lib.hid (qword_any b a len cap ts i d sv w hP hE.tk hi (by have := hE.hH.le; omega))
 have hw : eqS (wT (tkA ts i)) notS = wrdT (tkA ts i) notS := wT_wrd (hE.hO i (by rw [hE.hH.ln]; exact hi)) (by decide +kernel) (by decide +kernel)
 obtain ⟨s, hs⟩ : ∃ s, wT (tkA ts i) = s := ⟨_, rfl⟩
 rw [hs] at CW hw
 by_cases hn : wrdT (tkA ts i) notS = true
 ·have hin := hE.hH.next hi (by rw [(wrdT_k hn).1]; decide)
  have hdd : ¬ 256 < d := fun h => by
   have := hd8 h
   unfold begL at this
   rw [hn] at this
   simp at this
  have hR : prT ts (f + 1) 2 i d = seqP (prT ts f 2 (i + 1) (d + 1)) fun e j => .ok (e ++ [opNd 2]) j := by rw [prT, if_pos rfl, if_pos hn, if_neg hdd]; rfl
  rw [hR]
  have CP := Lib.hid (fun W (hb : Below w.heap.size w W) => qprefix_any H 2 (by decide +kernel) 2 i d b sv rs vs W (by omega) (hP.below hb hP.lt) (hS.below hb) (hE.below (hb.mono (Nat.le_of_lt hbw))) hin hrs (by omega) (by omega))
  obtain ⟨R, hRR⟩ : ∃ R, (seqP (prT ts f 2 (i + 1) (d + 1)) fun e j => .ok (e ++ [opNd 2]) j) = R := ⟨_, rfl⟩
  rw [hRR] at CP ⊢
  rw [hn] at hw
  have hw2 := eqS_lit hw (show notS.toList = [110, 111, 116] from by decide +kernel)
  clear hP hS hE hn hR hRR H hs hw
  go_enter Tryz.func51, Tryz.ntmps51
  go_wp2_with fail
  refine CW.out.mono ?_
  rintro e w1 ⟨rfl, hb1⟩
  have CP1 := Lib.hid (CP.out w1 hb1)
  have HB1 := Lib.hid (Fb.below (sv := sv) (vs := vs) hb1 hbw)
  clear hb1 CP CW
  go_wp2_with fail
  refine CP1.out.mono ?_
  intro e w2 hr
  have hr2 := hr.from HB1.out
  obtain ⟨x, rfl⟩ := hr2.ret
  have F := Lib.hid hr2
  clear hr hr2 CP1 HB1
  go_wp2_with fail
  go_ret
  exact F.out
 ·have hn0 : wrdT (tkA ts i) notS = false := by simpa using hn
  have hR : prT ts (f + 1) 2 i d = prT ts f 3 i d := by rw [prT, if_pos rfl, if_neg hn]
  rw [hR]
  have CP := Lib.hid (fun W (hb : Below w.heap.size w W) => H 3 i d b sv rs vs W (by omega) (hP.below hb hP.lt) (hS.below hb) (hE.below (hb.mono (Nat.le_of_lt hbw))) hi hrs (by omega) hd (fun h => by
   have := hd8 h
   unfold begL at this ⊢
   rw [hn0] at this ⊢
   simpa using this))
  obtain ⟨R, hRR⟩ : ∃ R, prT ts f 3 i d = R := ⟨_, rfl⟩
  rw [hRR] at CP ⊢
  rw [hn0] at hw
  have hw2 := eqS_lit hw (show notS.toList = [110, 111, 116] from by decide +kernel)
  clear hP hS hE hn hR hRR H hs hw
  go_enter Tryz.func51, Tryz.ntmps51
  go_wp2_with fail
  refine CW.out.mono ?_
  rintro e w1 ⟨rfl, hb1⟩
  have CP1 := Lib.hid (CP.out w1 hb1)
  have HB1 := Lib.hid (Fb.below (sv := sv) (vs := vs) hb1 hbw)
  clear hb1 CP CW
  go_wp2_with fail
  refine CP1.out.mono ?_
  intro e w2 hr
  have hr2 := hr.from HB1.out
  obtain ⟨x, rfl⟩ := hr2.ret
  have F := Lib.hid hr2
  clear hr hr2 CP1 HB1
  go_wp2_with fail
  go_ret
  exact F.out
def PrimQ (ts : List TA) (a : Option Addr) (len cap f : Nat) : Prop :=
 ∀ (i d b : Nat) (sv : Value) (rs : List (List Nd)) (vs : List Value) (w : World), Pq w b (.slice a len cap) i d sv → Sk w b rs sv vs → EnvQ w b a len ts → i < len → rs.length ≤ i → 9 * (len - i) < f → d ≤ 257 → (256 < d → begT (tkA ts i) (tkA ts (i + 1)) = false) → symT (tkA ts i) minS = false →
  Calls Tryz.prog 90 #[ptr b] w (QdP w b (.slice a len cap) len d rs sv vs (if begT (tkA ts i) (tkA ts (i + 1)) = false then .bad 3 i else prT ts f 8 i d))
set_option maxHeartbeats 8000000 in
theorem qunary_any {ts : List TA} {a : Option Addr} {len cap f : Nat} (H : ReadsQ ts a len cap f) (HQ : PrimQ ts a len cap f) (i d b : Nat) (sv : Value) (rs : List (List Nd)) (vs : List Value) (w : World) (hP : Pq w b (.slice a len cap) i d sv) (hS : Sk w b rs sv vs) (hE : EnvQ w b a len ts) (hi : i < len) (hrs : rs.length ≤ i) (hm : 9 * (len - i) + 1 < f + 1) (hd : d ≤ 257) (hd8 : 256 < d → begL 7 (tkA ts i) (tkA ts (i + 1)) = false) :
  Calls Tryz.prog 52 #[ptr b] w (QdP w b (.slice a len cap) len d rs sv vs (prT ts (f + 1) 7 i d)) := by
 have hbw := hP.lt
 have hi8 : i < 100000 := by have := hE.hH.le; omega
 have CW := Lib.hid (qword_any b a len cap ts i d sv w hP hE.tk hi (by have := hE.hH.le; omega))
 have hw : eqS (wT (tkA ts i)) minS = symT (tkA ts i) minS := wT_sym (hE.hO i (by rw [hE.hH.ln]; exact hi)) (by decide +kernel) (by decide +kernel)
 have hd9 : 256 < d → begT (tkA ts i) (tkA ts (i + 1)) = false := fun h => by
  have := hd8 h
  unfold begL at this
  simpa using this
 obtain ⟨s, hs⟩ : ∃ s, wT (tkA ts i) = s := ⟨_, rfl⟩
 rw [hs] at CW hw
 by_cases hn : symT (tkA ts i) minS = true
 ·have hin := hE.hH.next hi (by rw [(symT_k hn).1]; decide)
  have hbt : begT (tkA ts i) (tkA ts (i + 1)) = true := by
   have hk := (symT_k hn).1
   unfold begT
   rw [if_neg (by omega), if_neg (by omega), hn]
   rfl
  have hdd : ¬ 256 < d := fun h => by rw [hd9 h] at hbt; cases hbt
  have hR : prT ts (f + 1) 7 i d = if (tkA ts (i + 1)).1.k = 2 then .ok [cstN 2 (-(tkA ts (i + 1)).1.nm) ⟨#[]⟩] (i + 2) else seqP (prT ts f 7 (i + 1) (d + 1)) fun e j => .ok (e ++ [opNd 3]) j := by rw [prT, if_neg (by decide), if_neg (by decide), if_pos rfl, if_neg (by rw [hbt]; simp), if_neg hdd, if_pos hn]; rfl
  rw [hR]
  have hnx := hE.hH.nm (i + 1) hin
  have hin2 := fun h => hE.hH.next hin h
  have hT := hE.tk
  have htk := tkA_in (ts := ts) (i := i + 1) (by rw [hE.hH.ln]; exact hin)
  have CP := Lib.hid (fun W (hb : Below w.heap.size w W) => qprefix_any H 3 (by decide +kernel) 7 i d b sv rs vs W (by omega) (hP.below hb hP.lt) (hS.below hb) (hE.below (hb.mono (Nat.le_of_lt hbw))) hin hrs (by omega) (by omega))
  have CC := Lib.hid (fun k n W => qconst_any k n W)
  have CA := Lib.hid (fun n sv' W (hPW : Pq W b (.slice a len cap) (i + 2) d sv') (hSW : Sk W b rs sv' vs) => qapl0_any (cstN 2 n ⟨#[]⟩) (by show arN _ = _; rfl) b (.slice a len cap) (i + 2) d sv' rs vs W hPW hSW (by omega))
  rw [hn] at hw
  have hw2 := eqS_lit hw (show minS.toList = [45] from by decide +kernel)
  have HPS := Lib.hid (And.intro hP hS)
  clear hP hS hn hR H HQ hs hw hd8 hd9 hbt
  obtain ⟨R, hRR⟩ : ∃ R, (seqP (prT ts f 7 (i + 1) (d + 1)) fun e j => .ok (e ++ [opNd 3]) j) = R := ⟨_, rfl⟩
  rw [hRR] at CP ⊢
  clear hRR hE
  obtain ⟨u, hu⟩ : ∃ u, tkA ts (i + 1) = u := ⟨_, rfl⟩
  rw [hu] at htk hnx hin2 ⊢
  clear hu
  obtain ⟨⟨kd, tx, nm⟩, p⟩ := u
  simp only at hnx hin2 ⊢
  unfold ndV at CC CA
  simp only at CC CA
  by_cases hk2 : kd = 2
  ·subst hk2
   obtain ⟨n0, n1⟩ := hnx rfl
   have hin3 : i + 2 < len := by have := hin2 (by decide); omega
   rw [if_pos rfl]
   clear hin2 hnx CP
   go_enter Tryz.func52, Tryz.ntmps52
   go_wp2_with fail
   refine CW.out.mono ?_
   rintro e w1 ⟨rfl, hb1⟩
   have hT1 := hT.below hb1 (Nat.le_refl _)
   have hP1 := HPS.out.1.below hb1 hbw
   obtain ⟨kd', tx', nm', p', g, off, e1, rfl, lg, t0, t1, t2, t3⟩ := hT1.at hin
   rw [htk] at e1
   cases e1
   have h0 := hP1.c0
   have h1 := hP1.c1
   have hf1 := hP1.free
   have hB := hP1.alloc (.cells #[.int .i64 0, .string ⟨#[]⟩, .int .i64 0, .int .i64 0] 71)
   have k0 := hB.c0
   have k1 := hB.c1
   have bel : Below w1.heap.size w1 (w1.alloc (.cells #[.int .i64 0, .string ⟨#[]⟩, .int .i64 0, .int .i64 0] 71)) := (Below.refl _ _).alloc (Nat.le_refl _) _
   have e : ∀ o, (w1.alloc (.cells #[.int .i64 0, .string ⟨#[]⟩, .int .i64 0, .int .i64 0] 71)).cell? ⟨g, o, none⟩ = w1.cell? ⟨g, o, none⟩ := fun o => bel.cell (p := ⟨g, o, none⟩) lg
   have s0 := (e _).trans t0
   have s1 := (e _).trans t1
   have s2 := (e _).trans t2
   have s3 := (e _).trans t3
   obtain ⟨q, hq⟩ : ∃ q : Nat, i + 1 = q := ⟨_, rfl⟩
   have hqi : (i : Int) + 1 = (q : Int) := by omega
   have hlen : (q : Int) < (len : Int) := by omega
   rw [hq] at t0 t1 t2 t3 s0 s1 s2 s3 hin
   have HB1 := Lib.hid hb1
   clear hT hT1 htk hB bel e hb1 CW hP1
   go_wp2_with fail
   go_region
   have hBX := (HB1.out.alloc HB1.out.size (.cells #[.int .i64 2, .string tx, .int .i64 nm, .int .i64 p] 71)).drew
   have hX := (Box4.new w1 (.int .i64 2) (.string tx) (.int .i64 nm) (.int .i64 p) 71).drew
   have hP2 := HPS.out.1.below hBX hbw
   have hS2 := HPS.out.2.below hBX
   generalize (w1.alloc (.cells #[.int .i64 2, .string tx, .int .i64 nm, .int .i64 p] 71)).drew = w2 at *
   have y0 := hX.c0
   have hne : b ≠ w1.heap.size := by have := HB1.out.size; omega
   have y2 := (hX.far (a := ⟨b, 1, none⟩) (v := .int .i64 ((i : Int) + 2)) (by simpa using hne.symm)).c2
   have z1 := hP2.c1
   have zf := hP2.free
   have hP3 := Pq.inc1b hP2
   have HP3 := Lib.hid hP3
   have HS3 := Lib.hid (hS2.keep (grown_set w2 b 1 (.int .i64 ((i : Int) + 2))))
   have HB3 := Lib.hid ((Fb.below (sv := sv) (vs := vs) hBX hbw).trans (Fb.set 1 (.int .i64 ((i : Int) + 2)) hP2.lt))
   clear hBX hX hP2 hS2 hP3 HB1 h0 h1 hf1 k0 k1 s0 s1 s2 s3 t0 t1 t2 t3
   go_wp2_with fail
   refine (CC.out _ _ _).mono ?_
   rintro e w4 ⟨rfl, hb4⟩
   have hbw3 := HP3.out.lt
   have CA4 := Lib.hid (CA.out (-nm) sv w4 (HP3.out.below hb4 hbw3) (HS3.out.below hb4))
   have HB4 := Lib.hid (HB3.out.trans (Fb.below hb4 hbw3))
   clear CA CC hb4 HP3 HS3 HB3 y0 y2 z1 zf
   go_wp2_with fail
   refine CA4.out.mono ?_
   rintro e w5 ⟨rfl, sv5, vs5, hP5, hS5, hb5⟩
   have F := Lib.hid (QdP.done (P := PO.ok [cstN 2 (-nm) ⟨#[]⟩] (i + 2)) rfl hin3 (by omega) hP5 hS5 HB4.out hb5)
   clear CA4 hP5 hS5 hb5 HB4
   go_wp2_with fail
   go_ret
   exact F.out
  ·rw [if_neg hk2]
   have hkb : (kd == 2) = false := by simpa using hk2
   clear hin2 hnx CC CA
   go_enter Tryz.func52, Tryz.ntmps52
   go_wp2_with fail
   refine CW.out.mono ?_
   rintro e w1 ⟨rfl, hb1⟩
   have hT1 := hT.below hb1 (Nat.le_refl _)
   have hP1 := HPS.out.1.below hb1 hbw
   obtain ⟨kd', tx', nm', p', g, off, e1, rfl, lg, t0, t1, t2, t3⟩ := hT1.at hin
   rw [htk] at e1
   cases e1
   have h0 := hP1.c0
   have h1 := hP1.c1
   have hf1 := hP1.free
   have hB := hP1.alloc (.cells #[.int .i64 0, .string ⟨#[]⟩, .int .i64 0, .int .i64 0] 71)
   have k0 := hB.c0
   have k1 := hB.c1
   have bel : Below w1.heap.size w1 (w1.alloc (.cells #[.int .i64 0, .string ⟨#[]⟩, .int .i64 0, .int .i64 0] 71)) := (Below.refl _ _).alloc (Nat.le_refl _) _
   have e : ∀ o, (w1.alloc (.cells #[.int .i64 0, .string ⟨#[]⟩, .int .i64 0, .int .i64 0] 71)).cell? ⟨g, o, none⟩ = w1.cell? ⟨g, o, none⟩ := fun o => bel.cell (p := ⟨g, o, none⟩) lg
   have s0 := (e _).trans t0
   have s1 := (e _).trans t1
   have s2 := (e _).trans t2
   have s3 := (e _).trans t3
   obtain ⟨q, hq⟩ : ∃ q : Nat, i + 1 = q := ⟨_, rfl⟩
   have hqi : (i : Int) + 1 = (q : Int) := by omega
   have hlen : (q : Int) < (len : Int) := by omega
   rw [hq] at t0 t1 t2 t3 s0 s1 s2 s3 hin
   have HB1 := Lib.hid hb1
   clear hT hT1 htk hB bel e hb1 CW hP1
   go_wp2_with fail
   go_region
   have hBX := (HB1.out.alloc HB1.out.size (.cells #[.int .i64 kd, .string tx, .int .i64 nm, .int .i64 p] 71)).drew
   have CP1 := Lib.hid (CP.out _ hBX)
   have HBX := Lib.hid (Fb.below (sv := sv) (vs := vs) hBX hbw)
   clear CP HB1 hBX
   go_wp2_with fail
   refine CP1.out.mono ?_
   intro e w2 hr
   have hr2 := hr.from HBX.out
   obtain ⟨x, rfl⟩ := hr2.ret
   have F := Lib.hid hr2
   clear hr hr2 CP1 HBX
   go_wp2_with fail
   go_ret
   exact F.out
 ·have hn0 : symT (tkA ts i) minS = false := by simpa using hn
  have hR : prT ts (f + 1) 7 i d = if begT (tkA ts i) (tkA ts (i + 1)) = false then .bad 3 i else prT ts f 8 i d := by
   rw [prT, if_neg (by decide), if_neg (by decide), if_pos rfl]
   by_cases hb : begT (tkA ts i) (tkA ts (i + 1)) = false
   ·rw [if_pos hb, if_pos hb]
   ·rw [if_neg hb, if_neg hb, if_neg (fun h => hb (hd9 h)), if_neg hn]
  rw [hR]
  have CP := Lib.hid (fun W (hb : Below w.heap.size w W) => HQ i d b sv rs vs W (hP.below hb hP.lt) (hS.below hb) (hE.below (hb.mono (Nat.le_of_lt hbw))) hi hrs (by omega) hd hd9 hn0)
  obtain ⟨R, hRR⟩ : ∃ R, (if begT (tkA ts i) (tkA ts (i + 1)) = false then PO.bad 3 i else prT ts f 8 i d) = R := ⟨_, rfl⟩
  rw [hRR] at CP ⊢
  rw [hn0] at hw
  have hw2 := eqS_lit hw (show minS.toList = [45] from by decide +kernel)
  clear hP hS hE hn hR hRR H HQ hs hw hd8 hd9 hn0
  go_enter Tryz.func52, Tryz.ntmps52
  go_wp2_with fail
  refine CW.out.mono ?_
  rintro e w1 ⟨rfl, hb1⟩
  have CP1 := Lib.hid (CP.out w1 hb1)
  have HB1 := Lib.hid (Fb.below (sv := sv) (vs := vs) hb1 hbw)
  clear hb1 CP CW
  go_wp2_with fail
  refine CP1.out.mono ?_
  intro e w2 hr
  have hr2 := hr.from HB1.out
  obtain ⟨x, rfl⟩ := hr2.ret
  have F := Lib.hid hr2
  clear hr hr2 CP1 HB1
  go_wp2_with fail
  go_ret
  exact F.out
end Go.Proofs.YtmdpjahhhfajaaaGreatDoor
