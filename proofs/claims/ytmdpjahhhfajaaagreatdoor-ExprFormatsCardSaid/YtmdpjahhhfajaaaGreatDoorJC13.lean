/-
  The program's parser: apply of a node without operands. · Digits; what padded of the reference returns. · Date and Weekday, of civil and of its reference. · Format of the reference. · For every layer: rows of bytes that the call makes, and texts out of t
-/
import Derived.Test.YtmdpjahhhfajaaaGreatDoorJC12
import Derived.Deep.AppendLies
import Derived.RegionTactic
import Derived.Deep.RegionLaw
import Derived.Deep.RegionLawGrows
import Derived.BigRegion
import Derived.Test.YtmdpjahhhfajaaaGreatDoorJC02
import Derived.WalkMore
import Derived.Test.YtmdpjahhhfajaaaGreatDoorJC03
import Derived.Test.YtmdpjahhhfajaaaGreatDoorJC01
import Derived.Laws.BytesArg
set_option linter.unusedVariables false
set_option linter.unusedSimpArgs false
set_option maxRecDepth 100000
namespace Go.Proofs.YtmdpjahhhfajaaaGreatDoor
open Go.RowKit Wh
theorem info_nsl : (Tryz.prog.info? 30).map (fun i => (i.zero, i.size, i.bytes)) = some (some (.slice none 0 0), 1, 24) := by kernel_rfl
theorem own_one (W : World) (b : Nat) (hb : b ≤ W.heap.size) (t : Nd) : (W.alloc (.cells #[.int .i64 t.op, .int .i64 t.v.k, .int .i64 t.v.n, .string t.v.s, .string t.nm, .int .i64 t.ar] 53)).ownsRow b 53 6 (.slice (some ⟨W.heap.size, 0, none⟩) 1 1) 1 (nodesL [t]) := by
 have h := World.ownsRow_lit (base := b) (e := 53) (size := 6) W #[.int .i64 t.op, .int .i64 t.v.k, .int .i64 t.v.n, .string t.v.s, .string t.nm, .int .i64 t.ar] 1 hb (by unfold maxLen; omega) rfl
 simpa [nodesL, c6] using h
set_option maxHeartbeats 8000000 in
theorem qapply0_any (t : Nd) (ht : arN t = 0) (b : Nat) (sl : Value) (i d : Nat) (sv : Value) (rs : List (List Nd)) (vs : List Value) (w : World) (hP : Pq w b sl i d sv) (hS : Sk w b rs sv vs) (hn : rs.length ≤ 200000) :
  Calls Tryz.prog 91 #[ptr b, ndV t] w fun e w' => e = .returned (.tuple #[]) ∧ ∃ sv' vs', Pq w' b sl i d sv' ∧ Sk w' b (rs ++ [[t]]) sv' vs' ∧ Fb w b sv vs w' sv' vs' := by
 have CA := Lib.hid (fun W => parity_any t W)
 rw [ht] at CA
 obtain ⟨op, ⟨vk, vn, vss⟩, nm, ar⟩ := t
 have hbw := hP.lt
 have hb0 : Below w.heap.size w (w.alloc (.cells #[.int .i64 op, .int .i64 vk, .int .i64 vn, .string vss, .string nm, .int .i64 ar] 53)) := (Below.refl _ _).alloc (Nat.le_refl _) _
 obtain ⟨i0, hi, hz0, hz1, hz2⟩ := info_parts info_nsl
 unfold ndV at CA ⊢
 simp only at CA ⊢
 have HP := Lib.hid hP
 have HS := Lib.hid hS
 have HB0 := Lib.hid hb0
 have hlen := hS.len
 clear hP hS hb0 ht
 go_enter Tryz.func91, Tryz.ntmps91
 go_wp2_with fail
 refine (CA.out _).mono ?_
 rintro e w1 ⟨rfl, hb1⟩
 obtain ⟨b0, b1, b2, b3, b4, b5⟩ := box6 hb1
 have hB1 := below_box hb1
 have hP1 := HP.out.below hB1 HP.out.lt
 have hS1 := HS.out.below hB1
 have p3 := hP1.c3
 have pf := hP1.free
 have hs1 := hB1.size
 have hbw1 : b < w1.heap.size := hP1.lt
 -- the worlds of the region
 have hP2 := hP1.alloc (.cells #[.int .i64 op, .int .i64 vk, .int .i64 vn, .string vss, .string nm, .int .i64 ar] 53)
 have hP3 := hP2.alloc (.cells #[.slice (some ⟨w1.heap.size, 0, none⟩) 1 1] 30)
 have r3 := hP2.c3
 have s3 := hP3.c3
 have hb2 : Below w1.heap.size w1 (w1.alloc (.cells #[.int .i64 op, .int .i64 vk, .int .i64 vn, .string vss, .string nm, .int .i64 ar] 53)) := (Below.refl _ _).alloc (Nat.le_refl _) _
 have hb3 : Below w1.heap.size w1 ((w1.alloc (.cells #[.int .i64 op, .int .i64 vk, .int .i64 vn, .string vss, .string nm, .int .i64 ar] 53)).alloc (.cells #[.slice (some ⟨w1.heap.size, 0, none⟩) 1 1] 30)) := hb2.alloc hb2.size _
 have HS3 := Lib.hid (hS1.below hb3)
 have HP3 := Lib.hid hP3
 have HB3 := Lib.hid (hB1.trans (hb3.mono hs1))
 have hnew := World.news_of_block (cs := #[.slice (some ⟨w1.heap.size, 0, none⟩) 1 1]) (t := 30) (fr := (0, 0)) (heap_alloc_new (w1.alloc (.cells #[.int .i64 op, .int .i64 vk, .int .i64 vn, .string vss, .string nm, .int .i64 ar] 53)) (.cells #[.slice (some ⟨w1.heap.size, 0, none⟩) 1 1] 30))
 have hz1' : (w1.alloc (.cells #[.int .i64 op, .int .i64 vk, .int .i64 vn, .string vss, .string nm, .int .i64 ar] 53)).heap.size = w1.heap.size + 1 := by simp
 rw [hz1'] at hnew
 have ho3 := HS3.out.own
 have HONE := Lib.hid ((own_one w1 b (by omega) ⟨op, ⟨vk, vn, vss⟩, nm, ar⟩).alloc (.cells #[.slice (some ⟨w1.heap.size, 0, none⟩) 1 1] 30))
 have HSV := Lib.hid (fun z (hz : sv.ownBlock = some z) => (hS1.own.lt z hz).2)
 have HVS := Lib.hid (fun (k : Nat) u (hu : vs[k]? = some u) z (hz : u.ownBlock = some z) => (show z < w1.heap.size from by
  obtain ⟨q, hq⟩ : ∃ q, rs[k]? = some q := ⟨_, List.getElem?_eq_getElem (by rw [← hlen]; exact (List.getElem?_eq_some_iff.1 hu).1)⟩
  exact ((hS1.row k u q hu hq).1.lt z hz).2))
 clear hb1 hB1 hP1 hS1 hP2 hP3 hb2 hb3 CA HP HS HB0
 go_wp2_with fail
 go_region_law (refine step_append_lies _ (by rfl) (.tmp 15) (.tmp 18) _ (by rfl) b 30 i0 _ 1 24 Tryz.underlying61 hi hz0 hz1 hz2 rfl (by omega) _ _ _ (by rfl) ho3.drew ⟨w1.heap.size + 1, 0, none⟩ 1 1 [.slice (some ⟨w1.heap.size, 0, none⟩) 1 1] (by rfl) (by rfl) hnew (by simp [Value.oneCell']) (by omega) (by unfold maxLen; omega) (by omega) (by simp; omega) (w1.heap.size + 1 + 1) (by simp) ?_; intro gg cc w9 hown9 hgrow9 hat9 hlt9; have hP9 := Pq.kept HP3.out.drew hgrow9 (fun hc => HS3.out.nb hc.symm); have z3 := hP9.c3; have zf := hP9.free)
 all_goals
  have hgall := hgrow9
  have F : Hid (∃ sv' vs', Pq (w9.setCell ⟨b, 3, none⟩ (.slice (some ⟨gg, 0, none⟩) (vs.length + 1) cc)) b sl i d sv' ∧ Sk (w9.setCell ⟨b, 3, none⟩ (.slice (some ⟨gg, 0, none⟩) (vs.length + 1) cc)) b (rs ++ [[⟨op, ⟨vk, vn, vss⟩, nm, ar⟩]]) sv' vs' ∧ Fb w b sv vs (w9.setCell ⟨b, 3, none⟩ (.slice (some ⟨gg, 0, none⟩) (vs.length + 1) cc)) sv' vs') := by
   have hsk := (HS3.out.below (Below.refl _ _).drew).push (v := .slice (some ⟨w1.heap.size, 0, none⟩) 1 1) (r := [⟨op, ⟨vk, vn, vss⟩, nm, ar⟩]) (gv := w1.heap.size) (g := gg) (cap := cc) HONE.out.drew ⟨by simp, by simp⟩ rfl (by omega) (fun hc => by have := (HS3.out.own.lt _ hc).2; have h2 := HSV.out _ hc; omega) (fun k u hu hc => by have h2 := HVS.out k u hu _ hc; omega) (by simp; omega) (by simp; omega) hown9 hgrow9 (by
    rcases hat9 with h | h
    ·exact .inl h
    ·refine .inr ?_
     rw [h]
     simp)
   refine ⟨_, _, Box4.set3 hP9, hsk.keep (grown_set _ _ _ _), ?_, fun k hk => ?_⟩
   rotate_left
   ·obtain ⟨e1, o1⟩ := hk.below HB3.out.drew
    obtain ⟨e2, o2⟩ := o1.grown hgrow9 o1.2.2.1
    obtain ⟨e3, o3⟩ := o2.grown (grown_set w9 b 3 (.slice (some ⟨gg, 0, none⟩) (vs.length + 1) cc)) (fun hc => hk.2.1 (Option.some.inj hc).symm)
    have hkw := hk.1
    refine ⟨e3.trans (e2.trans e1), o3.1, o3.2.1, fun hc => ?_, fun u hu hc => ?_⟩
    ·have hc2 : gg = k := Option.some.inj hc
     rcases hat9 with h | h
     ·exact hk.2.2.1 (by rw [h, hc2])
     ·omega
    ·rcases List.mem_append.1 hu with hu | hu
     ·exact hk.2.2.2 u hu hc
     ·rw [List.mem_singleton] at hu
      subst hu
      have hc2 : w1.heap.size = k := Option.some.inj hc
      omega
   have hb9 : Below b w w9 := ((HB3.out.mono (by omega)).drew).grown hgrow9 (by simp; omega) (fun z hz => (HS3.out.own.lt z hz).1)
   exact hb9.grown (grown_set _ _ _ _) (by have := hb9.size; omega) (fun z hz => by cases hz; exact Nat.le_refl _)
  rw [hlen] at F
  clear hgall hP9 hown9 hgrow9 hat9 hlt9 z3 zf
  go_wp2_with fail
  exact bodyPost_ret (v := .tuple #[]) (by simp [results, Tryz.results91, go_sem]) rfl ⟨rfl, F.out⟩
end Go.Proofs.YtmdpjahhhfajaaaGreatDoor
namespace Wh
def dig (n : Nat) : UInt8 := UInt8.ofNat (48 + n % 10)
def digs : Nat → Nat → List UInt8
 | 0, _ => []
 | k + 1, n => digs k (n / 10) ++ [dig n]
theorem dig_nat (n : Nat) : (dig n).toNat = 48 + n % 10 := by
 unfold dig
 rw [UInt8.toNat_ofNat']
 omega
theorem digs_length : ∀ k n, (digs k n).length = k
 | 0, _ => rfl
 | k + 1, n => by simp [digs, digs_length k]
end Wh
namespace Go.Proofs.YtmdpjahhhfajaaaGreatDoor
open Go.RowKit Wh
theorem padded_any (n k : Nat) (hk : k ≤ 4) (hn : n < 10 ^ k) (w : World) :
  Calls Tryz.prog 151 #[.int .i64 n, .int .i64 k] w fun e w' => e = .returned (.string ⟨(digs k n).toArray⟩) ∧ Below w.heap.size w w' := by
 have h9 : n ≤ 10000 := by
  have : 10 ^ k ≤ 10 ^ 4 := Nat.pow_le_pow_right (by omega) hk
  omega
 go_enter Tryz.func151, Tryz.ntmps151
 go_wp2_with fail
 go_loopw [0, 1, 5] (fun nv kv sv wr => ∃ (j x : Nat) (l : List UInt8), j ≤ k ∧ x < 10 ^ j ∧ x ≤ 10000 ∧ l.length ≤ 4 - j ∧ nv = .int .i64 x ∧ kv = .int .i64 j ∧ sv = .string ⟨l.toArray⟩ ∧ Hid (digs k n = digs j x ++ l) ∧ Below w.heap.size w wr) (fun _ kv _ _ => (intOf kv).toNat)
 case atStart => exact ⟨k, n, [], Nat.le_refl _, hn, h9, Nat.zero_le _, rfl, rfl, rfl, (List.append_nil _).symm, Below.refl _ _⟩
 case round =>
  obtain ⟨j, x, l, hj, hx, hx9, hl, rfl, rfl, rfl, HD, hbel⟩ := hrel
  have hs := hbel.size
  have HB := Lib.hid hbel
  clear hbel hn
  by_cases hlt : 0 < j
  ·have hcv := conv_str (W := wr.alloc (.cells #[.int .u8 (48 + (x : Int) % 10)] 5)) (b := wr.heap.size) (off := 0) (c := 1) (y := 1) (l := [dig x]) rfl (fun j y hj => by
    cases j with
    | zero =>
     simp only [List.getElem?_cons_zero, Option.some.injEq] at hj
     subst hj
     rw [dig_nat]
     simp
    | succ j => simp at hj)
   obtain ⟨i, rfl⟩ : ∃ i, j = i + 1 := ⟨j - 1, by omega⟩
   have hx2 : x / 10 < 10 ^ i := by
    rw [Nat.div_lt_iff_lt_mul (by omega)]
    rw [Nat.pow_succ] at hx
    exact hx
   have HX := Lib.hid hx2
   have HD2 := Lib.hid (show digs k n = digs i (x / 10) ++ (dig x :: l) by rw [HD.out]; simp [digs])
   clear hx hx2 HD
   go_wp2_with fail
   go_roundw
   case rel => exact ⟨i, x / 10, dig x :: l, by omega, HX.out, by omega, by simp; omega, by go_num, by go_num, by rw [show (⟨#[dig x]⟩ : ByteArray) = ⟨[dig x].toArray⟩ from rfl, ba_append]; rfl, HD2, HB.out.alloc hs _⟩
   case measure => simp [intOf]
  ·obtain rfl : j = 0 := by omega
   have hx0 : x = 0 := by simpa using hx
   subst hx0
   go_wp2_with fail
   go_ret
   rw [show digs k n = l from HD.out]
   exact ⟨rfl, HB.out⟩
end Go.Proofs.YtmdpjahhhfajaaaGreatDoor
namespace Go.Proofs.YtmdpjahhhfajaaaGreatDoor
open Go.RowKit Wh
def IsDate (y m d : Int) (x : Bool) (w : World) (e : Ending) (w' : World) : Prop := e = .returned (.tuple #[.int .i64 y, .int .i64 m, .int .i64 d, .bool x]) ∧ w = w'
theorem ret_date {y m d y' m' d' : Int} {x : Bool} (h : y = y' ∧ m = m' ∧ d = d') : Ending.returned (.tuple #[.int .i64 y, .int .i64 m, .int .i64 d, .bool x]) = .returned (.tuple #[.int .i64 y', .int .i64 m', .int .i64 d', .bool x]) := by
 obtain ⟨rfl, rfl, rfl⟩ := h
 rfl
theorem date_found {y : Int} {k : Nat} {d : Int} (h : Dt y k d) {x : Int} {j : Nat} {r : Int} (hj : j < 12) (hr : r = dayZ y k d - yzZ x - msZ x j) (h0 : 0 ≤ r) (h1 : r < lenZ x ((j : Int) + 1)) : x = y ∧ j = k ∧ r + 1 = d := by
 have e : dayZ x j (r + 1) = dayZ y k d := by unfold dayZ at hr ⊢; omega
 exact date_one hj h.k1 (by omega) (by omega) h.d0 h.d1 e
theorem date_any (y : Int) (k : Nat) (d : Int) (h : Dt y k d) (w : World) (ht : Tab w) :
  Calls Tryz.prog 213 #[.int .i64 (dayZ y k d)] w (IsDate y ((k : Int) + 1) d true w) := by
 have n0 := h.n0
 have n1 := h.n1
 have hy0 := h.y0
 have hy1 := h.year
 have F := Lib.hid (fun (x : Int) (j : Nat) (r : Int) => date_found h (x := x) (j := j) (r := r))
 have L := Lib.hid (fun (x : Int) => year_le (x := x) h.k1 h.d0 h.d1)
 clear h
 generalize dayZ y k d = n at *
 have c := fun W => isDay_any n W
 rw [decide_eq_true n0, decide_eq_true n1] at c
 have C := Lib.hid c
 have HT := Lib.hid ht
 clear c ht
 have c2 := fun W => daysBefore_any (1970 + n / 366) (by omega) (by omega) W
 have ys := yzZ_high (show 1970 ≤ 1970 + n / 366 by omega)
 have yl := L.out (1970 + n / 366) (by omega)
 have hs0 : yzZ (1970 + n / 366) ≤ n := by omega
 have yb := yzZ_low (show 1970 ≤ 1970 + n / 366 by omega)
 generalize hs : yzZ (1970 + n / 366) = s at *
 have C2 := Lib.hid c2
 have HS := Lib.hid hs
 clear c2 ys hs
 go_enter Tryz.func213, Tryz.ntmps213
 go_wp2_with fail
 go_step3
 go_wp2_with (first | (go_at_call 203; refine (C.out _).mono ?_; rintro e w' ⟨rfl, rfl⟩) | (go_at_call 202; refine (C2.out _).mono ?_; rintro e w' ⟨rfl, rfl⟩))
 go_step3
 go_wp2_with fail
 go_loop [2, 6] (fun yv rv => ∃ x : Int, 1970 ≤ x ∧ x ≤ y ∧ yzZ x ≤ n ∧ yv = .int .i64 x ∧ rv = .int .i64 (n - yzZ x)) (fun yv _ => (y - intOf yv).toNat)
 case atStart => exact ⟨1970 + n / 366, by omega, yl, by rw [HS.out]; exact hs0, rfl, by rw [HS.out]⟩
 case round =>
  obtain ⟨x, hx0, hx1, hxn, rfl, rfl⟩ := hrel
  clear C C2 HS hs0 yb yl
  have xl := yzZ_low hx0
  have XS := Lib.hid (yzZ_step x)
  generalize hsx : yzZ x = s at *
  have HX := Lib.hid hsx
  clear hsx
  go_wp2_with fail
  go_loop [3, 6] (fun mv rv => ∃ j : Nat, j ≤ 12 ∧ 0 ≤ n - s - msZ x j ∧ mv = .int .i64 ((j : Int) + 1) ∧ rv = .int .i64 (n - s - msZ x j)) (fun mv _ => 13 - (intOf mv).toNat)
  case atStart => exact ⟨0, by omega, by simp [msZ]; omega, rfl, by simp [msZ]⟩
  case round =>
   obtain ⟨j, hj, hr0, rfl, rfl⟩ := hrel
   have b0 := msZ_low x j
   have b1 := msZ_high x j
   by_cases hlt : j < 12
   ·have hm : msZ x (j + 1) = msZ x j + lenZ x ((j : Int) + 1) := rfl
    have c3 := fun W hW => monthLength_any x j (by omega) (by omega) (by omega) W hW
    have hl2 := lenZ_bd x ((j : Int) + 1)
    have F2 := Lib.hid (F.out x j (n - s - msZ x j) hlt)
    generalize lenZ x ((j : Int) + 1) = l at *
    generalize msZ x j = q at *
    have C3 := Lib.hid c3
    have HM := Lib.hid hm
    clear c3 hm F
    by_cases hb : n - s - q < l
    ·have E := Lib.hid (F2.out (by rw [HX.out]) hr0 hb)
     clear F2 L
     go_wp2_with (go_at_call 201; refine (C3.out _ HT.out).mono ?_; rintro e w' ⟨rfl, rfl⟩)
     rw [Exit.noGoto_ret]
     refine bodyPost_ret (results_tmp4 rfl _ _ _) rfl ?_
     refine ⟨ret_date ?_, rfl⟩
     obtain ⟨e1, e2, e3⟩ := E.out
     exact ⟨e1, by rw [e2], e3⟩
    ·clear F2
     go_wp2_with (go_at_call 201; refine (C3.out _ HT.out).mono ?_; rintro e w' ⟨rfl, rfl⟩)
     go_round
     case rel => exact ⟨j + 1, by omega, by rw [HM.out]; omega, by go_num, by rw [HM.out]; go_num⟩
     case measure => simp [intOf]; omega
   ·obtain rfl : j = 12 := by omega
    have h12 := msZ_year x
    have hs := XS.out
    generalize msZ x 12 = q at *
    have hn2 : yzZ (x + 1) ≤ n := by omega
    have hx2 := L.out (x + 1) hn2
    have HS2 := Lib.hid (show yzZ (x + 1) = s + q by omega)
    clear h12 hs XS F
    go_wp2_with fail
    go_round
    case rel => exact ⟨x + 1, by omega, hx2, hn2, rfl, by rw [HS2.out]; go_num⟩
    case measure => simp [intOf]; omega
theorem rdate_any (y : Int) (k : Nat) (d : Int) (h : Dt y k d) (w : World) :
  Calls Tryz.prog 150 #[.int .i64 (dayZ y k d)] w (IsDate y ((k : Int) + 1) d true w) := by
 have n0 := h.n0
 have n1 := h.n1
 have hy0 := h.y0
 have hy1 := h.year
 have F := Lib.hid (fun (x : Int) (j : Nat) (r : Int) => date_found h (x := x) (j := j) (r := r))
 have L := Lib.hid (fun (x : Int) => year_le (x := x) h.k1 h.d0 h.d1)
 clear h
 generalize dayZ y k d = n at *
 go_enter Tryz.func150, Tryz.ntmps150
 go_wp2_with fail
 go_loop [0, 2, 3] (fun rv yv mv => ∃ (x : Int) (j : Nat), 1970 ≤ x ∧ x ≤ y ∧ j < 12 ∧ 0 ≤ n - yzZ x - msZ x j ∧ rv = .int .i64 (n - yzZ x - msZ x j) ∧ yv = .int .i64 x ∧ mv = .int .i64 ((j : Int) + 1)) (fun rv _ _ => (intOf rv).toNat)
 case atStart => exact ⟨1970, 0, by omega, hy0, by omega, by rw [yzZ_first]; simp [msZ]; omega, by rw [yzZ_first]; simp [msZ], rfl, rfl⟩
 case round =>
  obtain ⟨x, j, hx0, hx1, hj, hr0, rfl, rfl, rfl⟩ := hrel
  have b0 := msZ_low x j
  have b1 := msZ_high x j
  have xl := yzZ_low hx0
  have XS := Lib.hid (yzZ_step x)
  have H12 := Lib.hid (msZ_year x)
  have hm : msZ x (j + 1) = msZ x j + lenZ x ((j : Int) + 1) := rfl
  have c3 := fun W => rlength_any x ((j : Int) + 1) (by omega) (by omega) W
  have hl2 := lenZ_bd x ((j : Int) + 1)
  have F2 := Lib.hid (F.out x j (n - yzZ x - msZ x j) hj)
  have LX := Lib.hid (L.out (x + 1))
  generalize lenZ x ((j : Int) + 1) = l at *
  generalize hsx : yzZ x = s at *
  have HX := Lib.hid hsx
  clear hsx
  generalize hq : msZ x j = q at *
  have C3 := Lib.hid c3
  have HM := Lib.hid hm
  have HQ := Lib.hid hq
  clear c3 hm F hq
  by_cases hb : n - s - q < l
  ·have E := Lib.hid (F2.out rfl hr0 hb)
   clear F2 L LX
   go_wp2_with (go_at_call 136; refine (C3.out _).mono ?_; rintro e w' ⟨rfl, rfl⟩)
   refine bodyPost_ret (results_tmp4 rfl _ _ _) rfl ?_
   refine ⟨ret_date ?_, rfl⟩
   obtain ⟨e1, e2, e3⟩ := E.out
   exact ⟨e1, by rw [e2], e3⟩
  ·clear F2
   by_cases h11 : j = 11
   ·subst h11
    have hs := XS.out
    have h12 := H12.out
    have hm2 : msZ x 12 = q + l := HM.out
    have hn2 : yzZ (x + 1) ≤ n := by omega
    have hx2 := LX.out hn2
    have HS2 := Lib.hid (show yzZ (x + 1) = s + q + l by omega)
    clear hs h12 hm2 XS H12 L LX HM
    go_wp2_with (go_at_call 136; refine (C3.out _).mono ?_; rintro e w' ⟨rfl, rfl⟩)
    go_round
    case rel => exact ⟨x + 1, 0, by omega, hx2, by omega, by rw [HS2.out]; simp [msZ]; omega, by rw [HS2.out]; simp [msZ]; go_num, rfl, rfl⟩
    case measure => simp [intOf]; omega
   ·clear XS H12 L LX
    go_wp2_with (go_at_call 136; refine (C3.out _).mono ?_; rintro e w' ⟨rfl, rfl⟩)
    go_round
    case rel => exact ⟨x, j + 1, by omega, hx1, by omega, by rw [HM.out, HX.out]; omega, by rw [HM.out, HX.out]; go_num, rfl, by go_num⟩
    case measure => simp [intOf]; omega
end Go.Proofs.YtmdpjahhhfajaaaGreatDoor
namespace Wh
def fmtL (y : Int) (k : Nat) (d : Int) (t : Nat) : List UInt8 :=
 digs 4 y.toNat ++ [45] ++ digs 2 (k + 1) ++ [45] ++ digs 2 d.toNat ++ [84] ++ digs 2 (t / 60) ++ [58] ++ digs 2 (t % 60)
theorem fmtL_length (y : Int) (k : Nat) (d : Int) (t : Nat) : (fmtL y k d t).length = 16 := by
 simp [fmtL, digs_length]
theorem time_of {m : Int} (h0 : 0 ≤ m) (h1 : m ≤ 575999999) : ∃ (y : Int) (k : Nat) (d : Int) (t : Nat), Dt y k d ∧ t < 1440 ∧ dayZ y k d ≤ 399999 ∧ m = dayZ y k d * 1440 + t := by
 obtain ⟨y, k, d, hd, e⟩ := date_of (n := m / 1440) (by omega) (by omega)
 exact ⟨y, k, d, (m % 1440).toNat, hd, by omega, by omega, by omega⟩
end Wh
namespace Go.Proofs.YtmdpjahhhfajaaaGreatDoor
open Go.RowKit Wh
def IsTxt (l : List UInt8) (x : Int) (w : World) (e : Ending) (w' : World) : Prop := e = .returned (.tuple #[.string ⟨l.toArray⟩, .int .i64 x]) ∧ Below w.heap.size w w'
theorem ret_txt {a b : ByteArray} {x y : Int} (h : a = b) (g : x = y) : Ending.returned (.tuple #[.string a, .int .i64 x]) = .returned (.tuple #[.string b, .int .i64 y]) := by rw [h, g]
theorem rformat_any (y : Int) (k : Nat) (d : Int) (t : Nat) (hd : Dt y k d) (ht : t < 1440) (hn : dayZ y k d ≤ 399999) (w : World) :
  Calls Tryz.prog 121 #[.int .i64 (dayZ y k d * 1440 + t)] w (IsTxt (fmtL y k d t) 0 w) := by
 have n0 := hd.n0
 have y0 := hd.y0
 have y9 := hd.year
 have k1 := hd.k1
 have d0 := hd.d0
 have d9 : d ≤ 31 := by have := hd.d1; have := lenZ_bd y ((k : Int) + 1); omega
 have c0 := fun W => rdate_any y k d hd W
 obtain ⟨Y, rfl⟩ : ∃ Y : Nat, y = (Y : Int) := ⟨y.toNat, by omega⟩
 obtain ⟨D, rfl⟩ : ∃ D : Nat, d = (D : Int) := ⟨d.toNat, by omega⟩
 generalize dayZ (Y : Int) k D = n at *
 have c1 := fun W => padded_any Y 4 (by omega) (by omega) W
 have c2 := fun W => padded_any (k + 1) 2 (by omega) (by omega) W
 have c3 := fun W => padded_any D 2 (by omega) (by omega) W
 have c4 := fun W => padded_any (t / 60) 2 (by omega) (by omega) W
 have c5 := fun W => padded_any (t % 60) 2 (by omega) (by omega) W
 have hL : fmtL Y k D t = digs 4 Y ++ [45] ++ digs 2 (k + 1) ++ [45] ++ digs 2 D ++ [84] ++ digs 2 (t / 60) ++ [58] ++ digs 2 (t % 60) := rfl
 have l1 := digs_length 4 Y
 have l2 := digs_length 2 (k + 1)
 have l3 := digs_length 2 D
 have l4 := digs_length 2 (t / 60)
 have l5 := digs_length 2 (t % 60)
 generalize digs 4 Y = L1 at *
 generalize digs 2 (k + 1) = L2 at *
 generalize digs 2 D = L3 at *
 generalize digs 2 (t / 60) = L4 at *
 generalize digs 2 (t % 60) = L5 at *
 generalize fmtL Y k D t = L at *
 have e1 : (n * 1440 + (t : Int)) / 1440 = n := by omega
 have e2 : (n * 1440 + (t : Int)) % 1440 / 60 = ((t / 60 : Nat) : Int) := by omega
 have e3 : (n * 1440 + (t : Int)) % 60 = ((t % 60 : Nat) : Int) := by omega
 have m0 : 0 ≤ n * 1440 + (t : Int) := by omega
 have m9 : n * 1440 + (t : Int) ≤ 575999999 := by omega
 generalize n * 1440 + (t : Int) = m at *
 generalize t / 60 = H at *
 generalize t % 60 = M at *
 have C0 := Lib.hid c0
 have C1 := Lib.hid c1
 have C2 := Lib.hid c2
 have C3 := Lib.hid c3
 have C4 := Lib.hid c4
 have C5 := Lib.hid c5
 have HL := Lib.hid hL
 clear c0 c1 c2 c3 c4 c5 hL hd
 go_enter Tryz.func121, Tryz.ntmps121
 go_wp2_with fail
 refine (C0.out _).mono ?_
 rintro e w' ⟨rfl, rfl⟩
 go_wp2_with fail
 refine (C1.out _).mono ?_
 rintro e w1 ⟨rfl, hb1⟩
 go_wp2_with fail
 refine (C2.out _).mono ?_
 rintro e w2 ⟨rfl, hb2⟩
 go_wp2_with fail
 refine (C3.out _).mono ?_
 rintro e w3 ⟨rfl, hb3⟩
 go_wp2_with fail
 refine (C4.out _).mono ?_
 rintro e w4 ⟨rfl, hb4⟩
 go_wp2_with fail
 refine (C5.out _).mono ?_
 rintro e w5 ⟨rfl, hb5⟩
 go_wp2_with fail
 go_ret2
 have B2 := hb1.trans (hb2.mono hb1.size)
 have B3 := B2.trans (hb3.mono B2.size)
 have B4 := B3.trans (hb4.mono B3.size)
 have B5 := B4.trans (hb5.mono B4.size)
 refine ⟨ret_txt ?_ rfl, B5⟩
 rw [HL.out, show (⟨#[45]⟩ : ByteArray) = ⟨[45].toArray⟩ from rfl, show (⟨#[84]⟩ : ByteArray) = ⟨[84].toArray⟩ from rfl, show (⟨#[58]⟩ : ByteArray) = ⟨[58].toArray⟩ from rfl]
 simp only [ba_append]
end Go.Proofs.YtmdpjahhhfajaaaGreatDoor
namespace Go.Proofs.YtmdpjahhhfajaaaGreatDoor
open Go.RowKit Wh
def byC (l : List UInt8) : List Value := l.map fun x => .int .u8 x.toNat
theorem byC_push (l : List UInt8) (x : UInt8) (c : Int) (h : c = x.toNat) : byC l ++ [.int .u8 c] = byC (l ++ [x]) := by
 subst h
 simp [byC]
theorem info_u8 : (Tryz.prog.info? 5).map (fun i => (i.zero, i.size, i.bytes)) = some (some (.int .u8 0), 1, 1) := by kernel_rfl
theorem conv_own {w : World} {base n g cap : Nat} {l : List UInt8} (h : w.ownsRow base 5 1 (.slice (some ⟨g, 0, none⟩) n cap) n (byC l)) (hn : l.length = n) :
  (convert 127 9 (.slice (some ⟨g, 0, none⟩) n cap)).run Tryz.prog w = .ok (.string ⟨l.toArray⟩) w := by
 refine conv_str hn fun j x hx => ?_
 have hk := (List.getElem?_eq_some_iff.1 hx).1
 rw [Nat.zero_add, h.cellAt j (by omega)]
 unfold byC
 rw [List.getElem?_map, hx]
 rfl
end Go.Proofs.YtmdpjahhhfajaaaGreatDoor
