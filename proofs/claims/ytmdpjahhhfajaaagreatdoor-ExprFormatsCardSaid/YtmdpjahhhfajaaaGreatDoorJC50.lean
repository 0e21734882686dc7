/-
  ExprFormats: its walk.
-/
import Derived.Test.YtmdpjahhhfajaaaGreatDoorJC32
import Derived.Test.YtmdpjahhhfajaaaGreatDoorJC44
import Derived.Test.YtmdpjahhhfajaaaGreatDoorJC45
import Derived.Test.YtmdpjahhhfajaaaGreatDoorJC49
import Derived.Test.YtmdpjahhhfajaaaGreatDoorJC27
set_option linter.unusedVariables false
set_option linter.unusedSimpArgs false
set_option maxRecDepth 100000
namespace Go.Proofs.YtmdpjahhhfajaaaGreatDoor
open Go.RowKit Wh
theorem light8_any (a : Option Addr) (len cap : Nat) (w : World) : Calls Tryz.prog 17 #[.slice a len cap] w fun e w' => e = .returned (.bool (decide (len ≤ 400))) ∧ Below w.heap.size w w' := by
 by_cases h : len ≤ 400
 ·have hi : (len : Int) ≤ 400 := by omega
  rw [decide_eq_true h]
  go_enter Tryz.func17, Tryz.ntmps17
  go_wp2_with fail
  go_ret
  exact ⟨rfl, Below.refl _ _⟩
 ·have hi : ¬ (len : Int) ≤ 400 := by omega
  rw [decide_eq_false h]
  go_enter Tryz.func17, Tryz.ntmps17
  go_wp2_with fail
  go_ret
  exact ⟨rfl, Below.refl _ _⟩
set_option maxHeartbeats 16000000 in
theorem eformats_walk (w : World) (ra : Option Addr) (rl rc : Nat) (rs : List Nd) (hr : IsNodes w ra rl rs) (hrc : rl ≤ rc) (hrm : rc ≤ maxLen) (hrn : ra = none → rc = 0) (hrz : ∀ t ∈ rs, t.nm.size ≤ 9223372036854775800)
  (la : Option Addr) (ll lc : Nat) (zs : List Int) (hz : IsInts w la ll zs) (hc : ll ≤ lc) (hm : lc ≤ maxLen) (n : Int) (hn1 : -9223372036854775808 ≤ n) (hn2 : n ≤ 9223372036854775807) (hg : Glx w) :
  Calls Tryz.prog 6 #[.slice ra rl rc, .slice la ll lc, .int .i64 n] w fun e w' => e = .returned (.bool true) ∧ Below w.heap.size w w' := by
 have mm : maxLen = 9223372036854775807 := rfl
 have CK := Lib.hid (fun W (h : Below w.heap.size w W) => known8_any W (hg.below h (Nat.le_refl _)))
 have CL := Lib.hid (light8_any ra rl rc w)
 by_cases hl : rl ≤ 400
 rotate_left
 ·rw [decide_eq_false hl] at CL
  clear hr hz hg hrz
  go_enter Tryz.func6, Tryz.ntmps6
  go_wp2_with fail
  refine CL.out.mono ?_
  rintro e w1 ⟨rfl, hb1⟩
  have HB1 := Lib.hid hb1
  clear hb1 CL
  go_wp2_with fail
  refine (CK.out _ HB1.out).mono ?_
  rintro e w2 ⟨rfl, hb2⟩
  have HB2 := Lib.hid (HB1.out.trans (hb2.mono HB1.out.size))
  clear hb2
  go_wp2_with fail
  go_ret
  exact ⟨rfl, HB2.out⟩
 rw [decide_eq_true hl] at CL
 obtain ⟨es, g, C⟩ := made_any la ll lc zs (by omega) n
 obtain ⟨hv, hel⟩ := g.valN (by omega)
 have hgn := g.nms
 have CM := Lib.hid (fun W (h : Below w.heap.size w W) => C W (hz.below h (Nat.le_refl _)))
 have P0 := Lib.hid (fun W (h : Below w.heap.size w W) => pformat_any ra rl rc rs W (hr.below h (Nat.le_refl _)) (by omega) hrz (hg.below h (Nat.le_refl _)))
 have R0 := Lib.hid (fun W (h : Below w.heap.size w W) => rformat8_any ra rl rc rs W (hr.below h (Nat.le_refl _)) (by omega) hrz)
 have P1 := Lib.hid (fun (ts : List Nd) (hts : ts.length ≤ 1000) (htz : ∀ t ∈ ts, t.nm.size ≤ 10) a c W (hi : IsNodes W a ts.length ts) (h : Below w.heap.size w W) => pformat_any a ts.length c ts W hi (by omega) (fun t ht => by have := htz t ht; omega) (hg.below h (Nat.le_refl _)))
 have R1 := Lib.hid (fun (ts : List Nd) (hts : ts.length ≤ 1000) (htz : ∀ t ∈ ts, t.nm.size ≤ 10) a c W (hi : IsNodes W a ts.length ts) => rformat8_any a ts.length c ts W hi (by omega) (fun t ht => by have := htz t ht; omega))
 have b3 := and_3
 obtain ⟨N, hN⟩ : ∃ N : Nat, n % 4 = (N : Int) := ⟨(n % 4).toNat, by omega⟩
 have CN := Lib.hid (fun W (h : Below w.heap.size w W) => nodes_any la ll lc zs (by omega) (N + 1) (by omega) W (hz.below h (Nat.le_refl _)))
 rw [show ((N + 1 : Nat) : Int) = 1 + (N : Int) by omega] at CN
 have hN4 : N < 4 := by omega
 have hez : ∀ t ∈ es, t.nm.size ≤ 10 := fun t ht => by have := hgn t ht; omega
 unfold IsTxt at P0 R0 P1 R1
 obtain ⟨s0, hs0⟩ : ∃ s : ByteArray, (⟨(fmtO rs).1.toArray⟩ : ByteArray) = s := ⟨_, rfl⟩
 obtain ⟨x0, hx0⟩ : ∃ x, (fmtO rs).2 = x := ⟨_, rfl⟩
 rw [hs0, hx0] at P0 R0
 have P2 := Lib.hid (fun a c W hi h => P1.out es (by omega) hez a c W hi h)
 have R2 := Lib.hid (fun a c W hi => R1.out es (by omega) hez a c W hi)
 obtain ⟨s1, hs1⟩ : ∃ s : ByteArray, (⟨(fmtO es).1.toArray⟩ : ByteArray) = s := ⟨_, rfl⟩
 obtain ⟨x1, hx1⟩ : ∃ x, (fmtO es).2 = x := ⟨_, rfl⟩
 rw [hs1, hx1] at P2 R2
 clear hr hz hg hrz g C hv hgn hs0 hx0 hs1 hx1 hez
 go_enter Tryz.func6, Tryz.ntmps6
 go_wp2_with fail
 refine CL.out.mono ?_
 rintro e w1 ⟨rfl, hb1⟩
 have HB1 := Lib.hid hb1
 clear hb1 CL
 go_wp2_with fail
 refine (P0.out _ HB1.out).mono ?_
 rintro e w2 ⟨rfl, hb2⟩
 have HB2 := Lib.hid (HB1.out.trans (hb2.mono HB1.out.size))
 clear hb2 P0
 go_wp2_with fail
 refine (R0.out _ HB2.out).mono ?_
 rintro e w3 ⟨rfl, hb3⟩
 have HB3 := Lib.hid (HB2.out.trans (hb3.mono HB2.out.size))
 clear hb3 R0
 go_wp2_with fail
 refine (CM.out _ HB3.out).mono ?_
 intro e w4 hmd
 obtain ⟨a4, k4, rfl, hi4, hn4, hb4⟩ := hmd.nodes
 have HB4 := Lib.hid (HB3.out.trans (hb4.mono HB3.out.size))
 have HI4 := Lib.hid hi4
 clear hmd hi4 hn4 hb4
 go_wp2_with fail
 refine (P2.out _ _ _ HI4.out HB4.out).mono ?_
 rintro e w5 ⟨rfl, hb5⟩
 have HB5 := Lib.hid (HB4.out.trans (hb5.mono HB4.out.size))
 clear hb5 P2 HI4
 go_wp2_with fail
 refine (CM.out _ HB5.out).mono ?_
 intro e w6 hmd
 obtain ⟨a6, k6, rfl, hi6, hn6, hb6⟩ := hmd.nodes
 have HB6 := Lib.hid (HB5.out.trans (hb6.mono HB5.out.size))
 have HI6 := Lib.hid hi6
 clear hmd hi6 hn6 hb6 CM
 go_wp2_with fail
 refine (R2.out _ _ _ HI6.out).mono ?_
 rintro e w7 ⟨rfl, hb7⟩
 have HB7 := Lib.hid (HB6.out.trans (hb7.mono HB6.out.size))
 clear hb7 R2 HI6
 go_wp2_with fail
 refine (CN.out _ HB7.out).mono ?_
 rintro e w8 ⟨ts, htl, htz, hmd⟩
 obtain ⟨a8, k8, rfl, hi8, hn8, hb8⟩ := hmd.nodes
 have HB8 := Lib.hid (HB7.out.trans (hb8.mono HB7.out.size))
 have HI8 := Lib.hid hi8
 have P3 := Lib.hid (fun a c W hi h => P1.out ts (by omega) htz a c W hi h)
 have R3 := Lib.hid (fun a c W hi => R1.out ts (by omega) htz a c W hi)
 obtain ⟨s2, hs2⟩ : ∃ s : ByteArray, (⟨(fmtO ts).1.toArray⟩ : ByteArray) = s := ⟨_, rfl⟩
 obtain ⟨x2, hx2⟩ : ∃ x, (fmtO ts).2 = x := ⟨_, rfl⟩
 rw [hs2, hx2] at P3 R3
 clear hmd hi8 hn8 hb8 CN htz htl hs2 hx2 P1 R1
 go_wp2_with fail
 refine (P3.out _ _ _ HI8.out HB8.out).mono ?_
 rintro e w9 ⟨rfl, hb9⟩
 have HB9 := Lib.hid (HB8.out.trans (hb9.mono HB8.out.size))
 have HI9 := Lib.hid (HI8.out.below hb9 (Nat.le_refl _))
 clear hb9 P3 HI8
 go_wp2_with fail
 refine (R3.out _ _ _ HI9.out).mono ?_
 rintro e w10 ⟨rfl, hb10⟩
 have HB10 := Lib.hid (HB9.out.trans (hb10.mono HB9.out.size))
 clear hb10 R3 HI9
 go_wp2_with fail
 refine (CK.out _ HB10.out).mono ?_
 rintro e w11 ⟨rfl, hb11⟩
 have HB11 := Lib.hid (HB10.out.trans (hb11.mono HB10.out.size))
 clear hb11
 go_wp2_with fail
 go_ret
 exact ⟨rfl, HB11.out⟩
end Go.Proofs.YtmdpjahhhfajaaaGreatDoor
