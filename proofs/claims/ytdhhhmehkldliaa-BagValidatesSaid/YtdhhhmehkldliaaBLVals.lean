/-
  BagValidates: its walk.
-/
import Derived.Test.YtdhhhmehkldliaaBLKit
set_option linter.unusedVariables false
set_option maxRecDepth 100000
namespace Go.Proofs.Ytdhhhmehkldliaa
open Go.RowKit Wh

set_option maxHeartbeats 8000000 in
theorem validates_walk (w : World) (x1 : Option Addr) (l1 k1 : Nat) (es1 : List En) (he1 : IsEnts w x1 l1 es1) (he1c : l1 ≤ k1) (he1m : k1 ≤ maxLen) (he1n : x1 = none → k1 = 0) (_ : ∀ e ∈ es1, -9223372036854775808 ≤ e.cnt ∧ e.cnt ≤ 9223372036854775807)
    (y1 : Option Addr) (m1 j1 : Nat) (zs1 : List Int) (hz1 : IsInts w y1 m1 zs1) (hz1c : m1 ≤ j1) (hz1m : j1 ≤ maxLen) (hz1b : ∀ z ∈ zs1, -9223372036854775808 ≤ z ∧ z ≤ 9223372036854775807) (n : Int) (n0 : -9223372036854775808 ≤ n) (n1 : n ≤ 9223372036854775807) :
    Calls Try.prog 3 #[.slice x1 l1 k1, .slice y1 m1 j1, .int .i64 n] w fun e w' => e = .returned (.bool true) ∧ Below w.heap.size w w' := by
  have mm : maxLen = 9223372036854775807 := rfl
  have L1 := Lib.hid (light_any x1 l1 k1 es1 w he1 (by omega))
  generalize lightB es1 = b1 at *
  have hB0 : Below w.heap.size w w := Below.refl _ _
  by_cases hq : b1 = false
  · subst hq
    clear he1 hz1 mm
    go_enter Try.func3, Try.ntmps3
    go_wp2_with fail
    refine L1.out.mono ?_
    rintro e w1 ⟨rfl, rfl⟩
    go_wp2_with fail
    refine (known_any _).mono ?_
    rintro e w2 ⟨rfl, hb2⟩
    go_wp2_with fail
    go_ret
    exact ⟨rfl, hb2⟩
  obtain rfl : b1 = true := by simpa using hq
  have b15 := and_15
  have b7 := and_7
  have b3 := and_3
  obtain ⟨N, hN, hN7⟩ : ∃ N : Nat, n % 16 = N ∧ N ≤ 15 := ⟨(n % 16).toNat, by omega, by omega⟩
  have CB := Lib.hid (bag_any y1 m1 j1 zs1 N w hz1 (by omega) (by omega))
  have hbl := bagZ_length zs1 (n := N) (by omega)
  generalize bagZ zs1 N = bs at *
  have E1 := Lib.hid he1
  clear he1 hz1 hq
  go_enter Try.func3, Try.ntmps3
  go_wp2_with fail
  refine L1.out.mono ?_
  rintro e w1 ⟨rfl, rfl⟩
  clear L1
  go_wp2_with fail
  refine CB.out.mono ?_
  rintro e w1 ⟨v1, rfl, ho1, hb1⟩
  have hsz := hb1.size
  obtain ⟨a1, c1, rfl, hi1, p1, q1, r1, s1⟩ := own_ents ho1
  have HO1 := Lib.hid ho1
  have I1 := Lib.hid (E1.out.below hb1 (Nat.le_refl _))
  clear CB ho1
  by_cases hl0 : bs.length = 0
  · have J1 := Lib.hid hi1
    rw [hl0] at J1
    rw [hl0]
    clear hi1 HO1 s1
    go_wp2_with fail
    refine (size_any6 x1 l1 k1 es1 w1 I1.out (by omega)).mono ?_
    rintro e w6 ⟨rfl, hb6⟩
    have hB6 := hb1.trans (hb6.mono hb1.size)
    replace I1 := Lib.hid (I1.out.below hb6 (Nat.le_refl _))
    replace J1 := Lib.hid (J1.out.below hb6 (Nat.le_refl _))
    go_wp2_with fail
    refine (rsize_any6 x1 l1 k1 es1 w6 I1.out (by omega)).mono ?_
    rintro e w7 ⟨rfl, hb7⟩
    have hB7 := hB6.trans (hb7.mono hB6.size)
    replace I1 := Lib.hid (I1.out.below hb7 (Nat.le_refl _))
    replace J1 := Lib.hid (J1.out.below hb7 (Nat.le_refl _))
    go_wp2_with fail
    refine (size_any6 a1 0 c1 bs w7 J1.out (by omega)).mono ?_
    rintro e w8 ⟨rfl, hb8⟩
    have hB8 := hB7.trans (hb8.mono hB7.size)
    replace I1 := Lib.hid (I1.out.below hb8 (Nat.le_refl _))
    replace J1 := Lib.hid (J1.out.below hb8 (Nat.le_refl _))
    go_wp2_with fail
    refine (rsize_any6 a1 0 c1 bs w8 J1.out (by omega)).mono ?_
    rintro e w9 ⟨rfl, hb9⟩
    have hB9 := hB8.trans (hb9.mono hB8.size)
    replace I1 := Lib.hid (I1.out.below hb9 (Nat.le_refl _))
    replace J1 := Lib.hid (J1.out.below hb9 (Nat.le_refl _))
    go_wp2_with fail
    refine (validate_any6 x1 l1 k1 es1 w9 I1.out (by omega)).mono ?_
    rintro e w10 ⟨rfl, hb10⟩
    have hB10 := hB9.trans (hb10.mono hB9.size)
    replace I1 := Lib.hid (I1.out.below hb10 (Nat.le_refl _))
    replace J1 := Lib.hid (J1.out.below hb10 (Nat.le_refl _))
    go_wp2_with fail
    refine (rvalidate_any6 x1 l1 k1 es1 w10 I1.out (by omega)).mono ?_
    rintro e w11 ⟨rfl, hb11⟩
    have hB11 := hB10.trans (hb11.mono hB10.size)
    replace I1 := Lib.hid (I1.out.below hb11 (Nat.le_refl _))
    replace J1 := Lib.hid (J1.out.below hb11 (Nat.le_refl _))
    go_wp2_with fail
    refine (validate_any6 a1 0 c1 bs w11 J1.out (by omega)).mono ?_
    rintro e w12 ⟨rfl, hb12⟩
    have hB12 := hB11.trans (hb12.mono hB11.size)
    replace I1 := Lib.hid (I1.out.below hb12 (Nat.le_refl _))
    replace J1 := Lib.hid (J1.out.below hb12 (Nat.le_refl _))
    go_wp2_with fail
    refine (rvalidate_any6 a1 0 c1 bs w12 J1.out (by omega)).mono ?_
    rintro e w13 ⟨rfl, hb13⟩
    have hB13 := hB12.trans (hb13.mono hB12.size)
    replace I1 := Lib.hid (I1.out.below hb13 (Nat.le_refl _))
    replace J1 := Lib.hid (J1.out.below hb13 (Nat.le_refl _))
    go_wp2_with fail
    refine (istable_any x1 l1 k1 es1 w13 I1.out (by omega)).mono ?_
    rintro e w14 ⟨rfl, hb14⟩
    have hB14 := hB13.trans (hb14.mono hB13.size)
    replace I1 := Lib.hid (I1.out.below hb14 (Nat.le_refl _))
    replace J1 := Lib.hid (J1.out.below hb14 (Nat.le_refl _))
    go_wp2_with fail
    refine (risTable_any x1 l1 k1 es1 w14 I1.out (by omega)).mono ?_
    rintro e w15 ⟨rfl, hb15⟩
    have hB15 := hB14.trans (hb15.mono hB14.size)
    replace I1 := Lib.hid (I1.out.below hb15 (Nat.le_refl _))
    replace J1 := Lib.hid (J1.out.below hb15 (Nat.le_refl _))
    go_wp2_with fail
    refine (istable_any a1 0 c1 bs w15 J1.out (by omega)).mono ?_
    rintro e w16 ⟨rfl, hb16⟩
    have hB16 := hB15.trans (hb16.mono hB15.size)
    replace I1 := Lib.hid (I1.out.below hb16 (Nat.le_refl _))
    replace J1 := Lib.hid (J1.out.below hb16 (Nat.le_refl _))
    go_wp2_with fail
    refine (risTable_any a1 0 c1 bs w16 J1.out (by omega)).mono ?_
    rintro e w17 ⟨rfl, hb17⟩
    have hB17 := hB16.trans (hb17.mono hB16.size)
    replace I1 := Lib.hid (I1.out.below hb17 (Nat.le_refl _))
    replace J1 := Lib.hid (J1.out.below hb17 (Nat.le_refl _))
    clear I1 J1
    go_wp2_with fail
    refine (known_any w17).mono ?_
    rintro e w18 ⟨rfl, hb18⟩
    have hB18 := hB17.trans (hb18.mono hB17.size)
    go_wp2_with fail
    go_ret
    exact ⟨rfl, hB18⟩
  have hlp : (0 : Int) < (bs.length : Int) := by omega
  by_cases h7 : n / 16 % 8 = 0
  · have h7b : (n / 16 % 8 == 0) = true := by simpa using h7
    obtain ⟨j, hj, hjl⟩ : ∃ j : Nat, (n / 128 % 16).tmod (bs.length : Int) = j ∧ j < bs.length := by
      have e0 : 0 ≤ n / 128 % 16 := by omega
      rw [Int.tmod_eq_emod_of_nonneg e0]
      have e1 := Int.emod_nonneg (n / 128 % 16) (show (bs.length : Int) ≠ 0 by omega)
      have e2 := Int.emod_lt_of_pos (n / 128 % 16) hlp
      exact ⟨((n / 128 % 16) % (bs.length : Int)).toNat, by omega, by omega⟩
    obtain ⟨x, hx⟩ : ∃ x, bs[j]? = some x := ⟨_, List.getElem?_eq_getElem hjl⟩
    obtain ⟨g, rfl⟩ : ∃ g, a1 = some ⟨g, 0, none⟩ := by
      cases a1 with
      | none => have := r1 rfl; omega
      | some y => obtain ⟨g, h1, _⟩ := s1 y rfl; exact ⟨g, by rw [h1]⟩
    have hbg := (own_size HO1.out).2.2.2.1
    obtain ⟨z1, f1⟩ := own_cnt HO1.out hx
    have hset := HO1.out.setCnt hx (n / 2048 % 4 - 1)
    obtain ⟨a9, c9, he9, hi9, _⟩ := own_ents hset
    rw [List.length_set] at he9 hi9
    cases he9
    have hB9 : Below w.heap.size w (w1.setCell ⟨g, j * 2 + 1, none⟩ (.int .i64 (n / 2048 % 4 - 1))) := hb1.setCell hbg _
    have HI9 := Lib.hid hi9
    have HB9 := Lib.hid hB9
    have hjl2 : (j : Int) < (bs.length : Int) := by omega
    have hw1 : IntKind.i64.wrap (n / 2048 % 4 - 1) = n / 2048 % 4 - 1 := by rw [IntKind.wrap_i64]; omega
    have hlz : ((bs.length : Int) == 0) = false := by simpa using hl0
    have hll : (bs.set j ⟨x.row, n / 2048 % 4 - 1⟩).length = bs.length := List.length_set ..
    have HL := Lib.hid hll
    generalize hbs2 : bs.set j ⟨x.row, n / 2048 % 4 - 1⟩ = bs2 at *
    have I9 := Lib.hid (E1.out.below hB9 (Nat.le_refl _))
    clear hi1 hset hi9 hB9 s1 hbs2 hx HO1 hll E1 I1
    go_wp2_with fail
    generalize w1.setCell ⟨g, j * 2 + 1, none⟩ (.int .i64 (n / 2048 % 4 - 1)) = w5 at *
    have hB5 := HB9.out
    have I1 := I9
    have J1 := HI9
    clear I9 HI9 HB9
    refine (size_any6 x1 l1 k1 es1 w5 I1.out (by omega)).mono ?_
    rintro e w6 ⟨rfl, hb6⟩
    have hB6 := hB5.trans (hb6.mono hB5.size)
    replace I1 := Lib.hid (I1.out.below hb6 (Nat.le_refl _))
    replace J1 := Lib.hid (J1.out.below hb6 (Nat.le_refl _))
    go_wp2_with fail
    refine (rsize_any6 x1 l1 k1 es1 w6 I1.out (by omega)).mono ?_
    rintro e w7 ⟨rfl, hb7⟩
    have hB7 := hB6.trans (hb7.mono hB6.size)
    replace I1 := Lib.hid (I1.out.below hb7 (Nat.le_refl _))
    replace J1 := Lib.hid (J1.out.below hb7 (Nat.le_refl _))
    go_wp2_with fail
    refine (size_any6 (some ⟨g, 0, none⟩) bs.length c1 bs2 w7 J1.out (by omega)).mono ?_
    rintro e w8 ⟨rfl, hb8⟩
    have hB8 := hB7.trans (hb8.mono hB7.size)
    replace I1 := Lib.hid (I1.out.below hb8 (Nat.le_refl _))
    replace J1 := Lib.hid (J1.out.below hb8 (Nat.le_refl _))
    go_wp2_with fail
    refine (rsize_any6 (some ⟨g, 0, none⟩) bs.length c1 bs2 w8 J1.out (by omega)).mono ?_
    rintro e w9 ⟨rfl, hb9⟩
    have hB9 := hB8.trans (hb9.mono hB8.size)
    replace I1 := Lib.hid (I1.out.below hb9 (Nat.le_refl _))
    replace J1 := Lib.hid (J1.out.below hb9 (Nat.le_refl _))
    go_wp2_with fail
    refine (validate_any6 x1 l1 k1 es1 w9 I1.out (by omega)).mono ?_
    rintro e w10 ⟨rfl, hb10⟩
    have hB10 := hB9.trans (hb10.mono hB9.size)
    replace I1 := Lib.hid (I1.out.below hb10 (Nat.le_refl _))
    replace J1 := Lib.hid (J1.out.below hb10 (Nat.le_refl _))
    go_wp2_with fail
    refine (rvalidate_any6 x1 l1 k1 es1 w10 I1.out (by omega)).mono ?_
    rintro e w11 ⟨rfl, hb11⟩
    have hB11 := hB10.trans (hb11.mono hB10.size)
    replace I1 := Lib.hid (I1.out.below hb11 (Nat.le_refl _))
    replace J1 := Lib.hid (J1.out.below hb11 (Nat.le_refl _))
    go_wp2_with fail
    refine (validate_any6 (some ⟨g, 0, none⟩) bs.length c1 bs2 w11 J1.out (by omega)).mono ?_
    rintro e w12 ⟨rfl, hb12⟩
    have hB12 := hB11.trans (hb12.mono hB11.size)
    replace I1 := Lib.hid (I1.out.below hb12 (Nat.le_refl _))
    replace J1 := Lib.hid (J1.out.below hb12 (Nat.le_refl _))
    go_wp2_with fail
    refine (rvalidate_any6 (some ⟨g, 0, none⟩) bs.length c1 bs2 w12 J1.out (by omega)).mono ?_
    rintro e w13 ⟨rfl, hb13⟩
    have hB13 := hB12.trans (hb13.mono hB12.size)
    replace I1 := Lib.hid (I1.out.below hb13 (Nat.le_refl _))
    replace J1 := Lib.hid (J1.out.below hb13 (Nat.le_refl _))
    go_wp2_with fail
    refine (istable_any x1 l1 k1 es1 w13 I1.out (by omega)).mono ?_
    rintro e w14 ⟨rfl, hb14⟩
    have hB14 := hB13.trans (hb14.mono hB13.size)
    replace I1 := Lib.hid (I1.out.below hb14 (Nat.le_refl _))
    replace J1 := Lib.hid (J1.out.below hb14 (Nat.le_refl _))
    go_wp2_with fail
    refine (risTable_any x1 l1 k1 es1 w14 I1.out (by omega)).mono ?_
    rintro e w15 ⟨rfl, hb15⟩
    have hB15 := hB14.trans (hb15.mono hB14.size)
    replace I1 := Lib.hid (I1.out.below hb15 (Nat.le_refl _))
    replace J1 := Lib.hid (J1.out.below hb15 (Nat.le_refl _))
    go_wp2_with fail
    refine (istable_any (some ⟨g, 0, none⟩) bs.length c1 bs2 w15 J1.out (by omega)).mono ?_
    rintro e w16 ⟨rfl, hb16⟩
    have hB16 := hB15.trans (hb16.mono hB15.size)
    replace I1 := Lib.hid (I1.out.below hb16 (Nat.le_refl _))
    replace J1 := Lib.hid (J1.out.below hb16 (Nat.le_refl _))
    go_wp2_with fail
    refine (risTable_any (some ⟨g, 0, none⟩) bs.length c1 bs2 w16 J1.out (by omega)).mono ?_
    rintro e w17 ⟨rfl, hb17⟩
    have hB17 := hB16.trans (hb17.mono hB16.size)
    replace I1 := Lib.hid (I1.out.below hb17 (Nat.le_refl _))
    replace J1 := Lib.hid (J1.out.below hb17 (Nat.le_refl _))
    clear I1 J1
    go_wp2_with fail
    refine (known_any w17).mono ?_
    rintro e w18 ⟨rfl, hb18⟩
    have hB18 := hB17.trans (hb18.mono hB17.size)
    go_wp2_with fail
    go_ret
    exact ⟨rfl, hB18⟩
  · have h7b : (n / 16 % 8 == 0) = false := by simpa using h7
    have J1 := Lib.hid hi1
    clear hi1 HO1 s1
    go_wp2_with fail
    refine (size_any6 x1 l1 k1 es1 w1 I1.out (by omega)).mono ?_
    rintro e w6 ⟨rfl, hb6⟩
    have hB6 := hb1.trans (hb6.mono hb1.size)
    replace I1 := Lib.hid (I1.out.below hb6 (Nat.le_refl _))
    replace J1 := Lib.hid (J1.out.below hb6 (Nat.le_refl _))
    go_wp2_with fail
    refine (rsize_any6 x1 l1 k1 es1 w6 I1.out (by omega)).mono ?_
    rintro e w7 ⟨rfl, hb7⟩
    have hB7 := hB6.trans (hb7.mono hB6.size)
    replace I1 := Lib.hid (I1.out.below hb7 (Nat.le_refl _))
    replace J1 := Lib.hid (J1.out.below hb7 (Nat.le_refl _))
    go_wp2_with fail
    refine (size_any6 a1 bs.length c1 bs w7 J1.out (by omega)).mono ?_
    rintro e w8 ⟨rfl, hb8⟩
    have hB8 := hB7.trans (hb8.mono hB7.size)
    replace I1 := Lib.hid (I1.out.below hb8 (Nat.le_refl _))
    replace J1 := Lib.hid (J1.out.below hb8 (Nat.le_refl _))
    go_wp2_with fail
    refine (rsize_any6 a1 bs.length c1 bs w8 J1.out (by omega)).mono ?_
    rintro e w9 ⟨rfl, hb9⟩
    have hB9 := hB8.trans (hb9.mono hB8.size)
    replace I1 := Lib.hid (I1.out.below hb9 (Nat.le_refl _))
    replace J1 := Lib.hid (J1.out.below hb9 (Nat.le_refl _))
    go_wp2_with fail
    refine (validate_any6 x1 l1 k1 es1 w9 I1.out (by omega)).mono ?_
    rintro e w10 ⟨rfl, hb10⟩
    have hB10 := hB9.trans (hb10.mono hB9.size)
    replace I1 := Lib.hid (I1.out.below hb10 (Nat.le_refl _))
    replace J1 := Lib.hid (J1.out.below hb10 (Nat.le_refl _))
    go_wp2_with fail
    refine (rvalidate_any6 x1 l1 k1 es1 w10 I1.out (by omega)).mono ?_
    rintro e w11 ⟨rfl, hb11⟩
    have hB11 := hB10.trans (hb11.mono hB10.size)
    replace I1 := Lib.hid (I1.out.below hb11 (Nat.le_refl _))
    replace J1 := Lib.hid (J1.out.below hb11 (Nat.le_refl _))
    go_wp2_with fail
    refine (validate_any6 a1 bs.length c1 bs w11 J1.out (by omega)).mono ?_
    rintro e w12 ⟨rfl, hb12⟩
    have hB12 := hB11.trans (hb12.mono hB11.size)
    replace I1 := Lib.hid (I1.out.below hb12 (Nat.le_refl _))
    replace J1 := Lib.hid (J1.out.below hb12 (Nat.le_refl _))
    go_wp2_with fail
    refine (rvalidate_any6 a1 bs.length c1 bs w12 J1.out (by omega)).mono ?_
    rintro e w13 ⟨rfl, hb13⟩
    have hB13 := hB12.trans (hb13.mono hB12.size)
    replace I1 := Lib.hid (I1.out.below hb13 (Nat.le_refl _))
    replace J1 := Lib.hid (J1.out.below hb13 (Nat.le_refl _))
    go_wp2_with fail
    refine (istable_any x1 l1 k1 es1 w13 I1.out (by omega)).mono ?_
    rintro e w14 ⟨rfl, hb14⟩
    have hB14 := hB13.trans (hb14.mono hB13.size)
    replace I1 := Lib.hid (I1.out.below hb14 (Nat.le_refl _))
    replace J1 := Lib.hid (J1.out.below hb14 (Nat.le_refl _))
    go_wp2_with fail
    refine (risTable_any x1 l1 k1 es1 w14 I1.out (by omega)).mono ?_
    rintro e w15 ⟨rfl, hb15⟩
    have hB15 := hB14.trans (hb15.mono hB14.size)
    replace I1 := Lib.hid (I1.out.below hb15 (Nat.le_refl _))
    replace J1 := Lib.hid (J1.out.below hb15 (Nat.le_refl _))
    go_wp2_with fail
    refine (istable_any a1 bs.length c1 bs w15 J1.out (by omega)).mono ?_
    rintro e w16 ⟨rfl, hb16⟩
    have hB16 := hB15.trans (hb16.mono hB15.size)
    replace I1 := Lib.hid (I1.out.below hb16 (Nat.le_refl _))
    replace J1 := Lib.hid (J1.out.below hb16 (Nat.le_refl _))
    go_wp2_with fail
    refine (risTable_any a1 bs.length c1 bs w16 J1.out (by omega)).mono ?_
    rintro e w17 ⟨rfl, hb17⟩
    have hB17 := hB16.trans (hb17.mono hB16.size)
    replace I1 := Lib.hid (I1.out.below hb17 (Nat.le_refl _))
    replace J1 := Lib.hid (J1.out.below hb17 (Nat.le_refl _))
    clear I1 J1
    go_wp2_with fail
    refine (known_any w17).mono ?_
    rintro e w18 ⟨rfl, hb18⟩
    have hB18 := hB17.trans (hb18.mono hB17.size)
    go_wp2_with fail
    go_ret
    exact ⟨rfl, hB18⟩

end Go.Proofs.Ytdhhhmehkldliaa
