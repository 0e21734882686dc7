/-
  The law SchemaWidens: walk.
-/
import Derived.Test.YtdlkkajkflebgaaSKnown
import Derived.Test.YtdlkkajkflebgaaSCols
import Derived.Test.YtdlkkajkflebgaaSSame
import Derived.Test.YtdlkkajkflebgaaSRWiden
set_option linter.unusedVariables false
namespace Wh

theorem samL_wid (xs ys : List C) : allL samC xs (widL xs ys) = true :=
  allL_yes (widL_length xs ys).symm fun k c d h1 h2 => by
    by_cases hk : k < ys.length
    · obtain ⟨e, he⟩ : ∃ e, ys[k]? = some e := ⟨_, List.getElem?_eq_getElem hk⟩
      rw [widL_both h1 he] at h2
      cases h2
      simp [samC, eqS_refl]
    · rw [widL_one (by omega), h1] at h2
      cases h2
      exact samC_refl c
theorem wid_null {xs ys : List C} {k : Nat} {c d : C} (h1 : xs[k]? = some c) (h2 : (widL xs ys)[k]? = some d) (hc : c.nu = true) : d.nu = true := by
  by_cases hk : k < ys.length
  · obtain ⟨e, he⟩ : ∃ e, ys[k]? = some e := ⟨_, List.getElem?_eq_getElem hk⟩
    rw [widL_both h1 he] at h2
    cases h2
    simp [hc]
  · rw [widL_one (by omega), h1] at h2
    cases h2
    exact hc

end Wh
namespace Go.Proofs.Ytdlkkajkflebgaa
open Go.RowKit Wh

theorem own_none {w : World} {base sz n m cap : Nat} {T : TypeId} {a : Option Addr} {xs : List Value} (h : w.ownsRow base T sz (.slice a n cap) m xs) (ha : a = none) : cap = 0 := by
  subst ha
  rcases h.2 with ⟨he, _⟩ | ⟨g, c, cur, he, _⟩
  · cases he; rfl
  · cases he

set_option maxHeartbeats 4000000 in
theorem widens_walk (w : World) (a : Option Addr) (len cap : Nat) (as_ : List C) (hc : IsCols w a len as_) (hl : len ≤ cap) (hm : cap ≤ maxLen) (hn0 : a = none → cap = 0)
    (a1 : Option Addr) (len1 cap1 : Nat) (bs : List C) (hd : IsCols w a1 len1 bs) (hl1 : len1 ≤ cap1) (hm1 : cap1 ≤ maxLen) (hn1 : a1 = none → cap1 = 0)
    (a2 : Option Addr) (len2 cap2 : Nat) (zs : List Int) (hz : IsInts w a2 len2 zs) (hl2 : len2 ≤ cap2) (hm2 : cap2 ≤ maxLen) (_ : ∀ z ∈ zs, -9223372036854775808 ≤ z ∧ z ≤ 9223372036854775807)
    (a3 : Option Addr) (len3 cap3 : Nat) (ms : List Int) (hy : IsInts w a3 len3 ms) (hl3 : len3 ≤ cap3) (hm3 : cap3 ≤ maxLen) (_ : ∀ z ∈ ms, -9223372036854775808 ≤ z ∧ z ≤ 9223372036854775807)
    (n : Int) (n0 : -9223372036854775808 ≤ n) (n1 : n ≤ 9223372036854775807) :
    Calls Try.prog 9 #[.slice a len cap, .slice a1 len1 cap1, .slice a2 len2 cap2, .slice a3 len3 cap3, .int .i64 n] w fun e w' => e = .returned (.bool true) ∧ Below w.heap.size w w' := by
  have hmm : maxLen = 9223372036854775807 := rfl
  by_cases h50 : 50 < len
  · clear hc hl hm hz hl2 hm2 hd hl1 hm1 hn0 hn1 hy hl3 hm3
    go_enter Try.func9, Try.ntmps9
    go_wp2_with (go_at_call 10; refine (known_any _).mono ?_; rintro e w' ⟨rfl, hb⟩)
    go_ret
    exact ⟨rfl, hb⟩
  by_cases h51 : 50 < len1
  · clear hc hl hm hz hl2 hm2 hd hl1 hm1 hn0 hn1 hy hl3 hm3
    go_enter Try.func9, Try.ntmps9
    go_wp2_with (go_at_call 10; refine (known_any _).mono ?_; rintro e w' ⟨rfl, hb⟩)
    go_ret
    exact ⟨rfl, hb⟩
  have b3 := and_3
  obtain ⟨N, hN, hN3⟩ : ∃ N : Nat, n % 4 = N ∧ N ≤ 3 := ⟨(n % 4).toNat, by omega, by omega⟩
  obtain ⟨M, hM, hM3⟩ : ∃ M : Nat, n / 4 % 4 = M ∧ M ≤ 3 := ⟨(n / 4 % 4).toNat, by omega, by omega⟩
  have cx := columns_any a2 len2 cap2 zs N (by omega) w hz (by omega)
  have cy := fun W (h : Below w.heap.size w W) => columns_any a3 len3 cap3 ms M (by omega) W (hy.below h (Nat.le_refl _)) (by omega)
  have C1 := Lib.hid (fun W (h : Below w.heap.size w W) => same_any5 a len cap as_ a1 len1 cap1 bs W (hc.below h (Nat.le_refl _)) (hd.below h (Nat.le_refl _)) (by omega) (by omega))
  have C2 := Lib.hid (fun W (h : Below w.heap.size w W) => rsame_any5 a len cap as_ a1 len1 cap1 bs W (hc.below h (Nat.le_refl _)) (hd.below h (Nat.le_refl _)) (by omega) (by omega))
  have C3 := Lib.hid (fun W (h : Below w.heap.size w W) => same_any5 a len cap as_ a len cap as_ W (hc.below h (Nat.le_refl _)) (hc.below h (Nat.le_refl _)) (by omega) (by omega))
  have C4 := Lib.hid (fun W (h : Below w.heap.size w W) => widen_any a len cap as_ a1 len1 cap1 bs W (hc.below h (Nat.le_refl _)) (hd.below h (Nat.le_refl _)) (by omega) (by omega))
  have C5 := Lib.hid (fun W (h : Below w.heap.size w W) => rwiden_any a len cap as_ a1 len1 cap1 bs W (hc.below h (Nat.le_refl _)) (hd.below h (Nat.le_refl _)) (by omega) (by omega) hn0)
  rw [allL_refl as_ samC_refl] at C3
  have hlx := colL_length zs N
  have hly := colL_length ms M
  have hlw := (widL_length as_ bs).trans hc.1
  generalize allL samC as_ bs = r1 at *
  generalize colL zs N = xs at *
  generalize colL ms M = ys at *
  generalize widL as_ bs = wab at *
  have CX := Lib.hid cx
  have CY := Lib.hid cy
  have HLX := Lib.hid hlx
  have HLY := Lib.hid hly
  have HLW := Lib.hid hlw
  clear cx cy hc hd hz hy hlx hly hlw hn0 hn1
  go_enter Try.func9, Try.ntmps9
  go_wp2_with fail
  refine CX.out.mono ?_
  rintro e w1 ⟨sv, rfl, hown, hb1⟩
  rw [HLX.out] at hown
  obtain ⟨a4, cap4, rfl, hx, hx1, hx2, _⟩ := own_cols hown HLX.out
  have hxn := own_none hown
  have hs1 := hb1.size
  have HX := Lib.hid hx
  clear hown CX hx
  go_wp2_with fail
  refine (CY.out _ hb1).mono ?_
  rintro e w2 ⟨sv, rfl, hown, h2⟩
  rw [HLY.out] at hown
  obtain ⟨a5, cap5, rfl, hy, hy1, hy2, _⟩ := own_cols hown HLY.out
  have hs2 := h2.size
  have HY := Lib.hid hy
  have hb2 := hb1.trans (h2.mono hs1)
  have XW := Lib.hid (fun W (h : Below w2.heap.size w2 W) => HX.out.below (h2.trans (h.mono hs2)) (Nat.le_refl _))
  have c6 := widen_any a4 N cap4 xs a5 M cap5 ys w2 (XW.out _ (Below.refl _ _)) hy (by omega) (by omega)
  have HWL := Lib.hid ((widL_length xs ys).trans HLX.out)
  have SW := Lib.hid (samL_wid xs ys)
  have NW := Lib.hid (fun (k : Nat) (c d : C) h1 h2 hc => wid_null (xs := xs) (ys := ys) (k := k) (c := c) (d := d) h1 h2 hc)
  have C7 := Lib.hid (fun W (h : Below w2.heap.size w2 W) => same_any5 a4 N cap4 xs a5 M cap5 ys W (XW.out _ h) (HY.out.below h (Nat.le_refl _)) (by omega) (by omega))
  have C8 := Lib.hid (fun W (h : Below w2.heap.size w2 W) => rsame_any5 a4 N cap4 xs a5 M cap5 ys W (XW.out _ h) (HY.out.below h (Nat.le_refl _)) (by omega) (by omega))
  have C9 := Lib.hid (fun W (h : Below w2.heap.size w2 W) => rwiden_any a4 N cap4 xs a5 M cap5 ys W (XW.out _ h) (HY.out.below h (Nat.le_refl _)) (by omega) (by omega) hxn)
  generalize allL samC xs ys = r2 at *
  generalize widL xs ys = wxy at *
  have C6 := Lib.hid c6
  clear hown CY hy c6 hxn
  go_wp2_with fail
  refine C6.out.mono ?_
  rintro e w3 ⟨sv, rfl, hown, h3⟩
  rw [HWL.out] at hown
  obtain ⟨a6, cap6, rfl, hw, hw1, hw2, _⟩ := own_cols hown HWL.out
  have hs3 := h3.size
  have hb3 := hb2.trans (h3.mono hb2.size)
  have HW := Lib.hid hw
  have c10 := same_any5 a4 N cap4 xs a6 N cap6 wxy w3 (XW.out _ h3) hw (by omega) (by omega)
  rw [SW.out] at c10
  have C10 := Lib.hid c10
  clear hown hw c10 C6
  go_wp2_with fail
  refine C10.out.mono ?_
  rintro e w4 ⟨rfl, h4⟩
  have hs4 := h4.size
  have p4 := h3.trans (h4.mono hs3)
  clear C10
  go_wp2_with fail
  go_loopw [14] (fun iv wr => ∃ k : Nat, k ≤ N ∧ iv = .int .i64 k ∧ wr = w4) (fun i _ => N - (intOf i).toNat)
  case atStart => exact ⟨0, Nat.zero_le _, rfl, rfl⟩
  case round =>
    obtain ⟨k, hk, rfl, rfl⟩ := hrel
    by_cases hlt : k < N
    · obtain ⟨nm, kd, nu, b1, off1, hx, rfl, hbl1, c0, c1, c2⟩ := (XW.out _ p4).at hlt
      obtain ⟨nm2, kd2, nu2, b2, off2, hx2', rfl, hbl2, d0, d1, d2⟩ := (HW.out.below h4 (Nat.le_refl _)).at hlt
      have hnu := NW.out k _ _ hx hx2'
      simp only at hnu
      clear hx hx2'
      cases nu with
      | false =>
        go_wp2_with fail
        go_roundw
        case rel => exact ⟨k + 1, by omega, by go_num, trivial⟩
        case measure => simp [intOf]; omega
      | true =>
        obtain rfl := hnu rfl
        clear hnu
        go_wp2_with fail
        go_roundw
        case rel => exact ⟨k + 1, by omega, by go_num, trivial⟩
        case measure => simp [intOf]; omega
    · obtain rfl : k = N := by omega
      have q4 := hb2.trans (p4.mono hb2.size)
      have e1 := eqC_refl
      have EW := Lib.hid (fun W (h : Below w3.heap.size w3 W) => HW.out.below h (Nat.le_refl _))
      clear NW SW HX HW
      -- the two comparisons of widened columns
      have E1 := Lib.hid (fun (a7 a8 : Option Addr) (c7 c8 : Nat) (W : World) (g1 : IsCols W a7 len wab) (g2 : IsCols W a8 len wab) => equal_any a7 len c7 wab a8 len c8 wab W g1 g2 (by omega) (by omega))
      have E2 := Lib.hid (fun (a8 : Option Addr) (c8 : Nat) (W : World) (g1 : IsCols W a6 k wxy) (g2 : IsCols W a8 k wxy) => equal_any a6 k cap6 wxy a8 k c8 wxy W g1 g2 (by omega) (by omega))
      rw [allL_refl wab e1] at E1
      rw [allL_refl wxy e1] at E2
      clear e1
      go_wp2_with (first | (go_at_call_of 35 (Value.slice a1 len1 cap1); refine (C1.out _ q4).mono ?_; rintro e x1 ⟨rfl, h5⟩; have p5 := p4.trans (h5.mono p4.size); have r5 := h4.trans (h5.mono h4.size); have q5 := q4.trans (h5.mono q4.size)) |
        (go_at_call_of 36 (Value.slice a1 len1 cap1); refine (C2.out _ q5).mono ?_; rintro e x2 ⟨rfl, h6⟩; have p6 := p5.trans (h6.mono p5.size); have r6 := r5.trans (h6.mono r5.size); have q6 := q5.trans (h6.mono q5.size)) |
        (go_at_call_of 35 (Value.slice a5 M cap5); refine (C7.out _ p6).mono ?_; rintro e x3 ⟨rfl, h7⟩; have p7 := p6.trans (h7.mono p6.size); have r7 := r6.trans (h7.mono r6.size); have q7 := q6.trans (h7.mono q6.size)) |
        (go_at_call_of 36 (Value.slice a5 M cap5); refine (C8.out _ p7).mono ?_; rintro e x4 ⟨rfl, h8⟩; have p8 := p7.trans (h8.mono p7.size); have r8 := r7.trans (h8.mono r7.size); have q8 := q7.trans (h8.mono q7.size)) |
        (go_at_call_of 35 (Value.slice a len cap); refine (C3.out _ q8).mono ?_; rintro e x5 ⟨rfl, h9⟩; have p9 := p8.trans (h9.mono p8.size); have r9 := r8.trans (h9.mono r8.size); have q9 := q8.trans (h9.mono q8.size)) |
        (go_at_call_of 34 (Value.slice a len cap); refine (C4.out _ q9).mono ?_; rintro e x6 ⟨sv6, rfl, o6, h10⟩; rw [HLW.out] at o6; obtain ⟨a7, cap7, rfl, i7, _, _, _⟩ := own_cols o6 HLW.out; have p10 := p9.trans (h10.mono p9.size); have r10 := r9.trans (h10.mono r9.size); have q10 := q9.trans (h10.mono q9.size)) |
        (go_at_call_of 37 (Value.slice a len cap); refine (C5.out _ q10).mono ?_; rintro e x7 ⟨sv7, rfl, o7, h11⟩; rw [HLW.out] at o7; obtain ⟨a8, cap8, rfl, i8, _, _, _⟩ := own_cols o7 HLW.out; have p11 := p10.trans (h11.mono p10.size); have r11 := r10.trans (h11.mono r10.size); have q11 := q10.trans (h11.mono q10.size); have i7' := i7.below h11 (Nat.le_refl _)) |
        (go_at_call_of 31 (Value.slice a7 len cap7); refine (E1.out _ _ _ _ _ i7' i8).mono ?_; rintro e x8 ⟨rfl, h12⟩; have p12 := p11.trans (h12.mono p11.size); have r12 := r11.trans (h12.mono r11.size); have q12 := q11.trans (h12.mono q11.size)) |
        (go_at_call_of 37 (Value.slice a5 M cap5); refine (C9.out _ p12).mono ?_; rintro e x9 ⟨sv9, rfl, o9, h13⟩; rw [HWL.out] at o9; obtain ⟨a9, cap9, rfl, i9, _, _, _⟩ := own_cols o9 HWL.out; have p13 := p12.trans (h13.mono p12.size); have r13 := r12.trans (h13.mono r12.size); have q13 := q12.trans (h13.mono q12.size)) |
        (go_at_call_of 31 (Value.slice a6 k cap6); refine (E2.out _ _ _ (EW.out _ r13) i9).mono ?_; rintro e x10 ⟨rfl, h14⟩; have q14 := q13.trans (h14.mono q13.size)) |
        (go_at_call 10; refine (known_any _).mono ?_; rintro e x11 ⟨rfl, h15⟩; have q15 := q14.trans (h15.mono q14.size)))
      go_ret
      exact ⟨rfl, q15⟩

end Go.Proofs.Ytdlkkajkflebgaa
