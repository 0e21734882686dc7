/-
  The laws ZoneTiles and ZoneRises: walks.
-/
import Derived.Test.YtfknoclmpdnkdaaZCover
set_option linter.unusedVariables false
namespace Go.Proofs.Ytfknoclmpdnkdaa
open Go.RowKit Wh

set_option maxHeartbeats 1000000 in
/-- k is the day that the law compares. -/
theorem tiles_walk (n : Int) (_ : -9223372036854775808 ≤ n) (_ : n ≤ 9223372036854775807) (m : Int) (_ : -9223372036854775808 ≤ m) (_ : m ≤ 9223372036854775807)
    (other : Int) (_ : -9223372036854775808 ≤ other) (_ : other ≤ 9223372036854775807) (w : World) :
    Calls Try.prog 8 #[.int .i64 n, .int .i64 m, .int .i64 other] w fun e w' => e = .returned (.bool true) ∧ Below w.heap.size w w' := by
  have hc3 : cntD (n % 65536) ≤ 3 := by unfold cntD; omega
  have c0 := fun W => draw_any n W
  have cm := fun W => moment_any m W
  have hmb := momentZ_bounds m
  have hz := draw_ok (n % 65536)
  generalize drawL (n % 65536) (cntD (n % 65536)) = l2 at *
  generalize drawO (n % 65536) = o2 at *
  generalize cntD (n % 65536) = k2 at *
  generalize momentZ m = t at *
  obtain ⟨tn, rfl⟩ : ∃ tn : Nat, t = (tn : Int) := ⟨t.toNat, by omega⟩
  have c1 := fun W a2 cap2 hsW => day_any ⟨#[122]⟩ o2 a2 k2 cap2 l2 tn W hsW (by omega)
  have hdr : dayR o2 l2 tn = dayZn o2 l2 tn := by unfold dayR; rw [if_pos (chk_ok hz (by omega) (by omega))]
  rw [hdr, chk_ok hz (by omega) (by omega)] at c1
  have hd0 := dayZn_low o2 l2 tn
  have hd1 := hz.high (t := tn) (by omega)
  have hiff : ∀ d s, StartZ o2 l2 d s → (d ≤ dayZn o2 l2 tn ↔ s ≤ tn) := fun d s h => h.iff hz (by omega)
  generalize dayZn o2 l2 tn = d at *
  have hd2 : d ≤ 400000 := by omega
  obtain ⟨s, hs⟩ := startZ_is o2 l2 d
  obtain ⟨u, hu⟩ := startZ_is o2 l2 (d + 1)
  have c2 := fun W a2 cap2 hsW => span_any ⟨#[122]⟩ o2 a2 k2 cap2 l2 d s u W hsW (by omega) ⟨fun _ => ⟨hs, hu⟩, fun h => absurd (chk_ok hz (by omega) (by omega)) h⟩
  rw [chk_ok hz (by omega) (by omega)] at c2
  have hst : (s : Int) ≤ tn := by have := (hiff d s hs).1 (Int.le_refl _); omega
  have htu : (tn : Int) < u := by
    have := hiff (d + 1) u hu
    by_cases h : u ≤ tn
    · have := this.2 h; omega
    · omega
  have b7 := and_7
  have hj0 : 0 ≤ other % 8 := by omega
  have hj1 : other % 8 < 8 := by omega
  obtain ⟨j, hj⟩ : ∃ j, d + other % 8 - 3 = j := ⟨_, rfl⟩
  have hjb : -3 ≤ j ∧ j ≤ 400004 := by omega
  obtain ⟨hjb0, hjb1⟩ := hjb
  obtain ⟨k, hk⟩ : ∃ k, k = max 0 (min j 399999) := ⟨_, rfl⟩
  have hk0 : 0 ≤ k := by omega
  have hk1 : k ≤ 399999 := by omega
  obtain ⟨x, hx⟩ := startZ_is o2 l2 k
  obtain ⟨y, hy⟩ := startZ_is o2 l2 (k + 1)
  obtain ⟨v, hv⟩ := startZ_is o2 l2 (k + 1 + 1)
  have hxy : (x : Int) ≤ y := by have := hx.mono hy (by omega); omega
  have c3 := fun W a2 cap2 hsW => span_any ⟨#[122]⟩ o2 a2 k2 cap2 l2 k x y W hsW (by omega) ⟨fun _ => ⟨hx, hy⟩, fun h => absurd (chk_ok hz (by omega) (by omega)) h⟩
  have c4 := fun W a2 cap2 hsW => span_any ⟨#[122]⟩ o2 a2 k2 cap2 l2 (k + 1) y v W hsW (by omega) ⟨fun _ => ⟨hy, hv⟩, fun h => absurd (chk_ok hz (by omega) (by omega)) h⟩
  rw [chk_ok hz (by omega) (by omega)] at c3 c4
  obtain ⟨k1, hke⟩ : ∃ k1, k1 = k + 1 := ⟨_, rfl⟩
  rw [← hke] at c4
  have hfin : (k = d ∧ (x : Int) ≤ tn ∧ (tn : Int) < y) ∨ (k < d ∧ (x : Int) ≤ tn ∧ (y : Int) ≤ tn) ∨ (d < k ∧ (tn : Int) < x) := by
    have h1 := hiff k x hx
    have h2 := hiff (k + 1) y hy
    omega
  have C0 := Lib.hid c0
  have CM := Lib.hid cm
  have C1 := Lib.hid c1
  have C2 := Lib.hid c2
  have C3 := Lib.hid c3
  have C4 := Lib.hid c4
  clear c0 cm c1 c2 c3 c4 hz hiff hs hu hx hy hv hdr hd1
  have hmin : (j ≤ 0 ∧ k = 0 ∧ k1 = 1) ∨ (0 < j ∧ j < 399999 ∧ k = j ∧ k1 = j + 1) ∨ (j = 399999 ∧ k = 399999 ∧ k1 = 400000) ∨ (399999 < j ∧ k = 399999 ∧ k1 = 400000) := by omega
  clear hk hke
  have HF := Lib.hid hfin
  have HMIN := Lib.hid hmin
  clear hfin hmin
  go_enter Try.func8, Try.ntmps8
  go_wp2_with fail
  refine (C0.out _).mono ?_
  rintro e w1 ⟨a, cap, rfl, hs1, hb1⟩
  have HS1 := Lib.hid hs1
  clear hs1
  go_wp2_with fail
  refine (CM.out _).mono ?_
  rintro e w2 ⟨rfl, hb2⟩
  have HS := Lib.hid (HS1.out.below hb2 (Nat.le_refl _))
  have hB2 := hb1.trans (hb2.mono hb1.size)
  clear HS1 hb1 hb2
  go_wp2_with fail
  refine (C1.out _ _ _ (HS.out.below ((Below.refl _ _).alloc (Nat.le_refl _) _) (Nat.le_refl _))).mono ?_
  rintro e w3 ⟨rfl, hb3⟩
  rw [World.size_alloc] at hb3
  obtain ⟨z0, z1, z2, hsz, hbw⟩ := box_cells hb3
  have HB := Lib.hid hb3
  clear hb3
  go_wp2_with fail
  refine (C2.out _ _ _ (HS.out.below hbw (Nat.le_refl _))).mono ?_
  rintro e w4 ⟨rfl, hb4⟩
  have hB4 := HB.out.trans (hb4.mono hsz)
  clear z0 z1 z2 hsz hbw hb4 HB
  obtain ⟨z0, z1, z2, hsz, hbw⟩ := box_cells hB4
  have HB := Lib.hid hB4
  clear hB4
  have hB2s := hB2.size
  have hfin : ((k == d) = true ∧ (x : Int) ≤ tn ∧ (tn : Int) < y) ∨ ((k == d) = false ∧ (x : Int) ≤ tn ∧ (y : Int) ≤ tn) ∨ ((k == d) = false ∧ (tn : Int) < x) := by
    rcases HF.out with ⟨h1, h2⟩ | ⟨h1, h2⟩ | ⟨h1, h2⟩
    · exact .inl ⟨by simpa using h1, h2⟩
    · exact .inr (.inl ⟨by simp; omega, h2⟩)
    · exact .inr (.inr ⟨by simp; omega, h2⟩)
  have HG := Lib.hid hfin
  clear hfin HF
  rcases HMIN.out with ⟨q0, rfl, rfl⟩ | ⟨q0, q1, rfl, rfl⟩ | ⟨rfl, rfl, rfl⟩ | ⟨q0, rfl, rfl⟩
  all_goals
    go_wp2_with fail
    refine (C3.out _ _ _ (HS.out.below hbw (Nat.le_refl _))).mono ?_
    rintro e w5 ⟨rfl, hb5⟩
    have hB5 := HB.out.trans (hb5.mono hsz)
    clear z0 z1 z2 hsz hbw hb5 HB
    obtain ⟨z0, z1, z2, hsz, hbw⟩ := box_cells hB5
    go_wp2_with fail
    refine (C4.out _ _ _ (HS.out.below hbw (Nat.le_refl _))).mono ?_
    rintro e w6 ⟨rfl, hb6⟩
    have hB6 := hB2.trans ((hbw.trans (hb6.mono (by omega))).mono hB2s)
    clear z0 z1 z2 hsz hbw hb6 hB5
    rcases HG.out with ⟨g0, g1, g2⟩ | ⟨g0, g1, g2⟩ | ⟨g0, g1⟩
    all_goals
      go_wp2_with fail
      refine (known_any _).mono ?_
      rintro e w7 ⟨rfl, hb7⟩
      go_wp2_with fail
      go_ret
      exact ⟨ret_bool (by first | rfl | (simp; omega)), hB6.trans (hb7.mono hB6.size)⟩

end Go.Proofs.Ytfknoclmpdnkdaa
