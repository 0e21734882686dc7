/-
  The law ZoneRises: walk.
-/
import Derived.Test.YtfknoclmpdnkdaaZCover
set_option linter.unusedVariables false
namespace Go.Proofs.Ytfknoclmpdnkdaa
open Go.RowKit Wh

theorem rises_walk (n : Int) (_ : -9223372036854775808 ≤ n) (_ : n ≤ 9223372036854775807) (m : Int) (_ : -9223372036854775808 ≤ m) (_ : m ≤ 9223372036854775807)
    (y : Int) (_ : 0 ≤ y) (_ : y ≤ 65535) (w : World) :
    Calls Try.prog 6 #[.int .i64 n, .int .i64 m, .int .u16 y] w fun e w' => e = .returned (.bool true) ∧ Below w.heap.size w w' := by
  have hc3 : cntD (n % 65536) ≤ 3 := by unfold cntD; omega
  have c0 := fun W => draw_any n W
  have cm := fun W => moment_any m W
  have hmb := momentZ_bounds m
  have hz := draw_ok (n % 65536)
  generalize drawL (n % 65536) (cntD (n % 65536)) = l2 at *
  generalize drawO (n % 65536) = o2 at *
  generalize cntD (n % 65536) = k2 at *
  generalize momentZ m = t at *
  obtain ⟨t0, t1⟩ := hmb
  obtain ⟨u, hu, hut, hu1, huy⟩ : ∃ u, (t + y ≤ 575999999 ∧ u = t + y ∨ 575999999 < t + y ∧ u = 575999999) ∧ t ≤ u ∧ u ≤ 575999999 ∧ u ≤ t + y := by
    by_cases h : t + y ≤ 575999999
    · exact ⟨t + y, .inl ⟨h, rfl⟩, by omega, h, by omega⟩
    · exact ⟨575999999, .inr ⟨by omega, rfl⟩, by omega, by omega, by omega⟩
  have c1 := fun W a2 cap2 hsW => day_any ⟨#[122]⟩ o2 a2 k2 cap2 l2 t W hsW (by omega)
  have c2 := fun W a2 cap2 hsW => day_any ⟨#[122]⟩ o2 a2 k2 cap2 l2 u W hsW (by omega)
  have c3 := fun W a2 cap2 hsW => offset_any ⟨#[122]⟩ o2 a2 k2 cap2 l2 u W hsW (by omega)
  have r1 : dayR o2 l2 t = dayZn o2 l2 t := by unfold dayR; rw [if_pos (chk_ok hz (by omega) (by omega))]
  have r2 : dayR o2 l2 u = dayZn o2 l2 u := by unfold dayR; rw [if_pos (chk_ok hz (by omega) (by omega))]
  have r3 : offR o2 l2 u = offZ o2 l2 u := by unfold offR; rw [if_pos (chk_ok hz (by omega) (by omega))]
  rw [r1, chk_ok hz (by omega) (by omega)] at c1
  rw [r2, chk_ok hz (by omega) (by omega)] at c2
  rw [r3, chk_ok hz (by omega) (by omega)] at c3
  have a0 := dayZn_low o2 l2 t
  have ab := dayZn_mono o2 l2 (fun s hs => (hz.at_ s hs).1) t0 hut
  have bh := hz.high (t := u) (by omega)
  have al : (t + offZ o2 l2 t) / 1440 ≤ dayZn o2 l2 t := dayZn_loc o2 l2 t
  have bl : (u + offZ o2 l2 u) / 1440 ≤ dayZn o2 l2 u := dayZn_loc o2 l2 u
  have o0 := (offZ_bd l2 o2 t (fun s hs => (hz.at_ s hs).2.2) hz.o0 hz.o1).1
  have o1 := offZ_bd l2 o2 u (fun s hs => (hz.at_ s hs).2.2) hz.o0 hz.o1
  generalize dayZn o2 l2 t = A at *
  generalize dayZn o2 l2 u = B at *
  generalize offZ o2 l2 t = p at *
  generalize offZ o2 l2 u = q at *
  obtain ⟨q0, q1⟩ := o1
  have f1 : u + q ≤ B * 1440 + 1439 := by omega
  have f2 : B ≤ A + y / 1440 + 3 := by omega
  have f3 : B ≤ 400000 := by omega
  have f4 : y.tdiv 1440 = y / 1440 := by rw [Int.tdiv_eq_ediv, if_pos (.inl (by assumption))]; omega
  clear al bl bh o0 hz r1 r2 r3 huy
  have C0 := Lib.hid c0
  have CM := Lib.hid cm
  have C1 := Lib.hid c1
  have C2 := Lib.hid c2
  have C3 := Lib.hid c3
  clear c0 cm c1 c2 c3
  have HU := Lib.hid hu
  clear hu
  go_enter Try.func6, Try.ntmps6
  go_wp2_with fail
  refine (C0.out _).mono ?_
  rintro e w1 ⟨a, cap, rfl, hs1, hb1⟩
  have HS1 := Lib.hid hs1
  clear hs1
  go_wp2_with fail
  refine (CM.out _).mono ?_
  rintro e w2 ⟨rfl, hb2⟩
  have HS := Lib.hid (HS1.out.below hb2 (Nat.le_refl _))
  have hB2 := hb1.trans (hb2.mono hb1.size)
  have hB2s := hB2.size
  clear HS1 hb1 hb2
  rcases HU.out with ⟨h1, rfl⟩ | ⟨h1, rfl⟩
  all_goals
    go_wp2_with fail
    refine (C1.out _ _ _ (HS.out.below ((Below.refl _ _).alloc (Nat.le_refl _) _) (Nat.le_refl _))).mono ?_
    rintro e w3 ⟨rfl, hb3⟩
    rw [World.size_alloc] at hb3
    obtain ⟨z0, z1, z2, hsz, hbw⟩ := box_cells hb3
    have HB := Lib.hid hb3
    clear hb3
    go_wp2_with fail
    refine (C2.out _ _ _ (HS.out.below hbw (Nat.le_refl _))).mono ?_
    rintro e w4 ⟨rfl, hb4⟩
    have hB4 := HB.out.trans (hb4.mono hsz)
    clear z0 z1 z2 hsz hbw hb4 HB
    obtain ⟨z0, z1, z2, hsz, hbw⟩ := box_cells hB4
    go_wp2_with fail
    refine (C3.out _ _ _ (HS.out.below hbw (Nat.le_refl _))).mono ?_
    rintro e w5 ⟨rfl, hb5⟩
    have hB5 := hB2.trans ((hbw.trans (hb5.mono (by omega))).mono hB2s)
    clear z0 z1 z2 hsz hbw hb5 hB4
    go_wp2_with fail
    refine (known_any _).mono ?_
    rintro e w6 ⟨rfl, hb6⟩
    go_wp2_with fail
    go_ret
    exact ⟨rfl, hB5.trans (hb6.mono hB5.size)⟩

end Go.Proofs.Ytfknoclmpdnkdaa
