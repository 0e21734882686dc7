/-
  The laws ZoneOffsets and ZoneDays: walks.
-/
import Derived.Test.YtfknoclmpdnkdaaZBase
import Derived.Test.YtfknoclmpdnkdaaZKnown
set_option linter.unusedVariables false
namespace Go.Proofs.Ytfknoclmpdnkdaa
open Go.RowKit Wh

/-- The number n's zone, as a call finds it. -/
theorem draw_any (n : Int) (w : World) :
    Calls Try.prog 11 #[.int .i64 n] w fun e w' => ∃ a cap, e = .returned (zoneV ⟨#[122]⟩ (drawO (n % 65536)) a (cntD (n % 65536)) cap) ∧
      IsShifts w' a (cntD (n % 65536)) (drawL (n % 65536) (cntD (n % 65536))) ∧ Below w.heap.size w w' := by
  refine (zone_any n w).mono ?_
  rintro e w' ⟨sv, rfl, hown, hb⟩
  obtain ⟨a, cap, rfl, hs, _, _⟩ := own_shifts hown (drawL_length _ _)
  exact ⟨a, cap, rfl, hs, hb⟩

theorem offsets_walk (w : World) (nm : ByteArray) (o : Int) (a : Option Addr) (len cap : Nat) (l : List (Int × Int)) (hs : IsShifts w a len l) (hl : len ≤ cap) (hm : cap ≤ maxLen)
    (t : Int) (_ : -9223372036854775808 ≤ t) (_ : t ≤ 9223372036854775807) (n : Int) (_ : -9223372036854775808 ≤ n) (_ : n ≤ 9223372036854775807) (m : Int) (_ : -9223372036854775808 ≤ m) (_ : m ≤ 9223372036854775807) :
    Calls Try.prog 4 #[zoneV nm o a len cap, .int .i64 t, .int .i64 n, .int .i64 m] w fun e w' => e = .returned (.bool true) ∧ Below w.heap.size w w' := by
  have hB0 : ∀ o, Below w.heap.size w (w.alloc o) := fun o => (Below.refl _ _).alloc (Nat.le_refl _) o
  by_cases h200 : 200 < len
  · clear hs hl hm
    go_enter Try.func4, Try.ntmps4
    go_wp2_with (go_at_call 10; refine (known_any _).mono ?_; rintro e w' ⟨rfl, hb⟩)
    go_ret
    exact ⟨rfl, (hB0 _).trans (hb.mono (by simp))⟩
  · have c1 := fun W hsW => offset_any nm o a len cap l t W hsW (by omega)
    have c2 := fun W hsW => roffset2_any nm o a len cap l t W hsW (by omega)
    have hc3 : cntD (n % 65536) ≤ 3 := by unfold cntD; omega
    have c3 := fun W => draw_any n W
    have c4 := fun W => moment_any m W
    have c5 := fun W a2 cap2 hsW => offset_any ⟨#[122]⟩ (drawO (n % 65536)) a2 (cntD (n % 65536)) cap2 (drawL (n % 65536) (cntD (n % 65536))) (momentZ m) W hsW (by omega)
    have c6 := fun W a2 cap2 hsW => roffset2_any ⟨#[122]⟩ (drawO (n % 65536)) a2 (cntD (n % 65536)) cap2 (drawL (n % 65536) (cntD (n % 65536))) (momentZ m) W hsW (by omega)
    generalize drawL (n % 65536) (cntD (n % 65536)) = l2 at *
    generalize drawO (n % 65536) = o2 at *
    generalize cntD (n % 65536) = k2 at *
    generalize momentZ m = t2 at *
    generalize offR o l t = R1 at *
    generalize chkE o l t 575999999 = E1 at *
    generalize offR o2 l2 t2 = R2 at *
    generalize chkE o2 l2 t2 575999999 = E2 at *
    have HS := Lib.hid hs
    have C1 := Lib.hid c1
    have C2 := Lib.hid c2
    have C3 := Lib.hid c3
    have C4 := Lib.hid c4
    have C5 := Lib.hid c5
    have C6 := Lib.hid c6
    clear hs c1 c2 c3 c4 c5 c6
    go_enter Try.func4, Try.ntmps4
    go_wp2_with fail
    refine (C1.out _ (HS.out.below (hB0 _) (Nat.le_refl _))).mono ?_
    rintro e w1 ⟨rfl, hb1⟩
    rw [World.size_alloc] at hb1
    obtain ⟨z0, z1, z2, hsz, hbw⟩ := box_cells hb1
    clear hb1
    go_wp2_with fail
    refine (C2.out _ (HS.out.below hbw (Nat.le_refl _))).mono ?_
    rintro e w2 ⟨rfl, hb2⟩
    have hB2 := hbw.trans (hb2.mono (by omega))
    clear z0 z1 z2 hsz hbw hb2
    go_wp2_with fail
    refine (C3.out _).mono ?_
    rintro e w3 ⟨a3, cap3, rfl, hs3, hb3⟩
    have hB3 := hB2.trans (hb3.mono hB2.size)
    have HS3 := Lib.hid hs3
    clear hs3
    go_wp2_with fail
    refine (C4.out _).mono ?_
    rintro e w4 ⟨rfl, hb4⟩
    have hB4 := hB3.trans (hb4.mono hB3.size)
    go_wp2_with fail
    refine (C5.out _ _ _ (HS3.out.below hb4 (Nat.le_refl _))).mono ?_
    rintro e w5 ⟨rfl, hb5⟩
    have hB5 := hB4.trans (hb5.mono hB4.size)
    clear hB2 hB3 hB4 hb3 hb4 hb5 HS3
    go_wp2_with fail
    refine (C3.out _).mono ?_
    rintro e w6 ⟨a6, cap6, rfl, hs6, hb6⟩
    have hB6 := hB5.trans (hb6.mono hB5.size)
    have HS6 := Lib.hid hs6
    clear hs6
    go_wp2_with fail
    refine (C4.out _).mono ?_
    rintro e w7 ⟨rfl, hb7⟩
    have hB7 := hB6.trans (hb7.mono hB6.size)
    go_wp2_with fail
    refine (C6.out _ _ _ (HS6.out.below hb7 (Nat.le_refl _))).mono ?_
    rintro e w8 ⟨rfl, hb8⟩
    have hB8 := hB7.trans (hb8.mono hB7.size)
    clear hB5 hB6 hB7 hb6 hb7 hb8 HS6
    go_wp2_with fail
    refine (known_any _).mono ?_
    rintro e w9 ⟨rfl, hb9⟩
    go_wp2_with fail
    go_ret
    exact ⟨rfl, hB8.trans (hb9.mono hB8.size)⟩

theorem days_walk (w : World) (nm : ByteArray) (o : Int) (a : Option Addr) (len cap : Nat) (l : List (Int × Int)) (hs : IsShifts w a len l) (hl : len ≤ cap) (hm : cap ≤ maxLen)
    (t : Int) (_ : -9223372036854775808 ≤ t) (_ : t ≤ 9223372036854775807) (n : Int) (_ : -9223372036854775808 ≤ n) (_ : n ≤ 9223372036854775807) (m : Int) (_ : -9223372036854775808 ≤ m) (_ : m ≤ 9223372036854775807) :
    Calls Try.prog 5 #[zoneV nm o a len cap, .int .i64 t, .int .i64 n, .int .i64 m] w fun e w' => e = .returned (.bool true) ∧ Below w.heap.size w w' := by
  have hB0 : ∀ o, Below w.heap.size w (w.alloc o) := fun o => (Below.refl _ _).alloc (Nat.le_refl _) o
  by_cases h200 : 200 < len
  · clear hs hl hm
    go_enter Try.func5, Try.ntmps5
    go_wp2_with (go_at_call 10; refine (known_any _).mono ?_; rintro e w' ⟨rfl, hb⟩)
    go_ret
    exact ⟨rfl, (hB0 _).trans (hb.mono (by simp))⟩
  · have c1 := fun W hsW => day_any nm o a len cap l t W hsW (by omega)
    have c2 := fun W hsW => rday2_any nm o a len cap l t W hsW (by omega)
    have hc3 : cntD (n % 65536) ≤ 3 := by unfold cntD; omega
    have c3 := fun W => draw_any n W
    have c4 := fun W => moment_any m W
    have c5 := fun W a2 cap2 hsW => day_any ⟨#[122]⟩ (drawO (n % 65536)) a2 (cntD (n % 65536)) cap2 (drawL (n % 65536) (cntD (n % 65536))) (momentZ m) W hsW (by omega)
    have c6 := fun W a2 cap2 hsW => rday2_any ⟨#[122]⟩ (drawO (n % 65536)) a2 (cntD (n % 65536)) cap2 (drawL (n % 65536) (cntD (n % 65536))) (momentZ m) W hsW (by omega)
    generalize drawL (n % 65536) (cntD (n % 65536)) = l2 at *
    generalize drawO (n % 65536) = o2 at *
    generalize cntD (n % 65536) = k2 at *
    generalize momentZ m = t2 at *
    generalize dayR o l t = R1 at *
    generalize chkE o l t 575999999 = E1 at *
    generalize dayR o2 l2 t2 = R2 at *
    generalize chkE o2 l2 t2 575999999 = E2 at *
    have HS := Lib.hid hs
    have C1 := Lib.hid c1
    have C2 := Lib.hid c2
    have C3 := Lib.hid c3
    have C4 := Lib.hid c4
    have C5 := Lib.hid c5
    have C6 := Lib.hid c6
    clear hs c1 c2 c3 c4 c5 c6
    go_enter Try.func5, Try.ntmps5
    go_wp2_with fail
    refine (C1.out _ (HS.out.below (hB0 _) (Nat.le_refl _))).mono ?_
    rintro e w1 ⟨rfl, hb1⟩
    rw [World.size_alloc] at hb1
    obtain ⟨z0, z1, z2, hsz, hbw⟩ := box_cells hb1
    clear hb1
    go_wp2_with fail
    refine (C2.out _ (HS.out.below hbw (Nat.le_refl _))).mono ?_
    rintro e w2 ⟨rfl, hb2⟩
    have hB2 := hbw.trans (hb2.mono (by omega))
    clear z0 z1 z2 hsz hbw hb2
    go_wp2_with fail
    refine (C3.out _).mono ?_
    rintro e w3 ⟨a3, cap3, rfl, hs3, hb3⟩
    have hB3 := hB2.trans (hb3.mono hB2.size)
    have HS3 := Lib.hid hs3
    clear hs3
    go_wp2_with fail
    refine (C4.out _).mono ?_
    rintro e w4 ⟨rfl, hb4⟩
    have hB4 := hB3.trans (hb4.mono hB3.size)
    go_wp2_with fail
    refine (C5.out _ _ _ (HS3.out.below hb4 (Nat.le_refl _))).mono ?_
    rintro e w5 ⟨rfl, hb5⟩
    have hB5 := hB4.trans (hb5.mono hB4.size)
    clear hB2 hB3 hB4 hb3 hb4 hb5 HS3
    go_wp2_with fail
    refine (C3.out _).mono ?_
    rintro e w6 ⟨a6, cap6, rfl, hs6, hb6⟩
    have hB6 := hB5.trans (hb6.mono hB5.size)
    have HS6 := Lib.hid hs6
    clear hs6
    go_wp2_with fail
    refine (C4.out _).mono ?_
    rintro e w7 ⟨rfl, hb7⟩
    have hB7 := hB6.trans (hb7.mono hB6.size)
    go_wp2_with fail
    refine (C6.out _ _ _ (HS6.out.below hb7 (Nat.le_refl _))).mono ?_
    rintro e w8 ⟨rfl, hb8⟩
    have hB8 := hB7.trans (hb8.mono hB7.size)
    clear hB5 hB6 hB7 hb6 hb7 hb8 HS6
    go_wp2_with fail
    refine (known_any _).mono ?_
    rintro e w9 ⟨rfl, hb9⟩
    go_wp2_with fail
    go_ret
    exact ⟨rfl, hB8.trans (hb9.mono hB8.size)⟩

end Go.Proofs.Ytfknoclmpdnkdaa
