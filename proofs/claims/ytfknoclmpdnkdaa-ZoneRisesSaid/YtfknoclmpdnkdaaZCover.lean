/-
  The laws ZoneCovers and ZoneStarts: walks.
-/
import Derived.Test.YtfknoclmpdnkdaaZLaws
set_option linter.unusedVariables false
namespace Wh

theorem chk_ok {o : Int} {l : List (Int × Int)} {n most : Int} (hz : OkZ o l) (h0 : 0 ≤ n) (h1 : n ≤ most) : chkE o l n most = 0 := by
  unfold chkE
  rw [if_pos hz.zero, if_neg (by omega)]

theorem start_first (o : Int) (l : List (Int × Int)) : StartZ o l 0 0 := ⟨Nat.zero_le _, fun t h => absurd h (Nat.not_lt_zero _), fun _ => dayZn_low o l _⟩

theorem OkZ.high {o : Int} {l : List (Int × Int)} (hz : OkZ o l) {t : Int} (ht : 0 ≤ t) : dayZn o l t ≤ (t + 840) / 1440 :=
  dayZn_high (fun s hs => by have := hz.at_ s hs; omega) hz.o0 hz.o1 ht

theorem start_last {o : Int} {l : List (Int × Int)} (hz : OkZ o l) : StartZ o l 400001 576000000 := by
  refine ⟨Nat.le_refl _, fun t h => ?_, fun h => absurd h (Nat.lt_irrefl _)⟩
  have := hz.high (t := t) (by omega)
  omega

theorem StartZ.mono {o : Int} {l : List (Int × Int)} {d d' : Int} {s s' : Nat} (h : StartZ o l d s) (h' : StartZ o l d' s') (hd : d ≤ d') : s ≤ s' := by
  by_cases hc : s' < s
  · have h1 := h.2.1 s' hc
    have h2 := h'.2.2 (by have := h.1; omega)
    omega
  · omega

end Wh
namespace Go.Proofs.Ytfknoclmpdnkdaa
open Go.RowKit Wh

theorem covers_walk (n : Int) (_ : -9223372036854775808 ≤ n) (_ : n ≤ 9223372036854775807) (w : World) :
    Calls Try.prog 9 #[.int .i64 n] w fun e w' => e = .returned (.bool true) ∧ Below w.heap.size w w' := by
  have hc3 : cntD (n % 65536) ≤ 3 := by unfold cntD; omega
  have c0 := fun W => draw_any n W
  have hz := draw_ok (n % 65536)
  have c1 := fun W a2 cap2 hsW => start_any ⟨#[122]⟩ (drawO (n % 65536)) a2 (cntD (n % 65536)) cap2 (drawL (n % 65536) (cntD (n % 65536))) 0 0 W hsW (by omega) ⟨fun _ => start_first _ _, fun _ => rfl⟩
  have c2 := fun W a2 cap2 hsW => start_any ⟨#[122]⟩ (drawO (n % 65536)) a2 (cntD (n % 65536)) cap2 (drawL (n % 65536) (cntD (n % 65536))) 400001 576000000 W hsW (by omega) ⟨fun _ => start_last hz, fun h => absurd (chk_ok hz (by omega) (by omega)) h⟩
  have c3 := fun W a2 cap2 hsW => day_any ⟨#[122]⟩ (drawO (n % 65536)) a2 (cntD (n % 65536)) cap2 (drawL (n % 65536) (cntD (n % 65536))) 575999999 W hsW (by omega)
  rw [chk_ok hz (by omega) (by omega)] at c1 c2 c3
  have hd : dayR (drawO (n % 65536)) (drawL (n % 65536) (cntD (n % 65536))) 575999999 ≤ 400000 := by
    unfold dayR
    rw [if_pos (chk_ok hz (by omega) (by omega))]
    have := hz.high (t := 575999999) (by omega)
    omega
  rw [show ((0 : Nat) : Int) = 0 from rfl] at c1
  rw [show ((576000000 : Nat) : Int) = 576000000 from rfl] at c2
  clear hz
  generalize drawL (n % 65536) (cntD (n % 65536)) = l2 at *
  generalize drawO (n % 65536) = o2 at *
  generalize cntD (n % 65536) = k2 at *
  generalize dayR o2 l2 575999999 = D at *
  have C0 := Lib.hid c0
  have C1 := Lib.hid c1
  have C2 := Lib.hid c2
  have C3 := Lib.hid c3
  clear c0 c1 c2 c3
  go_enter Try.func9, Try.ntmps9
  go_wp2_with fail
  refine (C0.out _).mono ?_
  rintro e w1 ⟨a, cap, rfl, hs1, hb1⟩
  have HS := Lib.hid hs1
  clear hs1
  go_wp2_with fail
  refine (C1.out _ _ _ (HS.out.below ((Below.refl _ _).alloc (Nat.le_refl _) _) (Nat.le_refl _))).mono ?_
  rintro e w2 ⟨rfl, hb2⟩
  rw [World.size_alloc] at hb2
  obtain ⟨z0, z1, z2, hsz, hbw⟩ := box_cells hb2
  have HB := Lib.hid hb2
  clear hb2
  go_wp2_with fail
  refine (C2.out _ _ _ (HS.out.below hbw (Nat.le_refl _))).mono ?_
  rintro e w3 ⟨rfl, hb3⟩
  have hb3' := HB.out.trans (hb3.mono hsz)
  clear z0 z1 z2 hsz hbw hb3 HB
  obtain ⟨z0, z1, z2, hsz, hbw⟩ := box_cells hb3'
  have HB := Lib.hid hb3'
  clear hb3'
  go_wp2_with fail
  refine (C3.out _ _ _ (HS.out.below hbw (Nat.le_refl _))).mono ?_
  rintro e w4 ⟨rfl, hb4⟩
  have hB4 := hbw.trans (hb4.mono (by omega))
  clear z0 z1 z2 hbw hb4 HB
  go_wp2_with fail
  refine (known_any _).mono ?_
  rintro e w5 ⟨rfl, hb5⟩
  go_wp2_with fail
  go_ret
  exact ⟨rfl, (hb1.trans (hB4.mono hb1.size)).trans (hb5.mono (by have := hb1.size; have := hB4.size; omega))⟩

theorem starts_walk (w : World) (nm : ByteArray) (o : Int) (a : Option Addr) (len cap : Nat) (l : List (Int × Int)) (hs : IsShifts w a len l) (hl : len ≤ cap) (hm : cap ≤ maxLen)
    (d : Int) (_ : -9223372036854775808 ≤ d) (_ : d ≤ 9223372036854775807) (n : Int) (_ : -9223372036854775808 ≤ n) (_ : n ≤ 9223372036854775807) (m : Int) (_ : -9223372036854775808 ≤ m) (_ : m ≤ 9223372036854775807) :
    Calls Try.prog 7 #[zoneV nm o a len cap, .int .i64 d, .int .i64 n, .int .i64 m] w fun e w' => e = .returned (.bool true) ∧ Below w.heap.size w w' := by
  have hB0 : ∀ o, Below w.heap.size w (w.alloc o) := fun o => (Below.refl _ _).alloc (Nat.le_refl _) o
  by_cases h200 : 200 < len
  · clear hs hl hm
    go_enter Try.func7, Try.ntmps7
    go_wp2_with (go_at_call 10; refine (known_any _).mono ?_; rintro e w' ⟨rfl, hb⟩)
    go_ret
    exact ⟨rfl, (hB0 _).trans (hb.mono (by simp))⟩
  · obtain ⟨s, hsr⟩ := startR_is o l d
    obtain ⟨p, q, hpr⟩ := spanR_is o l d
    have c1 := fun W hsW => start_any nm o a len cap l d s W hsW (by omega) hsr
    have c2 := fun W hsW => rstart2_any nm o a len cap l d s W hsW (by omega) hsr
    have c3 := fun W hsW => span_any nm o a len cap l d p q W hsW (by omega) hpr
    have c4 := fun W hsW => rspan_any nm o a len cap l d p q W hsW (by omega) hpr
    have hc3 : cntD (n % 65536) ≤ 3 := by unfold cntD; omega
    have hz := draw_ok (n % 65536)
    have c0 := fun W => draw_any n W
    generalize drawL (n % 65536) (cntD (n % 65536)) = l2 at *
    generalize drawO (n % 65536) = o2 at *
    generalize cntD (n % 65536) = k2 at *
    have b7 := and_7
    have hk0 : 0 ≤ m % 8 := by omega
    have hk1 : m % 8 < 8 := by omega
    obtain ⟨s2, hs2⟩ := startZ_is o2 l2 (98 + m % 8)
    obtain ⟨v2, hv2⟩ := startZ_is o2 l2 (98 + m % 8 + 1)
    have hsv : s2 ≤ v2 := hs2.mono hv2 (by omega)
    have c5 := fun W a2 cap2 hsW => start_any ⟨#[122]⟩ o2 a2 k2 cap2 l2 (98 + m % 8) s2 W hsW (by omega) ⟨fun _ => hs2, fun h => absurd (chk_ok hz (by omega) (by omega)) h⟩
    have c6 := fun W a2 cap2 hsW => rstart2_any ⟨#[122]⟩ o2 a2 k2 cap2 l2 (98 + m % 8) s2 W hsW (by omega) ⟨fun _ => hs2, fun h => absurd (chk_ok hz (by omega) (by omega)) h⟩
    have c7 := fun W a2 cap2 hsW => span_any ⟨#[122]⟩ o2 a2 k2 cap2 l2 (98 + m % 8) s2 v2 W hsW (by omega) ⟨fun _ => ⟨hs2, hv2⟩, fun h => absurd (chk_ok hz (by omega) (by omega)) h⟩
    rw [chk_ok hz (by omega) (by omega)] at c5 c6 c7
    generalize chkE o l d 400001 = E1 at *
    generalize chkE o l d 400000 = E2 at *
    have HS := Lib.hid hs
    have C0 := Lib.hid c0
    have C1 := Lib.hid c1
    have C2 := Lib.hid c2
    have C3 := Lib.hid c3
    have C4 := Lib.hid c4
    have C5 := Lib.hid c5
    have C6 := Lib.hid c6
    have C7 := Lib.hid c7
    clear hs c0 c1 c2 c3 c4 c5 c6 c7 hz hs2 hv2 hsr hpr
    have hsvz : (s2 : Int) ≤ (v2 : Int) := by omega
    go_enter Try.func7, Try.ntmps7
    go_wp2_with fail
    refine (C1.out _ (HS.out.below (hB0 _) (Nat.le_refl _))).mono ?_
    rintro e w1 ⟨rfl, hb1⟩
    rw [World.size_alloc] at hb1
    obtain ⟨z0, z1, z2, hsz, hbw⟩ := box_cells hb1
    have HB := Lib.hid hb1
    clear hb1
    go_wp2_with fail
    refine (C2.out _ (HS.out.below hbw (Nat.le_refl _))).mono ?_
    rintro e w2 ⟨rfl, hb2⟩
    have hB2 := HB.out.trans (hb2.mono hsz)
    clear z0 z1 z2 hsz hbw hb2 HB
    obtain ⟨_, _, _, hsz2, _⟩ := box_cells hB2
    have HB := Lib.hid hB2
    go_wp2_with fail
    refine (C0.out _).mono ?_
    rintro e w3 ⟨a3, cap3, rfl, hs3, hb3⟩
    have hB3 := HB.out.trans (hb3.mono hsz2)
    have hsz3 : w.heap.size + 1 ≤ w3.heap.size := by have := hb3.size; omega
    have HS3 := Lib.hid hs3
    have HB3 := Lib.hid hB3
    clear hs3 hB2 HB hb3 hB3
    go_wp2_with fail
    refine (C5.out _ _ _ (HS3.out.below ((Below.refl _ _).alloc (Nat.le_refl _) _) (Nat.le_refl _))).mono ?_
    rintro e w4 ⟨rfl, hb4⟩
    rw [World.size_alloc] at hb4
    obtain ⟨x0, x1, x2, hx4, hbx⟩ := box_cells hb4
    have HX := Lib.hid hb4
    clear hb4
    go_wp2_with fail
    refine (C6.out _ _ _ (HS3.out.below hbx (Nat.le_refl _))).mono ?_
    rintro e w5 ⟨rfl, hb5⟩
    have hX5 := HX.out.trans (hb5.mono hx4)
    clear x0 x1 x2 hx4 hbx hb5 HX
    obtain ⟨_, _, _, hx5, hbx⟩ := box_cells hX5
    have HX := Lib.hid hX5
    have hB5 := HB3.out.trans (hbx.mono hsz3)
    clear hX5
    obtain ⟨z0, z1, z2, hsz, hbw⟩ := box_cells hB5
    have HB := Lib.hid hB5
    have HBX := Lib.hid hbx
    clear hB5 hbx
    go_wp2_with fail
    refine (C3.out _ (HS.out.below hbw (Nat.le_refl _))).mono ?_
    rintro e w6 ⟨rfl, hb6⟩
    have hB6 := HB.out.trans (hb6.mono hsz)
    have hX6 := HX.out.trans (hb6.mono hx5)
    clear z0 z1 z2 hsz hbw hb6 HB HX HBX hx5
    obtain ⟨z0, z1, z2, hsz, hbw⟩ := box_cells hB6
    obtain ⟨_, _, _, hx6, _⟩ := box_cells hX6
    have HB := Lib.hid hB6
    have HX := Lib.hid hX6
    clear hB6 hX6
    go_wp2_with fail
    refine (C4.out _ (HS.out.below hbw (Nat.le_refl _))).mono ?_
    rintro e w7 ⟨rfl, hb7⟩
    have hB7 := hbw.trans (hb7.mono (by omega))
    have hX7 := HX.out.trans (hb7.mono hx6)
    clear z0 z1 z2 hsz hbw hb7 HB HX hx6
    obtain ⟨x0, x1, x2, hx7, hbx⟩ := box_cells hX7
    have HX := Lib.hid hX7
    clear hX7
    go_wp2_with fail
    refine (C7.out _ _ _ (HS3.out.below hbx (Nat.le_refl _))).mono ?_
    rintro e w8 ⟨rfl, hb8⟩
    have hB8 := hB7.trans (hb8.mono hB7.size)
    clear x0 x1 x2 hx7 hbx hb8 HX hB7
    go_wp2_with fail
    refine (known_any _).mono ?_
    rintro e w9 ⟨rfl, hb9⟩
    go_wp2_with fail
    go_ret
    exact ⟨rfl, hB8.trans (hb9.mono hB8.size)⟩

end Go.Proofs.Ytfknoclmpdnkdaa
