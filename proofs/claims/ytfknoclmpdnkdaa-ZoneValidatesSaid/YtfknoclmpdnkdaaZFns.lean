/-
  The exported functions of zone and of its reference: Offset, Day, Start, Span.
-/
import Derived.Test.YtfknoclmpdnkdaaZStart
set_option linter.unusedVariables false
namespace Wh

/-- The error of a zone and a number that is to be from 0 to most. -/
def chkE (o : Int) (l : List (Int × Int)) (n most : Int) : Int := if zoneE o l = 0 then (if n < 0 ∨ most < n then 1 else 0) else zoneE o l

theorem chkE_ok {o : Int} {l : List (Int × Int)} {n most : Int} (h : chkE o l n most = 0) : OkZ o l ∧ 0 ≤ n ∧ n ≤ most := by
  unfold chkE at h
  split at h
  · rename_i h0
    split at h
    · exact absurd h (by decide)
    · exact ⟨okZ_of h0, by omega, by omega⟩
  · exact absurd h ‹_›

def offR (o : Int) (l : List (Int × Int)) (t : Int) : Int := if chkE o l t 575999999 = 0 then offZ o l t else 0
def dayR (o : Int) (l : List (Int × Int)) (t : Int) : Int := if chkE o l t 575999999 = 0 then dayZn o l t else 0
def StartR (o : Int) (l : List (Int × Int)) (d : Int) (s : Nat) : Prop := (chkE o l d 400001 = 0 → StartZ o l d s) ∧ (chkE o l d 400001 ≠ 0 → s = 0)
def SpanR (o : Int) (l : List (Int × Int)) (d : Int) (s u : Nat) : Prop := (chkE o l d 400000 = 0 → StartZ o l d s ∧ StartZ o l (d + 1) u) ∧ (chkE o l d 400000 ≠ 0 → s = 0 ∧ u = 0)

theorem startR_is (o : Int) (l : List (Int × Int)) (d : Int) : ∃ s, StartR o l d s := by
  by_cases h : chkE o l d 400001 = 0
  · obtain ⟨s, hs⟩ := startZ_is o l d
    exact ⟨s, fun _ => hs, fun h' => absurd h h'⟩
  · exact ⟨0, fun h' => absurd h' h, fun _ => rfl⟩

theorem spanR_is (o : Int) (l : List (Int × Int)) (d : Int) : ∃ s u, SpanR o l d s u := by
  by_cases h : chkE o l d 400000 = 0
  · obtain ⟨s, hs⟩ := startZ_is o l d
    obtain ⟨u, hu⟩ := startZ_is o l (d + 1)
    exact ⟨s, u, fun _ => ⟨hs, hu⟩, fun h' => absurd h h'⟩
  · exact ⟨0, 0, fun h' => absurd h' h, fun _ => ⟨rfl, rfl⟩⟩

end Wh
namespace Go.Proofs.Ytfknoclmpdnkdaa
open Go.RowKit Wh

theorem ret_two {k m : IntKind} {a b c d : Int} (h : a = b) (g : c = d) : Ending.returned (.tuple #[.int k a, .int m c]) = .returned (.tuple #[.int k b, .int m d]) := by rw [h, g]
theorem ret_three {k m n : IntKind} {a b c d x y : Int} (h : a = b) (g : c = d) (i : x = y) : Ending.returned (.tuple #[.int k a, .int m c, .int n x]) = .returned (.tuple #[.int k b, .int m d, .int n y]) := by rw [h, g, i]

theorem check_any (nm : ByteArray) (o : Int) (a : Option Addr) (len cap : Nat) (l : List (Int × Int)) (n most : Int) (w : World) (hs : IsShifts w a len l) (hl : len ≤ 9223372036854775807) :
    Calls Try.prog 25 #[zoneV nm o a len cap, .int .i64 n, .int .i64 most] w fun e w' => e = .returned (.int .i64 (chkE o l n most)) ∧ Below w.heap.size w w' := by
  have hB0 : ∀ o, Below w.heap.size w (w.alloc o) := fun o => (Below.refl _ _).alloc (Nat.le_refl _) o
  have c1 := fun o' => validate_any nm o a len cap l (w.alloc o') (hs.below (hB0 o') (Nat.le_refl _)) hl
  have he : chkE o l n most = if zoneE o l = 0 then (if n < 0 ∨ most < n then 1 else 0) else zoneE o l := rfl
  generalize chkE o l n most = E at *
  generalize zoneE o l = z at *
  have C1 := Lib.hid c1
  clear c1 hs
  by_cases hz : z = 0
  · subst hz
    rw [if_pos rfl] at he
    by_cases h1 : n < 0
    · rw [if_pos (.inl h1)] at he
      subst he
      go_enter Try.func25, Try.ntmps25
      go_wp2_with (go_at_call 12; refine (C1.out _).mono ?_; rintro e w' ⟨rfl, hb⟩)
      go_ret
      exact ⟨rfl, (hB0 _).trans (hb.mono (by simp))⟩
    · by_cases h2 : most < n
      · rw [if_pos (.inr h2)] at he
        subst he
        go_enter Try.func25, Try.ntmps25
        go_wp2_with (go_at_call 12; refine (C1.out _).mono ?_; rintro e w' ⟨rfl, hb⟩)
        go_ret
        exact ⟨rfl, (hB0 _).trans (hb.mono (by simp))⟩
      · rw [if_neg (by omega)] at he
        subst he
        go_enter Try.func25, Try.ntmps25
        go_wp2_with (go_at_call 12; refine (C1.out _).mono ?_; rintro e w' ⟨rfl, hb⟩)
        go_ret
        exact ⟨rfl, (hB0 _).trans (hb.mono (by simp))⟩
  · rw [if_neg hz] at he
    subst he
    go_enter Try.func25, Try.ntmps25
    go_wp2_with (go_at_call 12; refine (C1.out _).mono ?_; rintro e w' ⟨rfl, hb⟩)
    go_ret
    exact ⟨rfl, (hB0 _).trans (hb.mono (by simp))⟩

theorem rcheck_any (nm : ByteArray) (o : Int) (a : Option Addr) (len cap : Nat) (l : List (Int × Int)) (n : Int) (w : World) (hs : IsShifts w a len l) (hl : len ≤ 9223372036854775807) :
    Calls Try.prog 27 #[zoneV nm o a len cap, .int .i64 n] w fun e w' => e = .returned (.int .i64 (chkE o l n 575999999)) ∧ Below w.heap.size w w' := by
  have hB0 : ∀ o, Below w.heap.size w (w.alloc o) := fun o => (Below.refl _ _).alloc (Nat.le_refl _) o
  have c1 := fun o' => rvalidate_any nm o a len cap l (w.alloc o') (hs.below (hB0 o') (Nat.le_refl _)) hl
  have he : chkE o l n 575999999 = if zoneE o l = 0 then (if n < 0 ∨ 575999999 < n then 1 else 0) else zoneE o l := rfl
  generalize chkE o l n 575999999 = E at *
  generalize zoneE o l = z at *
  have C1 := Lib.hid c1
  clear c1 hs
  by_cases hz : z = 0
  · subst hz
    rw [if_pos rfl] at he
    by_cases h1 : n < 0
    · rw [if_pos (.inl h1)] at he
      subst he
      go_enter Try.func27, Try.ntmps27
      go_wp2_with (go_at_call 13; refine (C1.out _).mono ?_; rintro e w' ⟨rfl, hb⟩)
      go_ret
      exact ⟨rfl, (hB0 _).trans (hb.mono (by simp))⟩
    · by_cases h2 : 575999999 < n
      · rw [if_pos (.inr h2)] at he
        subst he
        go_enter Try.func27, Try.ntmps27
        go_wp2_with (go_at_call 13; refine (C1.out _).mono ?_; rintro e w' ⟨rfl, hb⟩)
        go_ret
        exact ⟨rfl, (hB0 _).trans (hb.mono (by simp))⟩
      · rw [if_neg (by omega)] at he
        subst he
        go_enter Try.func27, Try.ntmps27
        go_wp2_with (go_at_call 13; refine (C1.out _).mono ?_; rintro e w' ⟨rfl, hb⟩)
        go_ret
        exact ⟨rfl, (hB0 _).trans (hb.mono (by simp))⟩
  · rw [if_neg hz] at he
    subst he
    go_enter Try.func27, Try.ntmps27
    go_wp2_with (go_at_call 13; refine (C1.out _).mono ?_; rintro e w' ⟨rfl, hb⟩)
    go_ret
    exact ⟨rfl, (hB0 _).trans (hb.mono (by simp))⟩

theorem offset_any (nm : ByteArray) (o : Int) (a : Option Addr) (len cap : Nat) (l : List (Int × Int)) (t : Int) (w : World) (hs : IsShifts w a len l) (hl : len ≤ 4611686018427387903) :
    Calls Try.prog 14 #[zoneV nm o a len cap, .int .i64 t] w fun e w' => e = .returned (.tuple #[.int .i64 (offR o l t), .int .i64 (chkE o l t 575999999)]) ∧ Below w.heap.size w w' := by
  have hB0 : ∀ o, Below w.heap.size w (w.alloc o) := fun o => (Below.refl _ _).alloc (Nat.le_refl _) o
  have c1 := fun o' => check_any nm o a len cap l t 575999999 (w.alloc o') (hs.below (hB0 o') (Nat.le_refl _)) (by omega)
  have c2 := fun W (hb : Below w.heap.size w W) (hz : OkZ o l ∧ 0 ≤ t ∧ t ≤ 575999999) => offsetAt_any nm o a len cap l t W (hs.below hb (Nat.le_refl _)) hl hz.1.up
  have hok := fun h : chkE o l t 575999999 = 0 => chkE_ok h
  have he : offR o l t = if chkE o l t 575999999 = 0 then offZ o l t else 0 := rfl
  generalize offR o l t = R at *
  generalize offZ o l t = q at *
  generalize chkE o l t 575999999 = E at *
  have C1 := Lib.hid c1
  have C2 := Lib.hid c2
  clear c1 c2 hs
  by_cases hz : E = 0
  · subst hz
    rw [if_pos rfl] at he
    subst he
    have HK := Lib.hid (hok rfl)
    clear hok
    go_enter Try.func14, Try.ntmps14
    go_wp2_with (go_at_call 25; refine (C1.out _).mono ?_; rintro e w' ⟨rfl, hb⟩; obtain ⟨z0, z1, z2, hsz, hbw⟩ := box_cells (by simpa using hb); clear hb)
    refine (C2.out _ hbw HK.out).mono ?_
    rintro e w2 ⟨rfl, hb2⟩
    go_wp2_with fail
    go_ret2
    exact ⟨rfl, hbw.trans (hb2.mono (by omega))⟩
  · rw [if_neg hz] at he
    subst he
    clear hok
    go_enter Try.func14, Try.ntmps14
    go_wp2_with (go_at_call 25; refine (C1.out _).mono ?_; rintro e w' ⟨rfl, hb⟩)
    go_ret2
    exact ⟨rfl, (hB0 _).trans (hb.mono (by simp))⟩

theorem roffset2_any (nm : ByteArray) (o : Int) (a : Option Addr) (len cap : Nat) (l : List (Int × Int)) (t : Int) (w : World) (hs : IsShifts w a len l) (hl : len ≤ 4611686018427387903) :
    Calls Try.prog 15 #[zoneV nm o a len cap, .int .i64 t] w fun e w' => e = .returned (.tuple #[.int .i64 (offR o l t), .int .i64 (chkE o l t 575999999)]) ∧ Below w.heap.size w w' := by
  have hB0 : ∀ o, Below w.heap.size w (w.alloc o) := fun o => (Below.refl _ _).alloc (Nat.le_refl _) o
  have c1 := fun o' => rcheck_any nm o a len cap l t (w.alloc o') (hs.below (hB0 o') (Nat.le_refl _)) (by omega)
  have c2 := fun W (hb : Below w.heap.size w W) (hz : OkZ o l ∧ 0 ≤ t ∧ t ≤ 575999999) => roffset_any nm o a len cap l t W (hs.below hb (Nat.le_refl _)) (by omega)
  have hok := fun h : chkE o l t 575999999 = 0 => chkE_ok h
  have he : offR o l t = if chkE o l t 575999999 = 0 then offZ o l t else 0 := rfl
  generalize offR o l t = R at *
  generalize offZ o l t = q at *
  generalize chkE o l t 575999999 = E at *
  have C1 := Lib.hid c1
  have C2 := Lib.hid c2
  clear c1 c2 hs
  by_cases hz : E = 0
  · subst hz
    rw [if_pos rfl] at he
    subst he
    have HK := Lib.hid (hok rfl)
    clear hok
    go_enter Try.func15, Try.ntmps15
    go_wp2_with (go_at_call 27; refine (C1.out _).mono ?_; rintro e w' ⟨rfl, hb⟩; obtain ⟨z0, z1, z2, hsz, hbw⟩ := box_cells (by simpa using hb); clear hb)
    refine (C2.out _ hbw HK.out).mono ?_
    rintro e w2 ⟨rfl, hb2⟩
    go_wp2_with fail
    go_ret2
    exact ⟨rfl, hbw.trans (hb2.mono (by omega))⟩
  · rw [if_neg hz] at he
    subst he
    clear hok
    go_enter Try.func15, Try.ntmps15
    go_wp2_with (go_at_call 27; refine (C1.out _).mono ?_; rintro e w' ⟨rfl, hb⟩)
    go_ret2
    exact ⟨rfl, (hB0 _).trans (hb.mono (by simp))⟩

theorem day_any (nm : ByteArray) (o : Int) (a : Option Addr) (len cap : Nat) (l : List (Int × Int)) (t : Int) (w : World) (hs : IsShifts w a len l) (hl : len ≤ 4611686018427387903) :
    Calls Try.prog 17 #[zoneV nm o a len cap, .int .i64 t] w fun e w' => e = .returned (.tuple #[.int .i64 (dayR o l t), .int .i64 (chkE o l t 575999999)]) ∧ Below w.heap.size w w' := by
  have hB0 : ∀ o, Below w.heap.size w (w.alloc o) := fun o => (Below.refl _ _).alloc (Nat.le_refl _) o
  have c1 := fun o' => check_any nm o a len cap l t 575999999 (w.alloc o') (hs.below (hB0 o') (Nat.le_refl _)) (by omega)
  have c2 := fun W (hb : Below w.heap.size w W) (hz : OkZ o l ∧ 0 ≤ t ∧ t ≤ 575999999) => dayAt_any nm o a len cap l t W (hs.below hb (Nat.le_refl _)) hz.1 hz.2.1 hz.2.2
  have hok := fun h : chkE o l t 575999999 = 0 => chkE_ok h
  have he : dayR o l t = if chkE o l t 575999999 = 0 then dayZn o l t else 0 := rfl
  generalize dayR o l t = R at *
  generalize dayZn o l t = q at *
  generalize chkE o l t 575999999 = E at *
  have C1 := Lib.hid c1
  have C2 := Lib.hid c2
  clear c1 c2 hs
  by_cases hz : E = 0
  · subst hz
    rw [if_pos rfl] at he
    subst he
    have HK := Lib.hid (hok rfl)
    clear hok
    go_enter Try.func17, Try.ntmps17
    go_wp2_with (go_at_call 25; refine (C1.out _).mono ?_; rintro e w' ⟨rfl, hb⟩; obtain ⟨z0, z1, z2, hsz, hbw⟩ := box_cells (by simpa using hb); clear hb)
    refine (C2.out _ hbw HK.out).mono ?_
    rintro e w2 ⟨rfl, hb2⟩
    go_wp2_with fail
    go_ret2
    exact ⟨rfl, hbw.trans (hb2.mono (by omega))⟩
  · rw [if_neg hz] at he
    subst he
    clear hok
    go_enter Try.func17, Try.ntmps17
    go_wp2_with (go_at_call 25; refine (C1.out _).mono ?_; rintro e w' ⟨rfl, hb⟩)
    go_ret2
    exact ⟨rfl, (hB0 _).trans (hb.mono (by simp))⟩

theorem rday2_any (nm : ByteArray) (o : Int) (a : Option Addr) (len cap : Nat) (l : List (Int × Int)) (t : Int) (w : World) (hs : IsShifts w a len l) (hl : len ≤ 4611686018427387903) :
    Calls Try.prog 18 #[zoneV nm o a len cap, .int .i64 t] w fun e w' => e = .returned (.tuple #[.int .i64 (dayR o l t), .int .i64 (chkE o l t 575999999)]) ∧ Below w.heap.size w w' := by
  have hB0 : ∀ o, Below w.heap.size w (w.alloc o) := fun o => (Below.refl _ _).alloc (Nat.le_refl _) o
  have c1 := fun o' => rcheck_any nm o a len cap l t (w.alloc o') (hs.below (hB0 o') (Nat.le_refl _)) (by omega)
  have c2 := fun W (hb : Below w.heap.size w W) (hz : OkZ o l ∧ 0 ≤ t ∧ t ≤ 575999999) => rday_any nm o a len cap l t W (hs.below hb (Nat.le_refl _)) hz.1 hz.2.1 hz.2.2
  have hok := fun h : chkE o l t 575999999 = 0 => chkE_ok h
  have he : dayR o l t = if chkE o l t 575999999 = 0 then dayZn o l t else 0 := rfl
  generalize dayR o l t = R at *
  generalize dayZn o l t = q at *
  generalize chkE o l t 575999999 = E at *
  have C1 := Lib.hid c1
  have C2 := Lib.hid c2
  clear c1 c2 hs
  by_cases hz : E = 0
  · subst hz
    rw [if_pos rfl] at he
    subst he
    have HK := Lib.hid (hok rfl)
    clear hok
    go_enter Try.func18, Try.ntmps18
    go_wp2_with (go_at_call 27; refine (C1.out _).mono ?_; rintro e w' ⟨rfl, hb⟩; obtain ⟨z0, z1, z2, hsz, hbw⟩ := box_cells (by simpa using hb); clear hb)
    refine (C2.out _ hbw HK.out).mono ?_
    rintro e w2 ⟨rfl, hb2⟩
    go_wp2_with fail
    go_ret2
    exact ⟨rfl, hbw.trans (hb2.mono (by omega))⟩
  · rw [if_neg hz] at he
    subst he
    clear hok
    go_enter Try.func18, Try.ntmps18
    go_wp2_with (go_at_call 27; refine (C1.out _).mono ?_; rintro e w' ⟨rfl, hb⟩)
    go_ret2
    exact ⟨rfl, (hB0 _).trans (hb.mono (by simp))⟩

end Go.Proofs.Ytfknoclmpdnkdaa
