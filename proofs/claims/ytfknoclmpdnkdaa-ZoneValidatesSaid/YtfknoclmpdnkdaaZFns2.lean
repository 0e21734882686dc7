/-
  Start and Span, of zone and of its reference.
-/
import Derived.Test.YtfknoclmpdnkdaaZFns
set_option linter.unusedVariables false
namespace Go.Proofs.Ytfknoclmpdnkdaa
open Go.RowKit Wh

/-- The box of a zone, while callees make new memory. -/
theorem keepZone {W0 W w' : World} {B : Nat} {v0 v1 v2 : Value}
    (h : W.cell? ⟨B, 0, none⟩ = some v0 ∧ W.cell? ⟨B, 1, none⟩ = some v1 ∧ W.cell? ⟨B, 2, none⟩ = some v2 ∧ B + 1 ≤ W.heap.size ∧ Below B W0 W) (hb : Below W.heap.size W w') :
    w'.cell? ⟨B, 0, none⟩ = some v0 ∧ w'.cell? ⟨B, 1, none⟩ = some v1 ∧ w'.cell? ⟨B, 2, none⟩ = some v2 ∧ B + 1 ≤ w'.heap.size ∧ Below B W0 w' := by
  obtain ⟨h0, h1, h2, h3, h4⟩ := h
  have hc := (bcell hb).1
  have hs := hb.size
  refine ⟨?_, ?_, ?_, by omega, h4.trans (hb.mono (by omega))⟩ <;> (rw [hc _ _ (by omega)]; assumption)

theorem start_any (nm : ByteArray) (o : Int) (a : Option Addr) (len cap : Nat) (l : List (Int × Int)) (d : Int) (s : Nat) (w : World) (hs : IsShifts w a len l) (hl : len ≤ 4611686018427387903) (hr : StartR o l d s) :
    Calls Try.prog 19 #[zoneV nm o a len cap, .int .i64 d] w fun e w' => e = .returned (.tuple #[.int .i64 s, .int .i64 (chkE o l d 400001)]) ∧ Below w.heap.size w w' := by
  have hB0 : ∀ o, Below w.heap.size w (w.alloc o) := fun o => (Below.refl _ _).alloc (Nat.le_refl _) o
  have c1 := fun o' => check_any nm o a len cap l d 400001 (w.alloc o') (hs.below (hB0 o') (Nat.le_refl _)) (by omega)
  have c2 := fun W (hb : Below w.heap.size w W) (h0 : chkE o l d 400001 = 0) => startOf_any nm o a len cap l d s W (hs.below hb (Nat.le_refl _)) (chkE_ok h0).1 (hr.1 h0)
  have h2 := hr.2
  generalize chkE o l d 400001 = E at *
  have C1 := Lib.hid c1
  clear c1 hs hr
  by_cases hz : E = 0
  · subst hz
    have C2 := Lib.hid (fun W hb => c2 W hb rfl)
    clear h2 c2
    go_enter Try.func19, Try.ntmps19
    go_wp2_with (go_at_call 25; refine (C1.out _).mono ?_; rintro e w' ⟨rfl, hb⟩; obtain ⟨z0, z1, z2, hsz, hbw⟩ := box_cells (by simpa using hb); clear hb)
    refine (C2.out _ hbw).mono ?_
    rintro e w2 ⟨rfl, hb2⟩
    go_wp2_with fail
    go_ret2
    exact ⟨rfl, hbw.trans (hb2.mono (by omega))⟩
  · obtain rfl := h2 hz
    clear c2 h2
    go_enter Try.func19, Try.ntmps19
    go_wp2_with (go_at_call 25; refine (C1.out _).mono ?_; rintro e w' ⟨rfl, hb⟩)
    go_ret2
    exact ⟨rfl, (hB0 _).trans (hb.mono (by simp))⟩

theorem rstart2_any (nm : ByteArray) (o : Int) (a : Option Addr) (len cap : Nat) (l : List (Int × Int)) (d : Int) (s : Nat) (w : World) (hs : IsShifts w a len l) (hl : len ≤ 4611686018427387903) (hr : StartR o l d s) :
    Calls Try.prog 20 #[zoneV nm o a len cap, .int .i64 d] w fun e w' => e = .returned (.tuple #[.int .i64 s, .int .i64 (chkE o l d 400001)]) ∧ Below w.heap.size w w' := by
  have hB0 : ∀ o, Below w.heap.size w (w.alloc o) := fun o => (Below.refl _ _).alloc (Nat.le_refl _) o
  have c1 := fun o' => rvalidate_any nm o a len cap l (w.alloc o') (hs.below (hB0 o') (Nat.le_refl _)) (by omega)
  have c2 := fun W (hb : Below w.heap.size w W) (h0 : chkE o l d 400001 = 0) => rstart_any nm o a len cap l d s W (hs.below hb (Nat.le_refl _)) (chkE_ok h0).1 (hr.1 h0)
  have h2 := hr.2
  have he : chkE o l d 400001 = if zoneE o l = 0 then (if d < 0 ∨ 400001 < d then 1 else 0) else zoneE o l := rfl
  generalize chkE o l d 400001 = E at *
  generalize zoneE o l = z at *
  have C1 := Lib.hid c1
  clear c1 hs hr
  by_cases hz : z = 0
  · subst hz
    rw [if_pos rfl] at he
    by_cases h1 : d < 0 ∨ 400001 < d
    · rw [if_pos h1] at he
      subst he
      obtain rfl := h2 (by decide)
      clear h2 c2
      rcases (show d < 0 ∨ (0 ≤ d ∧ 400001 < d) by omega) with h1 | ⟨h0, h1⟩
      all_goals
        go_enter Try.func20, Try.ntmps20
        go_wp2_with (go_at_call 13; refine (C1.out _).mono ?_; rintro e w' ⟨rfl, hb⟩)
        go_ret2
        exact ⟨rfl, (hB0 _).trans (hb.mono (by simp))⟩
    · rw [if_neg h1] at he
      subst he
      have C2 := Lib.hid (fun W hb => c2 W hb rfl)
      have d0 : 0 ≤ d := by omega
      have d1 : d ≤ 400001 := by omega
      clear h2 c2 h1
      go_enter Try.func20, Try.ntmps20
      go_wp2_with (go_at_call 13; refine (C1.out _).mono ?_; rintro e w' ⟨rfl, hb⟩; obtain ⟨z0, z1, z2, hsz, hbw⟩ := box_cells (by simpa using hb); clear hb)
      refine (C2.out _ hbw).mono ?_
      rintro e w2 ⟨rfl, hb2⟩
      go_wp2_with fail
      go_ret2
      exact ⟨rfl, hbw.trans (hb2.mono (by omega))⟩
  · rw [if_neg hz] at he
    subst he
    obtain rfl := h2 hz
    clear h2 c2
    go_enter Try.func20, Try.ntmps20
    go_wp2_with (go_at_call 13; refine (C1.out _).mono ?_; rintro e w' ⟨rfl, hb⟩)
    go_ret2
    exact ⟨rfl, (hB0 _).trans (hb.mono (by simp))⟩

theorem span_any (nm : ByteArray) (o : Int) (a : Option Addr) (len cap : Nat) (l : List (Int × Int)) (d : Int) (s u : Nat) (w : World) (hs : IsShifts w a len l) (hl : len ≤ 4611686018427387903) (hr : SpanR o l d s u) :
    Calls Try.prog 21 #[zoneV nm o a len cap, .int .i64 d] w fun e w' => e = .returned (.tuple #[.int .i64 s, .int .i64 u, .int .i64 (chkE o l d 400000)]) ∧ Below w.heap.size w w' := by
  have hB0 : ∀ o, Below w.heap.size w (w.alloc o) := fun o => (Below.refl _ _).alloc (Nat.le_refl _) o
  have c1 := fun o' => check_any nm o a len cap l d 400000 (w.alloc o') (hs.below (hB0 o') (Nat.le_refl _)) (by omega)
  have c2 := fun W (hb : Below w.heap.size w W) (h0 : chkE o l d 400000 = 0) => startOf_any nm o a len cap l d s W (hs.below hb (Nat.le_refl _)) (chkE_ok h0).1 (hr.1 h0).1
  have c3 := fun W (hb : Below w.heap.size w W) (h0 : chkE o l d 400000 = 0) => startOf_any nm o a len cap l (d + 1) u W (hs.below hb (Nat.le_refl _)) (chkE_ok h0).1 (hr.1 h0).2
  generalize hd2 : d + 1 = d2 at c3
  have hd := fun (h0 : chkE o l d 400000 = 0) => (chkE_ok h0).2
  have h2 := hr.2
  generalize chkE o l d 400000 = E at *
  have C1 := Lib.hid c1
  clear c1 hs hr
  by_cases hz : E = 0
  · subst hz
    obtain ⟨d0, d1⟩ := hd rfl
    have C2 := Lib.hid (fun W hb => c2 W hb rfl)
    have C3 := Lib.hid (fun W hb => c3 W hb rfl)
    clear h2 c2 c3 hd
    have hw : IntKind.i64.wrap (d + 1) = d2 := by rw [IntKind.wrap_i64]; omega
    clear hd2
    go_enter Try.func21, Try.ntmps21
    go_wp2_with (go_at_call 25; refine (C1.out _).mono ?_; rintro e wr ⟨rfl, hb⟩; obtain ⟨z0, z1, z2, hsz, hbw⟩ := box_cells (by simpa using hb); clear hb)
    have hS0 : wr.drew.cell? ⟨w.heap.size, 0, none⟩ = some (.string nm) ∧ wr.drew.cell? ⟨w.heap.size, 1, none⟩ = some (.int .i64 o) ∧ wr.drew.cell? ⟨w.heap.size, 2, none⟩ = some (.slice a len cap) ∧
        w.heap.size + 1 ≤ wr.drew.heap.size ∧ Below w.heap.size w wr.drew := ⟨z0, z1, z2, hsz, hbw.drew⟩
    go_region_held3 (fun w' => w'.cell? ⟨w.heap.size, 0, none⟩ = some (.string nm) ∧ w'.cell? ⟨w.heap.size, 1, none⟩ = some (.int .i64 o) ∧ w'.cell? ⟨w.heap.size, 2, none⟩ = some (.slice a len cap) ∧
        w.heap.size + 1 ≤ w'.heap.size ∧ Below w.heap.size w w')
      (first | with_reducible exact hS0 | with_reducible exact keepZone (keepZone hS0 k1) k2 | with_reducible exact keepZone (keepZone hS0 k2) k1 | with_reducible exact keepZone hS0 k1 | with_reducible exact keepZone hS0 k2)
      (first | (go_at_call_of 31 (Value.int .i64 d); refine (C2.out _ (by go_split_ands; assumption)).mono ?_; rintro e w' ⟨rfl, k1⟩) | (go_at_call_of 31 (Value.int .i64 d2); refine (C3.out _ (by go_split_ands; assumption)).mono ?_; rintro e w' ⟨rfl, k2⟩))
    all_goals
      have hF := ‹_ ∧ _›
      have hF2 := hF.2.2.2.2
      clear hF
      go_wp2_with fail
      go_ret3
      exact ⟨rfl, hF2⟩
  · obtain ⟨rfl, rfl⟩ := h2 hz
    clear h2 c2 c3 hd
    go_enter Try.func21, Try.ntmps21
    go_wp2_with (go_at_call 25; refine (C1.out _).mono ?_; rintro e w' ⟨rfl, hb⟩)
    go_ret3
    exact ⟨rfl, (hB0 _).trans (hb.mono (by simp))⟩

theorem rspan_any (nm : ByteArray) (o : Int) (a : Option Addr) (len cap : Nat) (l : List (Int × Int)) (d : Int) (s u : Nat) (w : World) (hs : IsShifts w a len l) (hl : len ≤ 4611686018427387903) (hr : SpanR o l d s u) :
    Calls Try.prog 22 #[zoneV nm o a len cap, .int .i64 d] w fun e w' => e = .returned (.tuple #[.int .i64 s, .int .i64 u, .int .i64 (chkE o l d 400000)]) ∧ Below w.heap.size w w' := by
  have hB0 : ∀ o, Below w.heap.size w (w.alloc o) := fun o => (Below.refl _ _).alloc (Nat.le_refl _) o
  have c1 := fun o' => rvalidate_any nm o a len cap l (w.alloc o') (hs.below (hB0 o') (Nat.le_refl _)) (by omega)
  have c2 := fun W (hb : Below w.heap.size w W) (h0 : chkE o l d 400000 = 0) => rstart_any nm o a len cap l d s W (hs.below hb (Nat.le_refl _)) (chkE_ok h0).1 (hr.1 h0).1
  have c3 := fun W (hb : Below w.heap.size w W) (h0 : chkE o l d 400000 = 0) => rstart_any nm o a len cap l (d + 1) u W (hs.below hb (Nat.le_refl _)) (chkE_ok h0).1 (hr.1 h0).2
  generalize hd2 : d + 1 = d2 at c3
  have h2 := hr.2
  have he : chkE o l d 400000 = if zoneE o l = 0 then (if d < 0 ∨ 400000 < d then 1 else 0) else zoneE o l := rfl
  generalize chkE o l d 400000 = E at *
  generalize zoneE o l = z at *
  have C1 := Lib.hid c1
  clear c1 hs hr
  by_cases hz : z = 0
  · subst hz
    rw [if_pos rfl] at he
    by_cases h1 : d < 0 ∨ 400000 < d
    · rw [if_pos h1] at he
      subst he
      obtain ⟨rfl, rfl⟩ := h2 (by decide)
      clear h2 c2 c3
      rcases (show d < 0 ∨ (0 ≤ d ∧ 400000 < d) by omega) with h1 | ⟨h0, h1⟩
      all_goals
        go_enter Try.func22, Try.ntmps22
        go_wp2_with (go_at_call 13; refine (C1.out _).mono ?_; rintro e w' ⟨rfl, hb⟩)
        go_ret3
        exact ⟨rfl, (hB0 _).trans (hb.mono (by simp))⟩
    · rw [if_neg h1] at he
      subst he
      have C2 := Lib.hid (fun W hb => c2 W hb rfl)
      have C3 := Lib.hid (fun W hb => c3 W hb rfl)
      have d0 : 0 ≤ d := by omega
      have d1 : d ≤ 400000 := by omega
      clear h2 c2 c3 h1
      have hw : IntKind.i64.wrap (d + 1) = d2 := by rw [IntKind.wrap_i64]; omega
      clear hd2
      go_enter Try.func22, Try.ntmps22
      go_wp2_with (go_at_call 13; refine (C1.out _).mono ?_; rintro e wr ⟨rfl, hb⟩; obtain ⟨z0, z1, z2, hsz, hbw⟩ := box_cells (by simpa using hb); clear hb)
      have hS0 : wr.drew.cell? ⟨w.heap.size, 0, none⟩ = some (.string nm) ∧ wr.drew.cell? ⟨w.heap.size, 1, none⟩ = some (.int .i64 o) ∧ wr.drew.cell? ⟨w.heap.size, 2, none⟩ = some (.slice a len cap) ∧
          w.heap.size + 1 ≤ wr.drew.heap.size ∧ Below w.heap.size w wr.drew := ⟨z0, z1, z2, hsz, hbw.drew⟩
      go_region_held3 (fun w' => w'.cell? ⟨w.heap.size, 0, none⟩ = some (.string nm) ∧ w'.cell? ⟨w.heap.size, 1, none⟩ = some (.int .i64 o) ∧ w'.cell? ⟨w.heap.size, 2, none⟩ = some (.slice a len cap) ∧
          w.heap.size + 1 ≤ w'.heap.size ∧ Below w.heap.size w w')
        (first | with_reducible exact hS0 | with_reducible exact keepZone (keepZone hS0 k1) k2 | with_reducible exact keepZone (keepZone hS0 k2) k1 | with_reducible exact keepZone hS0 k1 | with_reducible exact keepZone hS0 k2)
        (first | (go_at_call_of 32 (Value.int .i64 d); refine (C2.out _ (by go_split_ands; assumption)).mono ?_; rintro e w' ⟨rfl, k1⟩) | (go_at_call_of 32 (Value.int .i64 d2); refine (C3.out _ (by go_split_ands; assumption)).mono ?_; rintro e w' ⟨rfl, k2⟩))
      all_goals
        have hF := ‹_ ∧ _›
        have hF2 := hF.2.2.2.2
        clear hF
        go_wp2_with fail
        go_ret3
        exact ⟨rfl, hF2⟩
  · rw [if_neg hz] at he
    subst he
    obtain ⟨rfl, rfl⟩ := h2 hz
    clear h2 c2 c3
    go_enter Try.func22, Try.ntmps22
    go_wp2_with (go_at_call 13; refine (C1.out _).mono ?_; rintro e w' ⟨rfl, hb⟩)
    go_ret3
    exact ⟨rfl, (hB0 _).trans (hb.mono (by simp))⟩

end Go.Proofs.Ytfknoclmpdnkdaa
