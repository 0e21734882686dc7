/-
  Validate of the reference.
-/
import Derived.Test.YtfknoclmpdnkdaaZVal
set_option linter.unusedVariables false
namespace Go.Proofs.Ytfknoclmpdnkdaa
open Go.RowKit Wh

/-- A zone in a box of the call's own. -/
theorem box_cells {w wr : World} {v0 v1 v2 : Value} {t : TypeId} (h : Below (w.heap.size + 1) (w.alloc (.cells #[v0, v1, v2] t)) wr) :
    wr.cell? ⟨w.heap.size, 0, none⟩ = some v0 ∧ wr.cell? ⟨w.heap.size, 1, none⟩ = some v1 ∧ wr.cell? ⟨w.heap.size, 2, none⟩ = some v2 ∧ w.heap.size + 1 ≤ wr.heap.size ∧ Below w.heap.size w wr := by
  have e : (w.alloc (.cells #[v0, v1, v2] t)).heap[w.heap.size]? = some (.cells #[v0, v1, v2] t) := heap_alloc_new w _
  have hs := h.size
  simp only [World.size_alloc] at hs
  refine ⟨?_, ?_, ?_, hs, ((Below.refl _ _).alloc (Nat.le_refl _) _).trans (h.mono (by omega))⟩
  · rw [h.cell (p := ⟨w.heap.size, 0, none⟩) (by show w.heap.size < _; omega)]
    exact cell_of_row _ _ 0 _ _ _ e
  · rw [h.cell (p := ⟨w.heap.size, 1, none⟩) (by show w.heap.size < _; omega)]
    exact cell_of_row _ _ 1 _ _ _ e
  · rw [h.cell (p := ⟨w.heap.size, 2, none⟩) (by show w.heap.size < _; omega)]
    exact cell_of_row _ _ 2 _ _ _ e

theorem Below.drewN' {B : Nat} {a w : World} (h : Below B a w) (n : Nat) : Below B a (w.drewN n) := ⟨h.os, h.tape, h.output, h.size, h.block⟩

theorem rvalidate_any (nm : ByteArray) (o : Int) (a : Option Addr) (len cap : Nat) (l : List (Int × Int)) (w : World) (hs : IsShifts w a len l) (hl : len ≤ 9223372036854775807) :
    Calls Try.prog 13 #[zoneV nm o a len cap] w fun e w' => e = .returned (.int .i64 (zoneE o l)) ∧ Below w.heap.size w w' := by
  have hlen := hs.1
  by_cases h64 : 64 < len
  · have he : zoneE o l = 2 := by unfold zoneE; rw [if_pos (by omega)]
    rw [he]
    clear he hlen hs
    go_enter Try.func13, Try.ntmps13
    go_wp2_with fail
    go_ret
    exact ⟨rfl, (Below.refl _ _).alloc (Nat.le_refl _) _⟩
  by_cases ho : o < -840 ∨ 840 < o
  · have he : zoneE o l = 1 := by unfold zoneE; rw [if_neg (by omega), if_pos ho]
    rw [he]
    have hb := offB_false ho
    clear he hlen hs ho
    go_enter Try.func13, Try.ntmps13
    go_wp2_with (go_at_call 24; refine (within_any _ _).mono ?_; rintro e w' ⟨rfl, rfl⟩)
    go_ret
    exact ⟨rfl, (Below.refl _ _).alloc (Nat.le_refl _) _⟩
  · have he : zoneE o l = goE 0 l := by unfold zoneE; rw [if_neg (by omega), if_neg ho]
    rw [he]
    have hb := offB_true (o := o) (by omega) (by omega)
    generalize hE : goE 0 l = E
    have HE := Lib.hid hE
    have HS := Lib.hid hs
    have HL := Lib.hid hlen
    clear he hlen hs ho hE
    go_enter Try.func13, Try.ntmps13
    go_wp2_with (go_at_call 24; refine (within_any _ _).mono ?_; rintro e w' ⟨rfl, rfl⟩)
    clear hb
    go_loopw [3] (fun iv wr => ∃ (k : Nat) (b : Int), k ≤ len ∧ iv = .int .i64 k ∧ goE b (l.drop k) = E ∧ (k = 0 → b = 0) ∧ (∀ j, k = j + 1 → ∃ s, l[j]? = some s ∧ s.1 = b) ∧
        Below (w.heap.size + 1) (w.alloc (.cells #[.string nm, .int .i64 o, .slice a len cap] 24)) wr) (fun i _ => len - (intOf i).toNat)
    case atStart => exact ⟨0, 0, Nat.zero_le _, rfl, HE.out, fun _ => rfl, fun j h => (by omega), Below.refl _ _⟩
    case round =>
      obtain ⟨k, b, hk, rfl, hg, hb0, hb1, hbel⟩ := hrel
      have hbb := hbel
      obtain ⟨z0, z1, z2, hsz, hbw⟩ := box_cells hbel
      have HB := Lib.hid hbel
      clear hbel hbb
      by_cases hlt : k < len
      · obtain ⟨s, bb, off, hx, rfl, hbl, hc0, hc1⟩ := (HS.out.below hbw (Nat.le_refl _)).at hlt
        have hn := goE_next (b := b) hx
        rw [hg] at hn
        obtain ⟨s1, s2⟩ := s
        simp only at hc0 hc1 hn
        have HX := Lib.hid hx
        clear hg hx
        have HN := Lib.hid hn
        clear hn
        by_cases b1 : s1 < 1
        · have HR : Hid (E = 1) := by show _ = _; rw [HN.out, if_pos (.inl b1)]
          clear hb0 hb1
          go_wp2_with fail
          go_ret
          exact ⟨ret_int HR.out.symm, hbw.alloc (by omega) _⟩
        by_cases b2 : 575999999 < s1
        · have HR : Hid (E = 1) := by show _ = _; rw [HN.out, if_pos (.inr (.inl b2))]
          clear hb0 hb1
          go_wp2_with fail
          go_ret
          exact ⟨ret_int HR.out.symm, hbw.alloc (by omega) _⟩
        by_cases b3 : s2 < -840 ∨ 840 < s2
        · have HR : Hid (E = 1) := by show _ = _; rw [HN.out, if_pos (.inr (.inr b3))]
          have hb := offB_false b3
          clear b3 hb0 hb1
          go_wp2_with (go_at_call 24; refine (within_any _ _).mono ?_; rintro e w' ⟨rfl, rfl⟩)
          go_ret
          exact ⟨ret_int HR.out.symm, hbw.alloc (by omega) _⟩
        have hb := offB_true (o := s2) (by omega) (by omega)
        have HN2 : Hid (E = if s1 ≤ b then 14 else goE s1 (l.drop (k + 1))) := by show _ = _; rw [HN.out, if_neg (by omega)]
        clear HN b3
        cases k with
        | zero =>
          obtain rfl := hb0 rfl
          simp only [Nat.zero_mul, Nat.add_zero] at hc0 hc1
          have HR : Hid (goE s1 (l.drop (0 + 1)) = E) := by show _ = _; rw [HN2.out, if_neg (by omega)]
          have hg : decide ((0 : Int) < ((0 : Nat) : Int)) = false := rfl
          clear hb0 hb1
          go_wp2_with (go_at_call 24; refine (within_any _ _).mono ?_; rintro e w' ⟨rfl, rfl⟩)
          go_quiet (fail)
          go_wp2_with fail
          go_roundw
          case rel => exact ⟨0 + 1, s1, by omega, rfl, HR.out, fun h => (by omega), fun j h => ⟨(s1, s2), (by rw [show j = 0 by omega]; exact HX.out), rfl⟩, Below.drewN' (HB.out.alloc (by omega) _) _⟩
          case measure => simp [intOf]; omega
        | succ j =>
          obtain ⟨p, hp, rfl⟩ := hb1 j rfl
          obtain ⟨p', bb', off', hp', ha', _, hd0, _⟩ := (HS.out.below hbw (Nat.le_refl _)).at (show j < len by omega)
          obtain ⟨rfl, rfl⟩ : bb' = bb ∧ off' = off := by cases ha'; exact ⟨rfl, rfl⟩
          obtain rfl : p' = p := by rw [hp] at hp'; exact (Option.some.inj hp').symm
          obtain ⟨p1, p2⟩ := p'
          simp only at hd0 HN2
          have hg : decide ((0 : Int) < ((j + 1 : Nat) : Int)) = true := decide_eq_true (by omega)
          have hi : ((j + 1 : Nat) : Int) - 1 = (j : Int) := by omega
          have hsl : w.heap.size < wr.heap.size := by omega
          clear hb0 hb1 hp hp' ha'
          by_cases b4 : s1 ≤ p1
          · have HR : Hid (E = 14) := by show _ = _; rw [HN2.out, if_pos b4]
            go_wp2_with (go_at_call 24; refine (within_any _ _).mono ?_; rintro e w' ⟨rfl, rfl⟩)
            go_quiet (fail)
            go_wp2_with fail
            go_ret
            exact ⟨ret_int HR.out.symm, Below.drewN' (hbw.alloc (by omega) _) _⟩
          · have HR : Hid (goE s1 (l.drop (j + 1 + 1)) = E) := by show _ = _; rw [HN2.out, if_neg b4]
            go_wp2_with (go_at_call 24; refine (within_any _ _).mono ?_; rintro e w' ⟨rfl, rfl⟩)
            go_quiet (fail)
            go_wp2_with fail
            go_roundw
            case rel => exact ⟨j + 1 + 1, s1, by omega, by go_num, HR.out, fun h => (by omega), fun i h => ⟨(s1, s2), (by rw [show i = j + 1 by omega]; exact HX.out), rfl⟩, Below.drewN' (HB.out.alloc (by omega) _) _⟩
            case measure => simp [intOf]; omega
      · have HR : Hid (E = 0) := by
          show _ = _
          rw [← hg, List.drop_of_length_le (by have := HL.out; omega)]
          rfl
        clear hg hb0 hb1
        obtain rfl : k = len := by omega
        go_wp2_with fail
        go_ret
        exact ⟨ret_int HR.out.symm, hbw⟩

end Go.Proofs.Ytfknoclmpdnkdaa
