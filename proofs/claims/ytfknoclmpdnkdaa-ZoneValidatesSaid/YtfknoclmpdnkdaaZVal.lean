/-
  Validate, of zone and of its reference.
-/
import Derived.Test.YtfknoclmpdnkdaaZLeaf
set_option linter.unusedVariables false
namespace Wh

theorem goE_next {b : Int} {l : List (Int × Int)} {k : Nat} {s : Int × Int} (h : l[k]? = some s) :
    goE b (l.drop k) = if s.1 < 1 ∨ 575999999 < s.1 ∨ s.2 < -840 ∨ 840 < s.2 then 1 else if s.1 ≤ b then 14 else goE s.1 (l.drop (k + 1)) := by
  have hk := (List.getElem?_eq_some_iff.1 h).1
  rw [List.drop_eq_getElem_cons hk]
  have e : l[k] = s := by rw [List.getElem?_eq_getElem hk] at h; exact Option.some.inj h
  rw [e]
  rfl

end Wh
namespace Go.Proofs.Ytfknoclmpdnkdaa
open Go.RowKit Wh

theorem offB_true {o : Int} (h0 : -840 ≤ o) (h1 : o ≤ 840) : offB o = true := by simp [offB, h0, h1]
theorem offB_false {o : Int} (h : o < -840 ∨ 840 < o) : offB o = false := by
  unfold offB
  rcases h with h | h
  · rw [decide_eq_false (by omega)]; rfl
  · rw [decide_eq_false (p := o ≤ 840) (by omega), Bool.and_false]

theorem validate_any (nm : ByteArray) (o : Int) (a : Option Addr) (len cap : Nat) (l : List (Int × Int)) (w : World) (hs : IsShifts w a len l) (hl : len ≤ 9223372036854775807) :
    Calls Try.prog 12 #[zoneV nm o a len cap] w fun e w' => e = .returned (.int .i64 (zoneE o l)) ∧ Below w.heap.size w w' := by
  have hlen := hs.1
  by_cases h64 : 64 < len
  · have he : zoneE o l = 2 := by unfold zoneE; rw [if_pos (by omega)]
    rw [he]
    clear he hlen hs
    go_enter Try.func12, Try.ntmps12
    go_wp2_with fail
    go_ret
    exact ⟨rfl, (Below.refl _ _).alloc (Nat.le_refl _) _⟩
  by_cases ho : o < -840 ∨ 840 < o
  · have he : zoneE o l = 1 := by unfold zoneE; rw [if_neg (by omega), if_pos ho]
    rw [he]
    have hb := offB_false ho
    clear he hlen hs ho
    go_enter Try.func12, Try.ntmps12
    go_wp2_with (go_at_call 23; refine (isOffset_any _ _).mono ?_; rintro e w' ⟨rfl, rfl⟩)
    go_ret
    exact ⟨rfl, (Below.refl _ _).alloc (Nat.le_refl _) _⟩
  · have he : zoneE o l = goE 0 l := by unfold zoneE; rw [if_neg (by omega), if_neg ho]
    rw [he]
    have hb := offB_true (o := o) (by omega) (by omega)
    generalize hE : goE 0 l = E
    have HE := Lib.hid hE
    have HS := Lib.hid hs
    have HL := Lib.hid hlen
    clear he hlen hs ho hE
    go_enter Try.func12, Try.ntmps12
    go_wp2_with (go_at_call 23; refine (isOffset_any _ _).mono ?_; rintro e w' ⟨rfl, rfl⟩)
    clear hb
    go_loopw [3, 17] (fun bv iv wr => ∃ (k : Nat) (b : Int), k ≤ len ∧ iv = .int .i64 k ∧ bv = .int .i64 b ∧ goE b (l.drop k) = E ∧ Below w.heap.size w wr) (fun _ i _ => len - (intOf i).toNat)
    case atStart => exact ⟨0, 0, Nat.zero_le _, rfl, rfl, HE.out, (Below.refl _ _).alloc (Nat.le_refl _) _⟩
    case round =>
      obtain ⟨k, b, hk, rfl, rfl, hg, hbel⟩ := hrel
      have hsz := hbel.size
      by_cases hlt : k < len
      · obtain ⟨s, bb, off, hx, rfl, hbl, hc0, hc1⟩ := (HS.out.below hbel (Nat.le_refl _)).at hlt
        have hn := goE_next (b := b) hx
        rw [hg] at hn
        obtain ⟨s1, s2⟩ := s
        simp only at hc0 hc1 hn
        clear hg hx
        have HN := Lib.hid hn
        clear hn
        by_cases b1 : s1 < 1
        · have HR : Hid (E = 1) := by show _ = _; rw [HN.out, if_pos (.inl b1)]
          go_wp2_with fail
          go_ret
          exact ⟨ret_int HR.out.symm, hbel.alloc hsz _⟩
        by_cases b2 : 575999999 < s1
        · have HR : Hid (E = 1) := by show _ = _; rw [HN.out, if_pos (.inr (.inl b2))]
          go_wp2_with fail
          go_ret
          exact ⟨ret_int HR.out.symm, hbel.alloc hsz _⟩
        by_cases b3 : s2 < -840 ∨ 840 < s2
        · have HR : Hid (E = 1) := by show _ = _; rw [HN.out, if_pos (.inr (.inr b3))]
          have hb := offB_false b3
          clear b3
          go_wp2_with (go_at_call 23; refine (isOffset_any _ _).mono ?_; rintro e w' ⟨rfl, rfl⟩)
          go_ret
          exact ⟨ret_int HR.out.symm, hbel.alloc hsz _⟩
        have hb := offB_true (o := s2) (by omega) (by omega)
        have HN2 : Hid (E = if s1 ≤ b then 14 else goE s1 (l.drop (k + 1))) := by show _ = _; rw [HN.out, if_neg (by omega)]
        clear HN b3
        by_cases b4 : s1 ≤ b
        · have HR : Hid (E = 14) := by show _ = _; rw [HN2.out, if_pos b4]
          go_wp2_with (go_at_call 23; refine (isOffset_any _ _).mono ?_; rintro e w' ⟨rfl, rfl⟩)
          go_ret
          exact ⟨ret_int HR.out.symm, hbel.alloc hsz _⟩
        · have HR : Hid (goE s1 (l.drop (k + 1)) = E) := by show _ = _; rw [HN2.out, if_neg b4]
          go_wp2_with (go_at_call 23; refine (isOffset_any _ _).mono ?_; rintro e w' ⟨rfl, rfl⟩)
          go_roundw
          case rel => exact ⟨k + 1, s1, by omega, by go_num, rfl, HR.out, hbel.alloc hsz _⟩
          case measure => simp [intOf]; omega
      · have HR : Hid (E = 0) := by
          show _ = _
          rw [← hg, List.drop_of_length_le (by have := HL.out; omega)]
          rfl
        clear hg
        obtain rfl : k = len := by omega
        go_wp2_with fail
        go_ret
        exact ⟨ret_int HR.out.symm, hbel⟩

end Go.Proofs.Ytfknoclmpdnkdaa
