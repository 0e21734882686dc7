/-
  The day of an instant, of zone.
-/
import Derived.Test.YtfknoclmpdnkdaaZOff
set_option linter.unusedVariables false
namespace Wh

/-- What a valid zone has. -/
structure OkZ (o : Int) (l : List (Int × Int)) : Prop where
  len : l.length ≤ 64
  o0 : -840 ≤ o
  o1 : o ≤ 840
  at_ : ∀ s ∈ l, 1 ≤ s.1 ∧ s.1 ≤ 575999999 ∧ -840 ≤ s.2 ∧ s.2 ≤ 840
  up : l.Pairwise fun s u => s.1 < u.1

theorem okZ_of {o : Int} {l : List (Int × Int)} (h : zoneE o l = 0) : OkZ o l := by
  unfold zoneE at h
  split at h
  · exact absurd h (by decide)
  · split at h
    · exact absurd h (by decide)
    · obtain ⟨h1, h2⟩ := goE_good l 0 h (Int.le_refl _)
      exact ⟨by omega, by omega, by omega, fun s hs => by have := h1 s hs; omega, h2⟩

theorem stepD_next {l : List (Int × Int)} {k : Nat} {s : Int × Int} (h : l[k]? = some s) (d o t : Int) :
    stepD d o (l.drop k) t = if t < s.1 then max d (max 0 (t + o) / 1440) else stepD (max d (max 0 (s.1 - 1 + o) / 1440)) s.2 (l.drop (k + 1)) t := by
  have hk := (List.getElem?_eq_some_iff.1 h).1
  rw [List.drop_eq_getElem_cons hk]
  have e : l[k] = s := by rw [List.getElem?_eq_getElem hk] at h; exact Option.some.inj h
  rw [e]
  rfl

end Wh
namespace Go.Proofs.Ytfknoclmpdnkdaa
open Go.RowKit Wh

theorem dayAt_any (nm : ByteArray) (o : Int) (a : Option Addr) (len cap : Nat) (l : List (Int × Int)) (t : Int) (w : World) (hs : IsShifts w a len l) (hz : OkZ o l) (ht0 : 0 ≤ t) (ht1 : t ≤ 575999999) :
    Calls Try.prog 29 #[zoneV nm o a len cap, .int .i64 t] w fun e w' => e = .returned (.int .i64 (dayZn o l t)) ∧ Below w.heap.size w w' := by
  have HS := Lib.hid hs
  have hlen := hs.1
  have hl64 := hz.len
  have HZ := Lib.hid hz
  have hl : len ≤ 64 := by omega
  have HL := Lib.hid hlen
  have hd := stepD_day (o := o) hz.up t
  have o0 := hz.o0
  have o1 := hz.o1
  generalize hD : dayZn o l t = D at *
  have HD := Lib.hid hd
  have cl := fun W x q h0 h1 h2 h3 => localDay_any x q h0 h1 h2 h3 W
  have CL := Lib.hid cl
  clear hs hz hd hlen hl64 hD cl
  go_enter Try.func29, Try.ntmps29
  go_wp2_with fail
  go_quiet (fail)
  rename_i nq
  go_wp2_with fail
  go_loopw [5, 6, 14] (fun dv ov iv wr => ∃ (k : Nat) (d q : Int), k ≤ len ∧ iv = .int .i64 k ∧ dv = .int .i64 d ∧ ov = .int .i64 q ∧ stepD d q (l.drop k) t = D ∧ -840 ≤ q ∧ q ≤ 840 ∧ Below w.heap.size w wr)
    (fun _ _ i _ => len - (intOf i).toNat)
  case atStart => exact ⟨0, 0, o, Nat.zero_le _, rfl, rfl, rfl, HD.out, o0, o1, Below.drewN' ((Below.refl _ _).alloc (Nat.le_refl _) _) _⟩
  case round =>
    obtain ⟨k, d, q, hk, rfl, rfl, rfl, hg, q0, q1, hbel⟩ := hrel
    have hsz := hbel.size
    by_cases hlt : k < len
    · obtain ⟨s, b, off, hx, rfl, hbl, hc0, hc1⟩ := (HS.out.below hbel (Nat.le_refl _)).at hlt
      have hat := HZ.out.at_ s (List.mem_of_getElem? hx)
      have hn := stepD_next hx d q t
      rw [hg] at hn
      obtain ⟨s1, s2⟩ := s
      simp only at hc0 hc1 hn hat
      obtain ⟨a0, a1, a2, a3⟩ := hat
      have HX := Lib.hid hx
      have HN := Lib.hid hn
      clear hx hn hg
      by_cases hst : t < s1
      · have HR : Hid (D = max d (max 0 (t + q) / 1440)) := by show _ = _; rw [HN.out, if_pos hst]
        have cx := fun W => localDay_any t q (by omega) (by omega) q0 q1 W
        clear HN
        generalize max 0 (t + q) / 1440 = x at *
        have CX := Lib.hid cx
        clear cx
        go_wp2_with (go_at_call 35; refine (CX.out _).mono ?_; rintro e w' ⟨rfl, rfl⟩)
        all_goals
          go_ret
          exact ⟨ret_int (by rw [HR.out]; omega), hbel.alloc hsz _⟩
      · have HR : Hid (stepD (max d (max 0 (s1 - 1 + q) / 1440)) s2 (l.drop (k + 1)) t = D) := by show _ = _; rw [HN.out, if_neg hst]
        have cx := fun W => localDay_any (s1 - 1) q (by omega) (by omega) q0 q1 W
        clear HN
        generalize max 0 (s1 - 1 + q) / 1440 = x at *
        have CX := Lib.hid cx
        clear cx
        go_wp2_with (go_at_call 35; refine (CX.out _).mono ?_; rintro e w' ⟨rfl, rfl⟩)
        all_goals
          go_roundw
          case rel => exact ⟨k + 1, max d x, s2, by omega, by go_num, by congr 1; omega, rfl, HR.out, a2, a3, hbel.alloc hsz _⟩
          case measure => simp [intOf]; omega
    · have HR : Hid (D = max d (max 0 (t + q) / 1440)) := by
        show _ = _
        rw [← hg, List.drop_of_length_le (by have := HL.out; omega)]
        rfl
      have cx := fun W => localDay_any t q (by omega) (by omega) q0 q1 W
      clear hg
      generalize max 0 (t + q) / 1440 = x at *
      have CX := Lib.hid cx
      clear cx
      obtain rfl : k = len := by omega
      go_wp2_with (go_at_call 35; refine (CX.out _).mono ?_; rintro e w' ⟨rfl, rfl⟩)
      all_goals
        go_ret
        exact ⟨ret_int (by rw [HR.out]; omega), hbel⟩

end Go.Proofs.Ytfknoclmpdnkdaa
