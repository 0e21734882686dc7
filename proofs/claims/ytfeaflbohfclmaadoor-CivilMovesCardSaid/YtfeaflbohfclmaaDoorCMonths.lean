/-
  AddMonths, of civil and of its reference.
-/
import Derived.Test.YtfeaflbohfclmaaDoorCDate
set_option linter.unusedVariables false
namespace Wh

/-- The day of month i (counted from January 1970) that a day of the month becomes. -/
def monY (i : Int) : Int := 1970 + i / 12
def monM (i : Int) : Int := i % 12 + 1
def monD (i d : Int) : Int := min d (lenZ (monY i) (monM i))

/-- Is there a date n months later, in month i? -/
def addB (i n d : Int) : Bool := decide (-400000 ≤ n) && decide (n ≤ 400000) && decide (0 ≤ i) && daysB (monY i) (monM i) (monD i d)
def addZ (i n d : Int) : Int := if addB i n d = true then daysZ (monY i) (monM i) (monD i d) else 0

theorem add_out {i n d : Int} (h : n < -400000 ∨ 400000 < n ∨ i < 0) : addB i n d = false ∧ addZ i n d = 0 := by
  have e : addB i n d = false := by
    unfold addB
    rcases h with h | h | h
    · rw [decide_eq_false (show ¬ -400000 ≤ n by omega)]; rfl
    · rw [decide_eq_false (show ¬ n ≤ 400000 by omega), Bool.and_false]; rfl
    · rw [decide_eq_false (show ¬ 0 ≤ i by omega), Bool.and_false]; rfl
  exact ⟨e, by unfold addZ; rw [e]; rfl⟩

theorem add_in {i n d : Int} (h0 : -400000 ≤ n) (h1 : n ≤ 400000) (h2 : 0 ≤ i) : addB i n d = daysB (monY i) (monM i) (monD i d) ∧ addZ i n d = daysZ (monY i) (monM i) (monD i d) := by
  have e : addB i n d = daysB (monY i) (monM i) (monD i d) := by
    unfold addB
    rw [decide_eq_true h0, decide_eq_true h1, decide_eq_true h2]; rfl
  refine ⟨e, ?_⟩
  unfold addZ
  rw [e]
  cases hb : daysB (monY i) (monM i) (monD i d)
  · rw [daysZ_no hb]; rfl
  · rfl

end Wh
namespace Go.Proofs.YtfeaflbohfclmaaDoor
open Go.RowKit Wh

theorem monthLength_at (y m : Int) (h0 : 0 ≤ y) (h1 : y ≤ 1000000000) (hm0 : 1 ≤ m) (hm1 : m ≤ 12) (w : World) (ht : Tab w) :
    Calls Tryd.prog 24 #[.int .i64 y, .int .i64 m] w fun e w' => e = .returned (.int .i64 (lenZ y m)) ∧ w = w' := by
  obtain ⟨k, rfl⟩ : ∃ k : Nat, m = (k : Int) + 1 := ⟨(m - 1).toNat, by omega⟩
  exact monthLength_any y k h0 h1 (by omega) w ht

theorem addMonths_bad (x n : Int) (h : x < 0 ∨ 400000 < x) (w : World) :
    Calls Tryd.prog 17 #[.int .i64 x, .int .i64 n] w (IsPair 0 false w) := by
  have C := Lib.hid (fun W => date_bad x h W)
  clear h
  by_cases h1 : n < -400000
  · go_enter Tryd.func17, Tryd.ntmps17
    go_wp2_with fail
    go_ret2
    exact ⟨rfl, rfl⟩
  · by_cases h2 : 400000 < n
    · go_enter Tryd.func17, Tryd.ntmps17
      go_wp2_with fail
      go_ret2
      exact ⟨rfl, rfl⟩
    · go_enter Tryd.func17, Tryd.ntmps17
      go_wp2_with (go_at_call 13; refine (C.out _).mono ?_; rintro e w' ⟨rfl, rfl⟩)
      go_ret2
      exact ⟨rfl, rfl⟩

theorem raddMonths_bad (x n : Int) (h : x < 0 ∨ 400000 < x) (w : World) :
    Calls Tryd.prog 18 #[.int .i64 x, .int .i64 n] w (IsPair 0 false w) := by
  have C := Lib.hid (fun W => rdate_bad x h W)
  clear h
  go_enter Tryd.func18, Tryd.ntmps18
  go_wp2_with (go_at_call 14; refine (C.out _).mono ?_; rintro e w' ⟨rfl, rfl⟩)
  go_ret2
  exact ⟨rfl, rfl⟩

theorem addMonths_any (y : Int) (k : Nat) (d : Int) (h : Dt y k d) (n : Int) (w : World) (ht : Tab w) :
    Calls Tryd.prog 17 #[.int .i64 (dayZ y k d), .int .i64 n] w (IsPair (addZ ((y - 1970) * 12 + k + n) n d) (addB ((y - 1970) * 12 + k + n) n d) w) := by
  have C := Lib.hid (fun W hW => date_any y k d h W hW)
  have y0 := h.y0
  have y1 := h.year
  have k1 := h.k1
  have d0 := h.d0
  have d1 : d ≤ 31 := by have := h.d1; have := lenZ_bd y ((k : Int) + 1); omega
  have O := Lib.hid (fun h => add_out (i := (y - 1970) * 12 + k + n) (n := n) (d := d) h)
  have I := Lib.hid (fun h0 h1 h2 => add_in (i := (y - 1970) * 12 + k + n) (n := n) (d := d) h0 h1 h2)
  generalize ez : addZ ((y - 1970) * 12 + k + n) n d = z at *
  generalize eb : addB ((y - 1970) * 12 + k + n) n d = b at *
  have HT := Lib.hid ht
  clear ht h ez eb
  generalize dayZ y k d = x at *
  by_cases h1 : n < -400000 ∨ 400000 < n
  · obtain ⟨e1, e2⟩ := O.out (by omega)
    subst e1 e2
    clear I O
    rcases (show n < -400000 ∨ (-400000 ≤ n ∧ 400000 < n) by omega) with h2 | ⟨h2, h3⟩
    all_goals
      clear h1
      go_enter Tryd.func17, Tryd.ntmps17
      go_wp2_with fail
      go_ret2
      exact ⟨rfl, rfl⟩
  · obtain ⟨h2, h3⟩ : -400000 ≤ n ∧ n ≤ 400000 := by omega
    clear h1
    by_cases h4 : (y - 1970) * 12 + k + n < 0
    · obtain ⟨e1, e2⟩ := O.out (by omega)
      subst e1 e2
      clear I O
      go_enter Tryd.func17, Tryd.ntmps17
      go_wp2_with (go_at_call 13; refine (C.out _ HT.out).mono ?_; rintro e w' ⟨rfl, rfl⟩)
      go_ret2
      exact ⟨rfl, rfl⟩
    · obtain ⟨e1, e2⟩ := I.out h2 h3 (by omega)
      clear I O
      have E := Lib.hid (And.intro e1 e2)
      clear e1 e2
      generalize hi : (y - 1970) * 12 + (k : Int) + n = i at *
      go_enter Tryd.func17, Tryd.ntmps17
      go_wp2_with (first | (go_at_call 13; refine (C.out _ HT.out).mono ?_; rintro e w' ⟨rfl, rfl⟩) | (go_at_call 24; refine (monthLength_at _ _ (by omega) (by omega) (by omega) (by omega) _ HT.out).mono ?_; rintro e w' ⟨rfl, rfl⟩) | (go_at_call 10; refine (days_any _ _ _ _ HT.out).mono ?_; rintro e w' ⟨rfl, rfl⟩))
      all_goals
        go_ret2
        have ex : (y - 1970) * 12 + ((k : Int) + 1) - 1 + n = i := by omega
        simp only [ex] at h ⊢
        obtain ⟨e1, e2⟩ := E.out
        unfold monD at e1 e2
        unfold monY monM at e1 e2
        refine ⟨ret_pair ?_ ?_, rfl⟩
        · rw [e2]
          first | rw [Int.min_eq_left (by omega)] | rw [Int.min_eq_right (by omega)]
        · rw [e1]
          first | rw [Int.min_eq_left (by omega)] | rw [Int.min_eq_right (by omega)]

theorem raddMonths_any (y : Int) (k : Nat) (d : Int) (h : Dt y k d) (n : Int) (w : World) :
    Calls Tryd.prog 18 #[.int .i64 (dayZ y k d), .int .i64 n] w (IsPair (addZ ((y - 1970) * 12 + k + n) n d) (addB ((y - 1970) * 12 + k + n) n d) w) := by
  have C := Lib.hid (fun W => rdate_any y k d h W)
  have y0 := h.y0
  have y1 := h.year
  have k1 := h.k1
  have d0 := h.d0
  have d1 : d ≤ 31 := by have := h.d1; have := lenZ_bd y ((k : Int) + 1); omega
  have O := Lib.hid (fun h => add_out (i := (y - 1970) * 12 + k + n) (n := n) (d := d) h)
  have I := Lib.hid (fun h0 h1 h2 => add_in (i := (y - 1970) * 12 + k + n) (n := n) (d := d) h0 h1 h2)
  generalize ez : addZ ((y - 1970) * 12 + k + n) n d = z at *
  generalize eb : addB ((y - 1970) * 12 + k + n) n d = b at *
  clear h ez eb
  generalize dayZ y k d = x at *
  by_cases h1 : n < -400000 ∨ 400000 < n
  · obtain ⟨e1, e2⟩ := O.out (by omega)
    subst e1 e2
    clear I O
    rcases (show n < -400000 ∨ (-400000 ≤ n ∧ 400000 < n) by omega) with h2 | ⟨h2, h3⟩
    all_goals
      clear h1
      go_enter Tryd.func18, Tryd.ntmps18
      go_wp2_with (go_at_call 14; refine (C.out _).mono ?_; rintro e w' ⟨rfl, rfl⟩)
      go_ret2
      exact ⟨rfl, rfl⟩
  · obtain ⟨h2, h3⟩ : -400000 ≤ n ∧ n ≤ 400000 := by omega
    clear h1
    by_cases h4 : (y - 1970) * 12 + k + n < 0
    · obtain ⟨e1, e2⟩ := O.out (by omega)
      subst e1 e2
      clear I O
      go_enter Tryd.func18, Tryd.ntmps18
      go_wp2_with (go_at_call 14; refine (C.out _).mono ?_; rintro e w' ⟨rfl, rfl⟩)
      go_ret2
      exact ⟨rfl, rfl⟩
    · obtain ⟨e1, e2⟩ := I.out h2 h3 (by omega)
      clear I O
      by_cases h5 : 3066 < y + (k + n) / 12
      · have eo := daysB_out (y := monY ((y - 1970) * 12 + k + n)) (m := monM ((y - 1970) * 12 + k + n)) (d := monD ((y - 1970) * 12 + k + n) d) (.inr (.inl (by unfold monY; omega)))
        rw [daysZ_no eo] at e2
        rw [eo] at e1
        subst e1 e2
        clear eo
        go_enter Tryd.func18, Tryd.ntmps18
        go_wp2_with (go_at_call 14; refine (C.out _).mono ?_; rintro e w' ⟨rfl, rfl⟩)
        go_ret2
        exact ⟨rfl, rfl⟩
      · have E := Lib.hid (And.intro e1 e2)
        clear e1 e2
        go_enter Tryd.func18, Tryd.ntmps18
        go_wp2_with (first | (go_at_call 14; refine (C.out _).mono ?_; rintro e w' ⟨rfl, rfl⟩) | (go_at_call 27; refine (rlength_any _ _ (by omega) (by omega) _).mono ?_; rintro e w' ⟨rfl, rfl⟩) | (go_at_call 11; refine (rdays_any _ _ _ _).mono ?_; rintro e w' ⟨rfl, rfl⟩))
        all_goals
          go_ret2
          have ey : (y * 12 + ((k : Int) + 1) - 1 + n) / 12 = monY ((y - 1970) * 12 + k + n) := by unfold monY; omega
          have em : (y * 12 + ((k : Int) + 1) - 1 + n) % 12 + 1 = monM ((y - 1970) * 12 + k + n) := by unfold monM; omega
          simp only [ey, em] at h ⊢
          obtain ⟨e1, e2⟩ := E.out
          unfold monD at e1 e2
          refine ⟨ret_pair ?_ ?_, rfl⟩
          · rw [e2]
            first | rw [Int.min_eq_left (by omega)] | rw [Int.min_eq_right (by omega)]
          · rw [e1]
            first | rw [Int.min_eq_left (by omega)] | rw [Int.min_eq_right (by omega)]

end Go.Proofs.YtfeaflbohfclmaaDoor
