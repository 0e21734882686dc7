/-
  What the small functions of layer 3 and of its reference return.
-/
import Derived.Test.YtloccocengegnaaDoorRows
import Derived.Test.YtloccocengegnaaDoorCMath
import Derived.Test.YtloccocengegnaaDoorGRet
import Derived.WalkKit
import Derived.WalkLawsBesides
import Derived.WalkSpells
import Derived.Outline
import Derived.BigQuiet
import Derived.IntWalk
import Derived.Deep.QuietTactic
import Derived.Lib.Hide
import Derived.Below
namespace Go.Proofs.YtloccocengegnaaDoor
open Go.RowKit Wh


/-- The lengths of the months as the program's table has them. -/
def tab : List Int := [31, 28, 31, 30, 31, 30, 31, 31, 30, 31, 30, 31]

/-- The table lies in the world. -/
def Tab (w : World) : Prop := 0 < w.heap.size ∧ ∀ i : Nat, i < 12 → w.cell? ⟨0, i, none⟩ = some (.int .i64 (tab.getD i 0))

theorem Tab.below {w w' : World} {B : Nat} (h : Tab w) (hb : Below B w w') (hB : w.heap.size ≤ B) : Tab w' :=
  ⟨Nat.lt_of_lt_of_le h.1 hb.size, fun i hi => by rw [hb.cell (p := ⟨0, i, none⟩) (Nat.lt_of_lt_of_le h.1 hB)]; exact h.2 i hi⟩

theorem tab_len (y : Int) {k : Nat} (hk : k < 12) (h : ((k : Int) + 1 == 2 && leapB y) = false) : tab.getD k 0 = lenZ y ((k : Int) + 1) := by
  have e : ¬ k = 1 ∨ leapB y = false := by
    rcases Bool.and_eq_false_iff.1 h with h | h
    · left; intro e; subst e; simp at h
    · exact .inr h
  rcases (show k = 0 ∨ k = 1 ∨ k = 2 ∨ k = 3 ∨ k = 4 ∨ k = 5 ∨ k = 6 ∨ k = 7 ∨ k = 8 ∨ k = 9 ∨ k = 10 ∨ k = 11 by omega) with rfl | rfl | rfl | rfl | rfl | rfl | rfl | rfl | rfl | rfl | rfl | rfl
  all_goals first
    | (simp [tab, lenZ]; done)
    | (rcases e with e | e <;> simp_all [tab, lenZ, leapZ])

theorem isDay_any (x : Int) (w : World) :
    Calls Tryd.prog 61 #[.int .i64 x] w fun e w' => e = .returned (.bool (decide (0 ≤ x) && decide (x ≤ 400000))) ∧ w = w' := by
  go_enter Tryd.func61, Tryd.ntmps61
  go_wp2
  all_goals
    go_ret
    refine ⟨ret_bool ?_, rfl⟩
    simp_all
    try omega

theorem isLeap_any (y : Int) (h0 : 0 ≤ y) (h1 : y ≤ 1000000000) (w : World) :
    Calls Tryd.prog 83 #[.int .i64 y] w fun e w' => e = .returned (.bool (leapB y)) ∧ w = w' := by
  go_enter Tryd.func83, Tryd.ntmps83
  go_wp2
  all_goals
    go_ret
    refine ⟨ret_bool ?_, rfl⟩
    unfold leapB
    simp_all
    try (first | rfl | omega)

theorem leapYears_any (y : Int) (h0 : 0 ≤ y) (h1 : y ≤ 1000000000) (w : World) :
    Calls Tryd.prog 82 #[.int .i64 y] w fun e w' => e = .returned (.int .i64 (lyZ y)) ∧ w = w' := by
  go_enter Tryd.func82, Tryd.ntmps82
  go_wp2
  go_ret
  exact ⟨rfl, rfl⟩

theorem daysBefore_any (y : Int) (h0 : 1970 ≤ y) (h1 : y ≤ 1000000) (w : World) :
    Calls Tryd.prog 62 #[.int .i64 y] w fun e w' => e = .returned (.int .i64 (yzZ y)) ∧ w = w' := by
  have hz : yzZ y = (y - 1970) * 365 + lyZ (y - 1) - 477 := rfl
  have HZ := Lib.hid hz
  clear hz
  have c1 := fun W => leapYears_any (y - 1) (by omega) (by omega) W
  have c2 := fun W => leapYears_any 1969 (by omega) (by omega) W
  rw [show lyZ 1969 = 477 by decide] at c2
  have hb : -1000000 ≤ lyZ (y - 1) ∧ lyZ (y - 1) ≤ 1000000 := by unfold lyZ; omega
  generalize lyZ (y - 1) = a at *
  have C1 := Lib.hid c1
  have C2 := Lib.hid c2
  clear c1 c2
  go_enter Tryd.func62, Tryd.ntmps62
  go_wp2_with fail
  refine (C1.out _).mono ?_
  rintro e w' ⟨rfl, rfl⟩
  go_wp2_with fail
  refine (C2.out _).mono ?_
  rintro e w' ⟨rfl, rfl⟩
  go_wp2_with fail
  go_ret
  exact ⟨ret_int HZ.out.symm, rfl⟩

theorem monthLength_any (y : Int) (k : Nat) (h0 : 0 ≤ y) (h1 : y ≤ 1000000000) (hk : k < 12) (w : World) (ht : Tab w) :
    Calls Tryd.prog 63 #[.int .i64 y, .int .i64 ((k : Int) + 1)] w fun e w' => e = .returned (.int .i64 (lenZ y ((k : Int) + 1))) ∧ w = w' := by
  have hc := ht.2 k hk
  by_cases hl : ((k : Int) + 1 == 2 && leapB y) = true
  · simp only [Bool.and_eq_true, beq_iff_eq] at hl
    obtain ⟨h2, h3⟩ := hl
    obtain rfl : k = 1 := by omega
    have hz : lenZ y (((1 : Nat) : Int) + 1) = 29 := by unfold lenZ leapZ; rw [h3]; rfl
    have HZ := Lib.hid hz
    clear hz hc
    go_enter Tryd.func63, Tryd.ntmps63
    go_wp2_with (go_at_call 83; refine (isLeap_any _ h0 h1 _).mono ?_; rintro e w' ⟨rfl, rfl⟩)
    go_ret
    exact ⟨ret_int HZ.out.symm, rfl⟩
  · have hf : ((k : Int) + 1 == 2 && leapB y) = false := by simpa using hl
    have HZ := Lib.hid (tab_len y hk hf)
    have hl2 : (k : Int) + 1 = 2 → leapB y = false := by
      intro e
      rw [e] at hf
      simpa using hf
    clear hl hf
    by_cases e2 : k = 1
    · subst e2
      have h3 := hl2 rfl
      clear hl2
      go_enter Tryd.func63, Tryd.ntmps63
      go_wp2_with (go_at_call 83; refine (isLeap_any _ h0 h1 _).mono ?_; rintro e w' ⟨rfl, rfl⟩)
      go_ret
      exact ⟨ret_int HZ.out, rfl⟩
    · clear hl2
      go_enter Tryd.func63, Tryd.ntmps63
      go_wp2_with fail
      go_ret
      exact ⟨ret_int HZ.out, rfl⟩

end Go.Proofs.YtloccocengegnaaDoor

