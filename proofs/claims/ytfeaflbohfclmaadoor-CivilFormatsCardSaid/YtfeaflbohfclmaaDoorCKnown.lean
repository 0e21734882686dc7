/-
  The sanity check that every law of layer 3 calls; and the law CivilWeeks.
-/
import Derived.Test.YtfeaflbohfclmaaDoorMask
import Derived.Test.YtfeaflbohfclmaaDoorCDate
import Derived.Test.YtfeaflbohfclmaaDoorCParse
set_option linter.unusedVariables false
namespace Go.Proofs.YtfeaflbohfclmaaDoor
open Go.RowKit Wh

theorem known_any (w : World) (ht : Tab w) : Calls Tryd.prog 12 #[] w fun e w' => e = .returned (.bool true) ∧ Below w.heap.size w w' := by
  have c1 : ∀ w, Tab w → Calls Tryd.prog 10 #[.int .i64 2026, .int .i64 11, .int .i64 16] w fun e w' => e = .returned (.tuple #[.int .i64 20773, .bool true]) ∧ w = w' := fun w hw => by
    have := days_any 2026 11 16 w hw
    rw [show daysZ 2026 11 16 = 20773 by decide +kernel, show daysB 2026 11 16 = true by decide +kernel] at this
    exact this
  have c2 : ∀ w, Tab w → Calls Tryd.prog 10 #[.int .i64 2100, .int .i64 2, .int .i64 29] w fun e w' => e = .returned (.tuple #[.int .i64 0, .bool false]) ∧ w = w' := fun w hw => by
    have := days_any 2100 2 29 w hw
    rw [show daysZ 2100 2 29 = 0 by decide +kernel, show daysB 2100 2 29 = false by decide +kernel] at this
    exact this
  have c3 : ∀ w, Tab w → Calls Tryd.prog 19 #[.string { data := #[49, 57, 55, 48, 45, 48, 49, 45, 48, 50, 84, 48, 48, 58, 48, 49] }] w fun e w' => e = .returned (.tuple #[.int .i64 1441, .int .i64 0]) ∧ Below w.heap.size w w' := fun w hw => by
    have := parse_any { data := #[49, 57, 55, 48, 45, 48, 49, 45, 48, 50, 84, 48, 48, 58, 48, 49] } w hw
    rw [show parseZ { data := #[49, 57, 55, 48, 45, 48, 49, 45, 48, 50, 84, 48, 48, 58, 48, 49] } = 1441 by decide +kernel, show parseE { data := #[49, 57, 55, 48, 45, 48, 49, 45, 48, 50, 84, 48, 48, 58, 48, 49] } = 0 by decide +kernel] at this
    exact this
  have c4 : ∀ w, Calls Tryd.prog 15 #[.int .i64 0] w fun e w' => e = .returned (.int .i64 3) ∧ w = w' := fun w => weekday_any 0 w
  have C1 := Lib.hid c1
  have C2 := Lib.hid c2
  have C3 := Lib.hid c3
  have C4 := Lib.hid c4
  have HT := Lib.hid ht
  clear c1 c2 c3 c4 ht
  go_enter Tryd.func12, Tryd.ntmps12
  go_wp2_with fail
  refine (C1.out _ HT.out).mono ?_
  rintro e w' ⟨rfl, rfl⟩
  go_wp2_with fail
  refine (C2.out _ HT.out).mono ?_
  rintro e w' ⟨rfl, rfl⟩
  go_wp2_with fail
  refine (C3.out _ HT.out).mono ?_
  rintro e w' ⟨rfl, hb⟩
  go_wp2_with fail
  refine (C4.out _).mono ?_
  rintro e w2 ⟨rfl, rfl⟩
  go_wp2_with fail
  go_ret
  exact ⟨rfl, hb⟩

theorem and_24 (x : Int) : bits .and .i64 x 16777215 = x % 16777216 := by
  have h := and_mask x 24 16777215 rfl (by omega)
  simp only [Nat.reducePow] at h
  rw [show ((16777215 : Nat) : Int) = 16777215 from rfl] at h
  omega

set_option maxRecDepth 100000 in
theorem weeks_walk (a : Int) (_ : -9223372036854775808 ≤ a) (_ : a ≤ 9223372036854775807) (b : Int) (_ : -9223372036854775808 ≤ b) (_ : b ≤ 9223372036854775807) (w : World) (ht : Tab w) :
    Calls Tryd.prog 5 #[.int .i64 a, .int .i64 b] w fun e w' => e = .returned (.bool true) ∧ Below w.heap.size w w' := by
  have b24 := and_24
  obtain ⟨m, hm⟩ : ∃ m : Nat, b % 16777216 % 399994 = (m : Int) := ⟨(b % 16777216 % 399994).toNat, by omega⟩
  have hm9 : m ≤ 399993 := by omega
  have c1 := fun W => weekday_any a W
  have c2 := fun W => rweekday_any a W
  have c3 := fun W => weekday_any m W
  have c4 := fun W => rweekday_any m W
  have c5 := fun W => weekday_any ((m : Int) + 7) W
  have c6 := fun W => weekday_any ((m : Int) + 1) W
  have e1 : weekZ ((m : Int) + 7) = weekZ m := by
    unfold weekZ
    rw [if_pos (by omega), if_pos (by omega)]
    omega
  have e2 : ¬ weekZ ((m : Int) + 1) = weekZ m := by
    unfold weekZ
    rw [if_pos (by omega), if_pos (by omega)]
    omega
  rw [e1] at c5
  generalize weekZ a = x at *
  generalize weekZ ((m : Int) + 1) = z at *
  generalize weekZ (m : Int) = y at *
  have C1 := Lib.hid c1
  have C2 := Lib.hid c2
  have C3 := Lib.hid c3
  have C4 := Lib.hid c4
  have C5 := Lib.hid c5
  have C6 := Lib.hid c6
  clear c1 c2 c3 c4 c5 c6 e1
  have HT := Lib.hid ht
  clear ht
  go_enter Tryd.func5, Tryd.ntmps5
  go_wp2_with fail
  refine (C1.out _).mono ?_
  rintro e w' ⟨rfl, rfl⟩
  go_wp2_with fail
  refine (C2.out _).mono ?_
  rintro e w' ⟨rfl, rfl⟩
  go_wp2_with fail
  refine (C3.out _).mono ?_
  rintro e w' ⟨rfl, rfl⟩
  go_wp2_with fail
  refine (C4.out _).mono ?_
  rintro e w' ⟨rfl, rfl⟩
  go_wp2_with fail
  refine (C5.out _).mono ?_
  rintro e w' ⟨rfl, rfl⟩
  go_wp2_with fail
  refine (C3.out _).mono ?_
  rintro e w' ⟨rfl, rfl⟩
  go_wp2_with fail
  refine (C6.out _).mono ?_
  rintro e w' ⟨rfl, rfl⟩
  go_wp2_with fail
  refine (C3.out _).mono ?_
  rintro e w' ⟨rfl, rfl⟩
  go_wp2_with fail
  refine (known_any _ HT.out).mono ?_
  rintro e w' ⟨rfl, hb⟩
  go_wp2_with fail
  go_ret
  exact ⟨ret_bool (bne_iff_ne.2 e2), hb⟩

end Go.Proofs.YtfeaflbohfclmaaDoor
