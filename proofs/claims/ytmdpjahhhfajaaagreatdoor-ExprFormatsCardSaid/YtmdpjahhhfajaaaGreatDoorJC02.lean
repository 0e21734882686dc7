/-
  What the small functions of layer 3 and of its reference return. · Days, of civil and of its reference. · What hasForm and number of civil, and digits of its reference, return. · Parse, of civil and of its reference. · Parse of the reference.
-/
import Derived.Test.YtmdpjahhhfajaaaGreatDoorRows
import Derived.Test.YtmdpjahhhfajaaaGreatDoorJC01
import Derived.WalkKit
import Derived.WalkLawsBesides
import Derived.WalkSpells
import Derived.Outline
import Derived.BigQuiet
import Derived.IntWalk
import Derived.Deep.QuietTactic
import Derived.Lib.Hide
import Derived.Below
import Derived.LoopTactic
import Derived.Deep.RegionWith
set_option linter.unusedVariables false
namespace Go.Proofs.YtmdpjahhhfajaaaGreatDoor
open Go.RowKit Wh
def tab : List Int := [31, 28, 31, 30, 31, 30, 31, 31, 30, 31, 30, 31]
def Tab (w : World) : Prop := 6 < w.heap.size ∧ ∀ i : Nat, i < 12 → w.cell? ⟨6, i, none⟩ = some (.int .i64 (tab.getD i 0))
theorem Tab.below {w w' : World} {B : Nat} (h : Tab w) (hb : Below B w w') (hB : w.heap.size ≤ B) : Tab w' :=
 ⟨Nat.lt_of_lt_of_le h.1 hb.size, fun i hi => by rw [hb.cell (p := ⟨6, i, none⟩) (Nat.lt_of_lt_of_le h.1 hB)]; exact h.2 i hi⟩
theorem tab_len (y : Int) {k : Nat} (hk : k < 12) (h : ((k : Int) + 1 == 2 && leapB y) = false) : tab.getD k 0 = lenZ y ((k : Int) + 1) := by
 have e : ¬ k = 1 ∨ leapB y = false := by
  rcases Bool.and_eq_false_iff.1 h with h | h
  ·left; intro e; subst e; simp at h
  ·exact .inr h
 rcases (show k = 0 ∨ k = 1 ∨ k = 2 ∨ k = 3 ∨ k = 4 ∨ k = 5 ∨ k = 6 ∨ k = 7 ∨ k = 8 ∨ k = 9 ∨ k = 10 ∨ k = 11 by omega) with rfl | rfl | rfl | rfl | rfl | rfl | rfl | rfl | rfl | rfl | rfl | rfl
 all_goals first
  | (simp [tab, lenZ]; done)
  | (rcases e with e | e <;> simp_all [tab, lenZ, leapZ])
theorem isDay_any (x : Int) (w : World) :
  Calls Tryz.prog 203 #[.int .i64 x] w fun e w' => e = .returned (.bool (decide (0 ≤ x) && decide (x ≤ 400000))) ∧ w = w' := by
 go_enter Tryz.func203, Tryz.ntmps203
 go_wp2
 all_goals
  go_ret
  refine ⟨ret_bool ?_, rfl⟩
  simp_all
  try omega
theorem isLeap_any (y : Int) (h0 : 0 ≤ y) (h1 : y ≤ 1000000000) (w : World) :
  Calls Tryz.prog 221 #[.int .i64 y] w fun e w' => e = .returned (.bool (leapB y)) ∧ w = w' := by
 go_enter Tryz.func221, Tryz.ntmps221
 go_wp2
 all_goals
  go_ret
  refine ⟨ret_bool ?_, rfl⟩
  unfold leapB
  simp_all
  try (first | rfl | omega)
theorem rleap_any (y : Int) (h0 : 0 ≤ y) (h1 : y ≤ 1000000000) (w : World) :
  Calls Tryz.prog 137 #[.int .i64 y] w fun e w' => e = .returned (.bool (leapB y)) ∧ w = w' := by
 go_enter Tryz.func137, Tryz.ntmps137
 go_wp2
 all_goals
  go_ret
  refine ⟨ret_bool ?_, rfl⟩
  unfold leapB
  simp_all
  try (first | rfl | omega)
theorem leapYears_any (y : Int) (h0 : 0 ≤ y) (h1 : y ≤ 1000000000) (w : World) :
  Calls Tryz.prog 222 #[.int .i64 y] w fun e w' => e = .returned (.int .i64 (lyZ y)) ∧ w = w' := by
 go_enter Tryz.func222, Tryz.ntmps222
 go_wp2
 go_ret
 exact ⟨rfl, rfl⟩
theorem daysBefore_any (y : Int) (h0 : 1970 ≤ y) (h1 : y ≤ 1000000) (w : World) :
  Calls Tryz.prog 202 #[.int .i64 y] w fun e w' => e = .returned (.int .i64 (yzZ y)) ∧ w = w' := by
 have hz : yzZ y = (y - 1970) * 365 + lyZ (y - 1) - 477 := rfl
 have HZ := Lib.hid hz
 clear hz
 have c1 := fun W => leapYears_any (y - 1) (by omega) (by omega) W
 have c2 := fun W => leapYears_any 1969 (by omega) (by omega) W
 rw [show lyZ 1969 = 477 by decide] at c2
 have hb : -1000000 ≤ lyZ (y - 1) ∧ lyZ (y - 1) ≤ 1000000 := by unfold lyZ; omega
 generalize lyZ (y - 1) = a at *
 have C1 := Lib.hid c1
 have C2 := Lib.hid c2
 clear c1 c2
 go_enter Tryz.func202, Tryz.ntmps202
 go_wp2_with fail
 refine (C1.out _).mono ?_
 rintro e w' ⟨rfl, rfl⟩
 go_wp2_with fail
 refine (C2.out _).mono ?_
 rintro e w' ⟨rfl, rfl⟩
 go_wp2_with fail
 go_ret
 exact ⟨ret_int HZ.out.symm, rfl⟩
theorem monthLength_any (y : Int) (k : Nat) (h0 : 0 ≤ y) (h1 : y ≤ 1000000000) (hk : k < 12) (w : World) (ht : Tab w) :
  Calls Tryz.prog 201 #[.int .i64 y, .int .i64 ((k : Int) + 1)] w fun e w' => e = .returned (.int .i64 (lenZ y ((k : Int) + 1))) ∧ w = w' := by
 have hc := ht.2 k hk
 by_cases hl : ((k : Int) + 1 == 2 && leapB y) = true
 ·simp only [Bool.and_eq_true, beq_iff_eq] at hl
  obtain ⟨h2, h3⟩ := hl
  obtain rfl : k = 1 := by omega
  have hz : lenZ y (((1 : Nat) : Int) + 1) = 29 := by unfold lenZ leapZ; rw [h3]; rfl
  have HZ := Lib.hid hz
  clear hz hc
  go_enter Tryz.func201, Tryz.ntmps201
  go_wp2_with (go_at_call 221; refine (isLeap_any _ h0 h1 _).mono ?_; rintro e w' ⟨rfl, rfl⟩)
  go_ret
  exact ⟨ret_int HZ.out.symm, rfl⟩
 ·have hf : ((k : Int) + 1 == 2 && leapB y) = false := by simpa using hl
  have HZ := Lib.hid (tab_len y hk hf)
  have hl2 : (k : Int) + 1 = 2 → leapB y = false := by
   intro e
   rw [e] at hf
   simpa using hf
  clear hl hf
  by_cases e2 : k = 1
  ·subst e2
   have h3 := hl2 rfl
   clear hl2
   go_enter Tryz.func201, Tryz.ntmps201
   go_wp2_with (go_at_call 221; refine (isLeap_any _ h0 h1 _).mono ?_; rintro e w' ⟨rfl, rfl⟩)
   go_ret
   exact ⟨ret_int HZ.out, rfl⟩
  ·clear hl2
   go_enter Tryz.func201, Tryz.ntmps201
   go_wp2_with fail
   go_ret
   exact ⟨ret_int HZ.out, rfl⟩
theorem rlength_any (y m : Int) (h0 : 0 ≤ y) (h1 : y ≤ 1000000000) (w : World) :
  Calls Tryz.prog 136 #[.int .i64 y, .int .i64 m] w fun e w' => e = .returned (.int .i64 (lenZ y m)) ∧ w = w' := by
 have hz : lenZ y m = if m = 2 then 28 + (if leapB y = true then 1 else 0) else if m = 4 ∨ m = 6 ∨ m = 9 ∨ m = 11 then 30 else 31 := rfl
 have HZ := Lib.hid hz
 clear hz
 cases hl : leapB y
 all_goals
  go_enter Tryz.func136, Tryz.ntmps136
  go_wp2_with (go_at_call 137; refine (rleap_any _ h0 h1 _).mono ?_; rintro e w' ⟨rfl, rfl⟩)
  all_goals
   go_ret
   refine ⟨ret_int ?_, rfl⟩
   rw [HZ.out, hl]
   simp_all
end Go.Proofs.YtmdpjahhhfajaaaGreatDoor
namespace Go.Proofs.YtmdpjahhhfajaaaGreatDoor
open Go.RowKit Wh
theorem days_bad (y m d : Int) (h : y < 1970 ∨ 3065 < y ∨ m < 1 ∨ 12 < m) (w : World) :
  Calls Tryz.prog 180 #[.int .i64 y, .int .i64 m, .int .i64 d] w (IsPair 0 false w) := by
 rcases (show y < 1970 ∨ (1970 ≤ y ∧ 3065 < y) ∨ (1970 ≤ y ∧ y ≤ 3065 ∧ m < 1) ∨ (1970 ≤ y ∧ y ≤ 3065 ∧ 1 ≤ m ∧ 12 < m) by omega) with h1 | ⟨h1, h2⟩ | ⟨h1, h2, h3⟩ | ⟨h1, h2, h3, h4⟩
 all_goals
  clear h
  go_enter Tryz.func180, Tryz.ntmps180
  go_wp2_with fail
  go_ret2
  exact ⟨rfl, rfl⟩
theorem days_short (y : Int) (k : Nat) (d : Int) (h0 : 1970 ≤ y) (h1 : y ≤ 3065) (hk : k < 12) (h : d < 1 ∨ lenZ y ((k : Int) + 1) < d) (w : World) (ht : Tab w) :
  Calls Tryz.prog 180 #[.int .i64 y, .int .i64 ((k : Int) + 1), .int .i64 d] w (IsPair 0 false w) := by
 have c1 := fun W hW => monthLength_any y k (by omega) (by omega) hk W hW
 have HT := Lib.hid ht
 clear ht
 generalize lenZ y ((k : Int) + 1) = l at *
 have C1 := Lib.hid c1
 clear c1
 by_cases hd : d < 1
 all_goals
  go_enter Tryz.func180, Tryz.ntmps180
  go_wp2_with (go_at_call 201; refine (C1.out _ HT.out).mono ?_; rintro e w' ⟨rfl, rfl⟩)
  go_ret2
  exact ⟨rfl, rfl⟩
theorem days_in (y : Int) (k : Nat) (d : Int) (h0 : 1970 ≤ y) (h1 : y ≤ 3065) (hk : k < 12) (hd0 : 1 ≤ d) (hd1 : d ≤ lenZ y ((k : Int) + 1)) (w : World) (ht : Tab w) :
  Calls Tryz.prog 180 #[.int .i64 y, .int .i64 ((k : Int) + 1), .int .i64 d] w (IsPair (if dayZ y k d ≤ 400000 then dayZ y k d else 0) (decide (dayZ y k d ≤ 400000)) w) := by
 have c1 := fun W hW => monthLength_any y k (by omega) (by omega) hk W hW
 have c2 := fun W => daysBefore_any y h0 (by omega) W
 have hz : dayZ y k d = yzZ y + msZ y k + d - 1 := rfl
 have y0 := yzZ_low h0
 have y1 := yzZ_high h0
 have hl := lenZ_bd y ((k : Int) + 1)
 have HT := Lib.hid ht
 clear ht
 generalize yzZ y = Y at *
 generalize dayZ y k d = n at *
 have hl1 : d ≤ 31 := by omega
 have C1 := Lib.hid c1
 have C2 := Lib.hid c2
 have HZ := Lib.hid hz
 clear c1 c2 hz
 generalize ez : (if n ≤ 400000 then n else 0) = z
 generalize eb : decide (n ≤ 400000) = b
 have EZ := Lib.hid ez
 have EB := Lib.hid eb
 clear ez eb
 go_enter Tryz.func180, Tryz.ntmps180
 go_wp2_with (first | (go_at_call 201; refine (C1.out _ HT.out).mono ?_; rintro e w' ⟨rfl, rfl⟩) | (go_at_call 202; refine (C2.out _).mono ?_; rintro e w' ⟨rfl, rfl⟩))
 clear hd1 hl
 go_loop [8, 9] (fun s i => ∃ j : Nat, j ≤ k ∧ i = .int .i64 ((j : Int) + 1) ∧ s = .int .i64 (Y + d - 1 + msZ y j)) (fun _ i => k + 1 - (intOf i).toNat)
 case atStart => exact ⟨0, Nat.zero_le _, rfl, by simp [msZ]⟩
 case round =>
  obtain ⟨j, hj, rfl, rfl⟩ := hrel
  have b0 := msZ_low y j
  have b1 := msZ_high y j
  by_cases hlt : j < k
  ·have hs : msZ y (j + 1) = msZ y j + lenZ y ((j : Int) + 1) := rfl
   have c3 := fun W hW => monthLength_any y j (by omega) (by omega) (by omega) W hW
   have hl2 := lenZ_bd y ((j : Int) + 1)
   generalize lenZ y ((j : Int) + 1) = l at *
   generalize msZ y j = s at *
   have C3 := Lib.hid c3
   have HS := Lib.hid hs
   clear c3 hs
   go_wp2_with (go_at_call 201; refine (C3.out _ HT.out).mono ?_; rintro e w' ⟨rfl, rfl⟩)
   go_round
   case rel => exact ⟨j + 1, by omega, by go_num, by rw [HS.out]; go_num⟩
   case measure => simp [intOf]; omega
  ·obtain rfl : j = k := by omega
   have hn : n = Y + d - 1 + msZ y j := by have := HZ.out; omega
   generalize msZ y j = s at *
   have hn0 : 0 ≤ n := by omega
   have hn1 : n ≤ 2000000 := by omega
   rw [show Y + d - 1 + s = n from hn.symm]
   have e0 : decide (0 ≤ n) = true := decide_eq_true hn0
   clear hn C1 C2 HZ b0 b1 y0 y1
   by_cases hm : n ≤ 400000
   ·have e1 : decide (n ≤ 400000) = true := decide_eq_true hm
    go_wp2_with (go_at_call 203; refine (isDay_any _ _).mono ?_; rintro e w' ⟨rfl, rfl⟩)
    go_ret2
    exact ⟨ret_pair (by rw [← EZ.out, if_pos (by omega)]) (by rw [← EB.out, e1]), rfl⟩
   ·have e1 : decide (n ≤ 400000) = false := decide_eq_false hm
    go_wp2_with (go_at_call 203; refine (isDay_any _ _).mono ?_; rintro e w' ⟨rfl, rfl⟩)
    go_ret2
    exact ⟨ret_pair (by rw [← EZ.out, if_neg (by omega)]) (by rw [← EB.out, e1]), rfl⟩
theorem days_any (y m d : Int) (w : World) (ht : Tab w) :
  Calls Tryz.prog 180 #[.int .i64 y, .int .i64 m, .int .i64 d] w (IsPair (daysZ y m d) (daysB y m d) w) := by
 by_cases h : y < 1970 ∨ 3065 < y ∨ m < 1 ∨ 12 < m
 ·have e := daysB_out (y := y) (m := m) (d := d) (by omega)
  rw [daysZ_no e, e]
  exact days_bad y m d h w
 ·obtain ⟨k, rfl⟩ : ∃ k : Nat, m = (k : Int) + 1 := ⟨(m - 1).toNat, by omega⟩
  have ek : ((k : Int) + 1 - 1).toNat = k := by omega
  by_cases hd : d < 1 ∨ lenZ y ((k : Int) + 1) < d
  ·have e := daysB_out (y := y) (m := (k : Int) + 1) (d := d) (by omega)
   rw [daysZ_no e, e]
   exact days_short y k d (by omega) (by omega) (by omega) hd w ht
  ·have h2 := days_in y k d (by omega) (by omega) (by omega) (by omega) (by omega) w ht
   by_cases hm : dayZ y k d ≤ 400000
   ·obtain ⟨e1, e2⟩ := daysB_of (y := y) (k := k) (d := d) ⟨by omega, by omega, by omega, by omega, hm⟩
    rw [e1, e2]
    rw [if_pos hm, decide_eq_true hm] at h2
    exact h2
   ·have e : daysB y ((k : Int) + 1) d = false := by
     cases e : daysB y ((k : Int) + 1) d with
     | false => rfl
     | true =>
      exfalso
      obtain ⟨l, e1, e2, _⟩ := daysB_dt e
      obtain rfl : k = l := by omega
      exact hm e2.n1
    rw [daysZ_no e, e]
    rw [if_neg hm, decide_eq_false hm] at h2
    exact h2
end Go.Proofs.YtmdpjahhhfajaaaGreatDoor
namespace Wh
def okAt (i x : Nat) : Bool :=
 if i = 4 ∨ i = 7 then decide (x = 45) else if i = 10 then decide (x = 84) else if i = 13 then decide (x = 58) else decide (48 ≤ x) && decide (x ≤ 57)
def patAt (i : Nat) : Nat := if i = 4 ∨ i = 7 then 45 else if i = 10 then 84 else if i = 13 then 58 else 48
def pat : ByteArray := { data := #[48, 48, 48, 48, 45, 48, 48, 45, 48, 48, 84, 48, 48, 58, 48, 48] }
theorem pat_at : ∀ i, i < 16 → btN pat i = patAt i := by decide
def formB (s : ByteArray) : Bool := decide (s.size = 16) && (List.range 16).all fun i => okAt i (btN s i)
theorem formB_size {s : ByteArray} (h : ¬ s.size = 16) : formB s = false := by unfold formB; rw [decide_eq_false h]; rfl
theorem formB_no {s : ByteArray} {i : Nat} (hi : i < 16) (h : okAt i (btN s i) = false) : formB s = false := by
 unfold formB
 rw [Bool.and_eq_false_iff]
 right
 rw [List.all_eq_false]
 exact ⟨i, List.mem_range.2 hi, by simp [h]⟩
theorem formB_yes {s : ByteArray} (hs : s.size = 16) (h : ∀ i, i < 16 → okAt i (btN s i) = true) : formB s = true := by
 unfold formB
 rw [decide_eq_true hs, List.all_eq_true.2 fun i hi => h i (List.mem_range.1 hi)]
 rfl
theorem formB_all {s : ByteArray} (h : formB s = true) : s.size = 16 ∧ ∀ i, i < 16 → okAt i (btN s i) = true := by
 unfold formB at h
 rw [Bool.and_eq_true, decide_eq_true_eq, List.all_eq_true] at h
 exact ⟨h.1, fun i hi => h.2 i (List.mem_range.2 hi)⟩
def numAt (s : ByteArray) (a : Nat) : Nat → Int
 | 0 => 0
 | k + 1 => numAt s a k * 10 + ((btN s (a + k) : Int) - 48)
def digAt (s : ByteArray) (a k : Nat) : Bool := (List.range k).all fun i => decide (48 ≤ btN s (a + i)) && decide (btN s (a + i) ≤ 57)
theorem digAt_at {s : ByteArray} {a k : Nat} (h : digAt s a k = true) {i : Nat} (hi : i < k) : 48 ≤ btN s (a + i) ∧ btN s (a + i) ≤ 57 := by
 have := List.all_eq_true.1 h i (List.mem_range.2 hi)
 simpa using this
theorem digAt_of {s : ByteArray} {a k : Nat} (h : ∀ i, i < k → 48 ≤ btN s (a + i) ∧ btN s (a + i) ≤ 57) : digAt s a k = true := by
 unfold digAt
 rw [List.all_eq_true]
 intro i hi
 have := h i (List.mem_range.1 hi)
 simpa using this
theorem digAt_le {s : ByteArray} {a k j : Nat} (h : digAt s a k = true) (hj : j ≤ k) : digAt s a j = true := digAt_of fun i hi => digAt_at h (by omega)
theorem numAt_bd {s : ByteArray} {a : Nat} : ∀ {k : Nat}, k ≤ 4 → digAt s a k = true → 0 ≤ numAt s a k ∧ numAt s a k + 1 ≤ 10 ^ k
 | 0, _, _ => by simp [numAt]
 | k + 1, hk, h => by
  have ih := numAt_bd (by omega) (digAt_le h (Nat.le_succ k))
  have hx := digAt_at h (Nat.lt_succ_self k)
  simp only [numAt]
  have e : (10 : Int) ^ (k + 1) = 10 ^ k * 10 := Int.pow_succ ..
  rw [e]
  generalize (10 : Int) ^ k = p at *
  omega
theorem numAt_extract {s : ByteArray} {a b : Nat} : ∀ {k : Nat}, k ≤ b - a → numAt (s.extract a b) 0 k = numAt s a k
 | 0, _ => rfl
 | k + 1, h => by
  simp only [numAt]
  rw [numAt_extract (k := k) (by omega), btN_extract s a b (0 + k) (by omega)]
  simp
theorem digAt_extract {s : ByteArray} {a b k : Nat} (h : k ≤ b - a) : digAt (s.extract a b) 0 k = digAt s a k := by
 unfold digAt
 rw [Bool.eq_iff_iff, List.all_eq_true, List.all_eq_true]
 constructor
 all_goals
  intro hh i hi
  have hi2 := List.mem_range.1 hi
  have := hh i hi
  rw [btN_extract s a b (0 + i) (by omega), Nat.zero_add] at *
  exact this
end Wh
namespace Go.Proofs.YtmdpjahhhfajaaaGreatDoor
open Go.RowKit Wh
theorem hasForm_size (s : ByteArray) (h : ¬ s.size = 16) (w : World) :
  Calls Tryz.prog 178 #[.string s] w fun e w' => e = .returned (.bool false) ∧ w = w' := by
 have h2 : ¬ (s.size : Int) = 16 := by omega
 clear h
 go_enter Tryz.func178, Tryz.ntmps178
 go_wp2_with fail
 go_ret
 exact ⟨rfl, rfl⟩
theorem okAt_cases {i x : Nat} (hi : i < 16) : (patAt i = 48 ∧ okAt i x = (decide (48 ≤ x) && decide (x ≤ 57))) ∨ (patAt i ≠ 48 ∧ patAt i < 256 ∧ okAt i x = decide (x = patAt i)) := by
 unfold patAt okAt
 by_cases h1 : i = 4 ∨ i = 7
 ·right; simp [h1]
 ·by_cases h2 : i = 10
  ·right; subst h2; simp
  ·by_cases h3 : i = 13
   ·right; subst h3; simp
   ·left; simp [h1, h2, h3]
theorem hasForm_any (s : ByteArray) (w : World) :
  Calls Tryz.prog 178 #[.string s] w fun e w' => e = .returned (.bool (formB s)) ∧ Below w.heap.size w w' := by
 by_cases hs : s.size = 16
 case neg =>
  rw [formB_size hs]
  exact (hasForm_size s hs w).mono fun e w' ⟨h1, h2⟩ => ⟨h1, h2 ▸ Below.refl _ _⟩
 have hs2 : (s.size : Int) = 16 := by omega
 have N := Lib.hid (fun i hi h => formB_no (s := s) (i := i) hi h)
 have Y := Lib.hid (fun h => formB_yes (s := s) hs h)
 have ix := fun i hi W => index_str s i (by omega : i < s.size) W
 have ip := fun i (hi : i < 16) W => index_str pat i (show i < pat.size from hi) W
 have IX := Lib.hid ix
 have IP := Lib.hid ip
 clear ix ip
 generalize formB s = b at *
 go_enter Tryz.func178, Tryz.ntmps178
 go_wp2_with fail
 go_loopw [7] (fun iv wr => ∃ i : Nat, i ≤ 16 ∧ iv = .int .i64 i ∧ Hid (∀ j, j < i → okAt j (btN s j) = true) ∧ Below w.heap.size w wr) (fun iv _ => 16 - (intOf iv).toNat)
 case atStart => exact ⟨0, by omega, rfl, fun j hj => absurd hj (Nat.not_lt_zero j), Below.refl _ _⟩
 case round =>
  obtain ⟨i, hi, rfl, HJ, hbel⟩ := hrel
  have HB := Lib.hid hbel
  clear hbel
  by_cases hlt : i < 16
  ·have hx := IX.out i (by omega)
   have hp := IP.out i hlt
   rw [pat_at i hlt] at hp
   have N2 := Lib.hid (N.out i hlt)
   have Y2 := Lib.hid (fun (h : okAt i (btN s i) = true) => (fun (j : Nat) (hj : j < i + 1) => if e : j = i then e ▸ h else HJ.out j (by omega) : ∀ j, j < i + 1 → okAt j (btN s j) = true))
   have hl := btN_lt s i
   have hc := okAt_cases (i := i) (x := btN s i) hlt
   generalize btN s i = x at *
   clear IX IP N HJ
   unfold pat at hp
   rcases hc with ⟨h1, h2⟩ | ⟨h1, h3, h2⟩
   ·rw [h1] at hp
    rw [h2] at N2 Y2
    clear h1 h2
    by_cases hx2 : x < 48 ∨ 57 < x
    ·have e := N2.out (by simp; omega)
     subst e
     clear N2 Y2 Y
     rcases (show x < 48 ∨ (48 ≤ x ∧ 57 < x) by omega) with h1 | ⟨h1, h2⟩
     all_goals
      clear hx2
      go_wp2_with fail
      go_ret
      exact ⟨rfl, HB.out⟩
    ·have HJ2 := Lib.hid (Y2.out (by simp; omega))
     have h1 : 48 ≤ x := by omega
     have h2 : x ≤ 57 := by omega
     clear N2 Y2 Y hx2
     go_wp2_with fail
     go_roundw
     case rel => exact ⟨i + 1, by omega, by go_num, HJ2, HB.out⟩
     case measure => simp [intOf]; omega
   ·rw [h2] at N2 Y2
    clear h2
    generalize patAt i = p at *
    have hpz : ((p : Int) == 48) = false := beq_eq_false_iff_ne.2 (by omega)
    by_cases hx2 : x = p
    ·have HJ2 := Lib.hid (Y2.out (by simpa using hx2))
     subst hx2
     clear N2 Y2 Y
     have hq : ((x : Int) == (x : Int)) = true := by simp
     go_wp2_with fail
     go_quiet (fail)
     go_wp2_with fail
     go_roundw
     case rel => exact ⟨i + 1, by omega, by go_num, HJ2, below_drewN HB.out _⟩
     case measure => simp [intOf]; omega
    ·have e := N2.out (by simpa using hx2)
     subst e
     clear N2 Y2 Y
     have hq : ((x : Int) == (p : Int)) = false := beq_eq_false_iff_ne.2 (by omega)
     go_wp2_with fail
     go_quiet (fail)
     go_wp2_with fail
     go_ret
     exact ⟨rfl, below_drewN HB.out _⟩
  ·obtain rfl : i = 16 := by omega
   have e := Y.out HJ.out
   subst e
   clear N Y IX IP
   go_wp2_with fail
   go_ret
   exact ⟨rfl, HB.out⟩
theorem number_any (s : ByteArray) (k : Nat) (hk : k ≤ 4) (hs : s.size = k) (hd : digAt s 0 k = true) (w : World) :
  Calls Tryz.prog 179 #[.string s] w fun e w' => e = .returned (.int .i64 (numAt s 0 k)) ∧ w = w' := by
 have hs2 : (s.size : Int) = k := by omega
 have D := Lib.hid hd
 have IX := Lib.hid (fun i (hi : i < k) W => index_str s i (by omega : i < s.size) W)
 clear hd
 go_enter Tryz.func179, Tryz.ntmps179
 go_wp2_with fail
 go_loop [3, 7] (fun n i => ∃ j : Nat, j ≤ k ∧ i = .int .i64 j ∧ n = .int .i64 (numAt s 0 j)) (fun _ i => k - (intOf i).toNat)
 case atStart => exact ⟨0, by omega, rfl, rfl⟩
 case round =>
  obtain ⟨j, hj, rfl, rfl⟩ := hrel
  by_cases hlt : j < k
  ·have hx := digAt_at D.out hlt
   have hi := IX.out j hlt
   have hb := numAt_bd (by omega) (digAt_le D.out hj)
   have hp : (10 : Int) ^ j ≤ 1000 := by
    rcases (show j = 0 ∨ j = 1 ∨ j = 2 ∨ j = 3 by omega) with rfl | rfl | rfl | rfl <;> decide
   have hn : numAt s 0 (j + 1) = numAt s 0 j * 10 + ((btN s (0 + j) : Int) - 48) := rfl
   rw [Nat.zero_add] at hn hx
   generalize numAt s 0 j = n at *
   generalize btN s j = x at *
   have hb0 := hb.1
   have hb1 : n ≤ 999 := by omega
   have HN := Lib.hid hn
   clear hb hp hn IX
   go_wp2_with fail
   go_round
   case rel => exact ⟨j + 1, by omega, by go_num, by rw [HN.out]⟩
   case measure => simp [intOf]; omega
  ·obtain rfl : j = k := by omega
   go_wp2_with fail
   go_ret
   exact ⟨rfl, rfl⟩
end Go.Proofs.YtmdpjahhhfajaaaGreatDoor
namespace Wh
def minZ (y mo d h mi : Int) : Int := daysZ y mo d * 1440 + h * 60 + mi
def partE (y mo d h mi : Int) : Int := if 24 ≤ h ∨ 60 ≤ mi ∨ daysB y mo d = false ∨ 575999999 < minZ y mo d h mi then 1 else 0
def partZ (y mo d h mi : Int) : Int := if partE y mo d h mi = 0 then minZ y mo d h mi else 0
theorem part_bad {y mo d h mi : Int} (hh : 24 ≤ h ∨ 60 ≤ mi ∨ daysB y mo d = false ∨ 575999999 < minZ y mo d h mi) : partE y mo d h mi = 1 ∧ partZ y mo d h mi = 0 := by
 have e : partE y mo d h mi = 1 := by unfold partE; rw [if_pos hh]
 exact ⟨e, by unfold partZ; rw [e]; rfl⟩
theorem part_good {y mo d h mi : Int} (h1 : h < 24) (h2 : mi < 60) (h3 : daysB y mo d = true) (h4 : minZ y mo d h mi ≤ 575999999) : partE y mo d h mi = 0 ∧ partZ y mo d h mi = minZ y mo d h mi := by
 have e : partE y mo d h mi = 0 := by
  unfold partE
  rw [if_neg]
  rintro (h | h | h | h)
  ·omega
  ·omega
  ·rw [h3] at h; cases h
  ·omega
 exact ⟨e, by unfold partZ; rw [e]; rfl⟩
def parseE (s : ByteArray) : Int := if formB s = true then partE (numAt s 0 4) (numAt s 5 2) (numAt s 8 2) (numAt s 11 2) (numAt s 14 2) else 3
def parseZ (s : ByteArray) : Int := if formB s = true then partZ (numAt s 0 4) (numAt s 5 2) (numAt s 8 2) (numAt s 11 2) (numAt s 14 2) else 0
theorem form_digits {s : ByteArray} (h : formB s = true) : digAt s 0 4 = true ∧ digAt s 5 2 = true ∧ digAt s 8 2 = true ∧ digAt s 11 2 = true ∧ digAt s 14 2 = true := by
 have a := (formB_all h).2
 refine ⟨digAt_of fun i hi => ?_, digAt_of fun i hi => ?_, digAt_of fun i hi => ?_, digAt_of fun i hi => ?_, digAt_of fun i hi => ?_⟩
 ·have := a (0 + i) (by omega)
  unfold okAt at this
  rw [if_neg (by omega), if_neg (by omega), if_neg (by omega)] at this
  simpa using this
 ·have := a (5 + i) (by omega)
  unfold okAt at this
  rw [if_neg (by omega), if_neg (by omega), if_neg (by omega)] at this
  simpa using this
 ·have := a (8 + i) (by omega)
  unfold okAt at this
  rw [if_neg (by omega), if_neg (by omega), if_neg (by omega)] at this
  simpa using this
 ·have := a (11 + i) (by omega)
  unfold okAt at this
  rw [if_neg (by omega), if_neg (by omega), if_neg (by omega)] at this
  simpa using this
 ·have := a (14 + i) (by omega)
  unfold okAt at this
  rw [if_neg (by omega), if_neg (by omega), if_neg (by omega)] at this
  simpa using this
theorem daysZ_bd (y m d : Int) : 0 ≤ daysZ y m d ∧ daysZ y m d ≤ 400000 := by
 cases h : daysB y m d with
 | false => rw [daysZ_no h]; omega
 | true =>
  obtain ⟨k, _, hd, e⟩ := daysB_dt h
  rw [e]
  exact ⟨hd.n0, hd.n1⟩
end Wh
namespace Go.Proofs.YtmdpjahhhfajaaaGreatDoor
open Go.RowKit Wh
def IsErr (z x : Int) (w : World) (e : Ending) (w' : World) : Prop := e = .returned (.tuple #[.int .i64 z, .int .i64 x]) ∧ Below w.heap.size w w'
theorem ret_err {a b x y : Int} (h : a = b) (g : x = y) : Ending.returned (.tuple #[.int .i64 a, .int .i64 x]) = .returned (.tuple #[.int .i64 b, .int .i64 y]) := by rw [h, g]
theorem number_at (s : ByteArray) (a k : Nat) (hk : k ≤ 4) (hs : a + k ≤ s.size) (hd : digAt s a k = true) (w : World) :
  Calls Tryz.prog 179 #[.string (s.extract a (a + k))] w fun e w' => e = .returned (.int .i64 (numAt s a k)) ∧ w = w' := by
 have h := number_any (s.extract a (a + k)) k hk (by rw [size_extract (by omega) hs]; omega) (by rw [digAt_extract (by omega)]; exact hd) w
 rw [numAt_extract (by omega)] at h
 exact h
theorem parse_any (s : ByteArray) (w : World) (ht : Tab w) :
  Calls Tryz.prog 149 #[.string s] w (IsErr (parseZ s) (parseE s) w) := by
 have cf := fun W => hasForm_any s W
 cases hf : formB s
 ·rw [show parseZ s = 0 by unfold parseZ; rw [hf]; rfl, show parseE s = 3 by unfold parseE; rw [hf]; rfl]
  rw [hf] at cf
  have CF := Lib.hid cf
  clear cf hf
  go_enter Tryz.func149, Tryz.ntmps149
  go_wp2_with fail
  refine (CF.out _).mono ?_
  rintro e w1 ⟨rfl, hb⟩
  go_wp2_with fail
  go_ret2
  exact ⟨rfl, hb⟩
 ·rw [show parseZ s = partZ (numAt s 0 4) (numAt s 5 2) (numAt s 8 2) (numAt s 11 2) (numAt s 14 2) by unfold parseZ; rw [hf]; rfl, show parseE s = partE (numAt s 0 4) (numAt s 5 2) (numAt s 8 2) (numAt s 11 2) (numAt s 14 2) by unfold parseE; rw [hf]; rfl]
  rw [hf] at cf
  obtain ⟨d1, d2, d3, d4, d5⟩ := form_digits hf
  have hs := (formB_all hf).1
  have c1 := fun W => number_at s 0 4 (by omega) (by omega) d1 W
  have c2 := fun W => number_at s 5 2 (by omega) (by omega) d2 W
  have c3 := fun W => number_at s 8 2 (by omega) (by omega) d3 W
  have c4 := fun W => number_at s 11 2 (by omega) (by omega) d4 W
  have c5 := fun W => number_at s 14 2 (by omega) (by omega) d5 W
  have s1 : ∀ W, (Instr.slice 9 (.string s) (some (.int .i64 0)) (some (.int .i64 4)) none).run Tryz.prog W = .ok (.string (s.extract 0 4)) W := fun W => slice_str s 0 4 (by omega) (by omega) W
  have s2 : ∀ W, (Instr.slice 9 (.string s) (some (.int .i64 5)) (some (.int .i64 7)) none).run Tryz.prog W = .ok (.string (s.extract 5 7)) W := fun W => slice_str s 5 7 (by omega) (by omega) W
  have s3 : ∀ W, (Instr.slice 9 (.string s) (some (.int .i64 8)) (some (.int .i64 10)) none).run Tryz.prog W = .ok (.string (s.extract 8 10)) W := fun W => slice_str s 8 10 (by omega) (by omega) W
  have s4 : ∀ W, (Instr.slice 9 (.string s) (some (.int .i64 11)) (some (.int .i64 13)) none).run Tryz.prog W = .ok (.string (s.extract 11 13)) W := fun W => slice_str s 11 13 (by omega) (by omega) W
  have s5 : ∀ W, (Instr.slice 9 (.string s) (some (.int .i64 14)) (some (.int .i64 16)) none).run Tryz.prog W = .ok (.string (s.extract 14 16)) W := fun W => slice_str s 14 16 (by omega) (by omega) W
  have b4 := (numAt_bd (by omega) d4)
  have b5 := (numAt_bd (by omega) d5)
  simp only [Nat.zero_add, Nat.reduceAdd] at c1 c2 c3 c4 c5
  generalize s.extract 0 4 = t1 at *
  generalize s.extract 5 7 = t2 at *
  generalize s.extract 8 10 = t3 at *
  generalize s.extract 11 13 = t4 at *
  generalize s.extract 14 16 = t5 at *
  generalize numAt s 0 4 = y at *
  generalize numAt s 5 2 = mo at *
  generalize numAt s 8 2 = d at *
  generalize numAt s 11 2 = h at *
  generalize numAt s 14 2 = mi at *
  have h0 := b4.1
  have h9 : h ≤ 99 := by omega
  have m0 := b5.1
  have m9 : mi ≤ 99 := by omega
  have CF := Lib.hid cf
  have C1 := Lib.hid c1
  have C2 := Lib.hid c2
  have C3 := Lib.hid c3
  have C4 := Lib.hid c4
  have C5 := Lib.hid c5
  have TW := Lib.hid (fun W (hb : Below w.heap.size w W) => ht.below hb (Nat.le_refl _))
  have BA := Lib.hid (fun hh => part_bad (y := y) (mo := mo) (d := d) (h := h) (mi := mi) hh)
  have GO := Lib.hid (fun h1 h2 h3 h4 => part_good (y := y) (mo := mo) (d := d) (h := h) (mi := mi) h1 h2 h3 h4)
  generalize partZ y mo d h mi = z at *
  generalize partE y mo d h mi = x at *
  have MZ := Lib.hid (show minZ y mo d h mi = daysZ y mo d * 1440 + h * 60 + mi from rfl)
  generalize minZ y mo d h mi = n at *
  have nb := daysZ_bd y mo d
  clear cf c1 c2 c3 c4 c5 d1 d2 d3 d4 d5 hf hs ht b4 b5
  go_enter Tryz.func149, Tryz.ntmps149
  go_wp2_with fail
  refine (CF.out _).mono ?_
  rintro e w1 ⟨rfl, hb⟩
  have HB := Lib.hid hb
  clear hb
  go_wp2_with fail
  go_quiet (first | (go_at_call_of 179 (Value.string t4); exact quiet_eq (C4.out _)) | (go_at_call_of 179 (Value.string t5); exact quiet_eq (C5.out _)))
  clear C4 C5 s4 s5
  have HB2 := Lib.hid (below_drewN HB.out nq)
  generalize w1.drewN nq = w2 at *
  clear HB CF
  rcases (show 24 ≤ h ∨ (h < 24 ∧ 60 ≤ mi) ∨ (h < 24 ∧ mi < 60) by omega) with e1 | ⟨e1, e2⟩ | ⟨e1, e2⟩
  ·obtain ⟨rfl, rfl⟩ := BA.out (.inl e1)
   clear BA GO
   go_wp2_with fail
   go_ret2
   exact ⟨rfl, HB2.out⟩
  ·obtain ⟨rfl, rfl⟩ := BA.out (.inr (.inl e2))
   clear BA GO
   go_wp2_with fail
   go_ret2
   exact ⟨rfl, HB2.out⟩
  ·have cd := fun k => days_any y mo d (w2.drewN k) (TW.out _ (below_drewN HB2.out k))
   have nz := MZ.out
   generalize daysZ y mo d = dz at *
   generalize daysB y mo d = db at *
   have CD := Lib.hid cd
   have NZ := Lib.hid nz
   clear cd nz MZ
   cases db
   ·obtain ⟨rfl, rfl⟩ := BA.out (.inr (.inr (.inl rfl)))
    clear BA GO
    go_wp2_with fail
    go_quiet (first | (go_at_call_of 179 (Value.string t1); exact quiet_eq (C1.out _)) | (go_at_call_of 179 (Value.string t2); exact quiet_eq (C2.out _)) | (go_at_call_of 179 (Value.string t3); exact quiet_eq (C3.out _)) | (go_at_call 180; exact quiet_eq (CD.out _)))
    go_wp2_with fail
    go_ret2
    exact ⟨rfl, below_drewN HB2.out _⟩
   ·by_cases hn : 575999999 < n
    ·obtain ⟨rfl, rfl⟩ := BA.out (.inr (.inr (.inr hn)))
     have hn2 : 575999999 < dz * 1440 + h * 60 + mi := by have := NZ.out; omega
     clear BA GO
     go_wp2_with fail
     go_quiet (first | (go_at_call_of 179 (Value.string t1); exact quiet_eq (C1.out _)) | (go_at_call_of 179 (Value.string t2); exact quiet_eq (C2.out _)) | (go_at_call_of 179 (Value.string t3); exact quiet_eq (C3.out _)) | (go_at_call 180; exact quiet_eq (CD.out _)))
     go_wp2_with fail
     go_ret2
     exact ⟨rfl, below_drewN HB2.out _⟩
    ·obtain ⟨rfl, rfl⟩ := GO.out e1 e2 rfl (by omega)
     have hn2 : dz * 1440 + h * 60 + mi ≤ 575999999 := by have := NZ.out; omega
     clear BA GO
     go_wp2_with fail
     go_quiet (first | (go_at_call_of 179 (Value.string t1); exact quiet_eq (C1.out _)) | (go_at_call_of 179 (Value.string t2); exact quiet_eq (C2.out _)) | (go_at_call_of 179 (Value.string t3); exact quiet_eq (C3.out _)) | (go_at_call 180; exact quiet_eq (CD.out _)))
     go_wp2_with fail
     go_ret2
     exact ⟨ret_err NZ.out.symm rfl, below_drewN HB2.out _⟩
end Go.Proofs.YtmdpjahhhfajaaaGreatDoor
namespace Wh
theorem parse_bad {s : ByteArray} (h : formB s = false) : parseZ s = 0 ∧ parseE s = 3 := by
 unfold parseZ parseE
 rw [h]
 exact ⟨rfl, rfl⟩
end Wh
namespace Go.Proofs.YtmdpjahhhfajaaaGreatDoor
open Go.RowKit Wh
end Go.Proofs.YtmdpjahhhfajaaaGreatDoor
