/-
  What hasForm and number of civil, and digits of its reference, return.
-/
import Derived.Test.YtloccocengegnaaDoorCLeaf
import Derived.Test.YtloccocengegnaaDoorGStr
import Derived.LoopTactic
set_option linter.unusedVariables false
namespace Wh

/-- May byte x stand at place i of a time's text? -/
def okAt (i x : Nat) : Bool :=
  if i = 4 ∨ i = 7 then decide (x = 45) else if i = 10 then decide (x = 84) else if i = 13 then decide (x = 58) else decide (48 ≤ x) && decide (x ≤ 57)

/-- The form's own byte at place i. -/
def patAt (i : Nat) : Nat := if i = 4 ∨ i = 7 then 45 else if i = 10 then 84 else if i = 13 then 58 else 48

def pat : ByteArray := { data := #[48, 48, 48, 48, 45, 48, 48, 45, 48, 48, 84, 48, 48, 58, 48, 48] }

theorem pat_at : ∀ i, i < 16 → btN pat i = patAt i := by decide

/-- Does a text have the form? -/
def formB (s : ByteArray) : Bool := decide (s.size = 16) && (List.range 16).all fun i => okAt i (btN s i)

theorem formB_size {s : ByteArray} (h : ¬ s.size = 16) : formB s = false := by unfold formB; rw [decide_eq_false h]; rfl
theorem formB_no {s : ByteArray} {i : Nat} (hi : i < 16) (h : okAt i (btN s i) = false) : formB s = false := by
  unfold formB
  rw [Bool.and_eq_false_iff]
  right
  rw [List.all_eq_false]
  exact ⟨i, List.mem_range.2 hi, by simp [h]⟩
theorem formB_yes {s : ByteArray} (hs : s.size = 16) (h : ∀ i, i < 16 → okAt i (btN s i) = true) : formB s = true := by
  unfold formB
  rw [decide_eq_true hs, List.all_eq_true.2 fun i hi => h i (List.mem_range.1 hi)]
  rfl
theorem formB_all {s : ByteArray} (h : formB s = true) : s.size = 16 ∧ ∀ i, i < 16 → okAt i (btN s i) = true := by
  unfold formB at h
  rw [Bool.and_eq_true, decide_eq_true_eq, List.all_eq_true] at h
  exact ⟨h.1, fun i hi => h.2 i (List.mem_range.2 hi)⟩

/-- The number that k bytes from place a on write. -/
def numAt (s : ByteArray) (a : Nat) : Nat → Int
  | 0 => 0
  | k + 1 => numAt s a k * 10 + ((btN s (a + k) : Int) - 48)

/-- Are k bytes from place a on digits? -/
def digAt (s : ByteArray) (a k : Nat) : Bool := (List.range k).all fun i => decide (48 ≤ btN s (a + i)) && decide (btN s (a + i) ≤ 57)

theorem digAt_at {s : ByteArray} {a k : Nat} (h : digAt s a k = true) {i : Nat} (hi : i < k) : 48 ≤ btN s (a + i) ∧ btN s (a + i) ≤ 57 := by
  have := List.all_eq_true.1 h i (List.mem_range.2 hi)
  simpa using this

theorem digAt_of {s : ByteArray} {a k : Nat} (h : ∀ i, i < k → 48 ≤ btN s (a + i) ∧ btN s (a + i) ≤ 57) : digAt s a k = true := by
  unfold digAt
  rw [List.all_eq_true]
  intro i hi
  have := h i (List.mem_range.1 hi)
  simpa using this

theorem digAt_no {s : ByteArray} {a k i : Nat} (hi : i < k) (h : btN s (a + i) < 48 ∨ 57 < btN s (a + i)) : digAt s a k = false := by
  unfold digAt
  rw [List.all_eq_false]
  exact ⟨i, List.mem_range.2 hi, by simp; omega⟩

theorem digAt_le {s : ByteArray} {a k j : Nat} (h : digAt s a k = true) (hj : j ≤ k) : digAt s a j = true := digAt_of fun i hi => digAt_at h (by omega)

theorem numAt_bd {s : ByteArray} {a : Nat} : ∀ {k : Nat}, k ≤ 4 → digAt s a k = true → 0 ≤ numAt s a k ∧ numAt s a k + 1 ≤ 10 ^ k
  | 0, _, _ => by simp [numAt]
  | k + 1, hk, h => by
    have ih := numAt_bd (by omega) (digAt_le h (Nat.le_succ k))
    have hx := digAt_at h (Nat.lt_succ_self k)
    simp only [numAt]
    have e : (10 : Int) ^ (k + 1) = 10 ^ k * 10 := Int.pow_succ ..
    rw [e]
    generalize (10 : Int) ^ k = p at *
    omega

theorem numAt_extract {s : ByteArray} {a b : Nat} : ∀ {k : Nat}, k ≤ b - a → numAt (s.extract a b) 0 k = numAt s a k
  | 0, _ => rfl
  | k + 1, h => by
    simp only [numAt]
    rw [numAt_extract (k := k) (by omega), btN_extract s a b (0 + k) (by omega)]
    simp

theorem digAt_extract {s : ByteArray} {a b k : Nat} (h : k ≤ b - a) : digAt (s.extract a b) 0 k = digAt s a k := by
  unfold digAt
  rw [Bool.eq_iff_iff, List.all_eq_true, List.all_eq_true]
  constructor
  all_goals
    intro hh i hi
    have hi2 := List.mem_range.1 hi
    have := hh i hi
    rw [btN_extract s a b (0 + i) (by omega), Nat.zero_add] at *
    exact this

end Wh
namespace Go.Proofs.YtloccocengegnaaDoor
open Go.RowKit Wh

theorem hasForm_size (s : ByteArray) (h : ¬ s.size = 16) (w : World) :
    Calls Tryd.prog 69 #[.string s] w fun e w' => e = .returned (.bool false) ∧ w = w' := by
  have h2 : ¬ (s.size : Int) = 16 := by omega
  clear h
  go_enter Tryd.func69, Tryd.ntmps69
  go_wp2_with fail
  go_ret
  exact ⟨rfl, rfl⟩

theorem okAt_cases {i x : Nat} (hi : i < 16) : (patAt i = 48 ∧ okAt i x = (decide (48 ≤ x) && decide (x ≤ 57))) ∨ (patAt i ≠ 48 ∧ patAt i < 256 ∧ okAt i x = decide (x = patAt i)) := by
  unfold patAt okAt
  by_cases h1 : i = 4 ∨ i = 7
  · right; simp [h1]
  · by_cases h2 : i = 10
    · right; subst h2; simp
    · by_cases h3 : i = 13
      · right; subst h3; simp
      · left; simp [h1, h2, h3]

theorem hasForm_any (s : ByteArray) (w : World) :
    Calls Tryd.prog 69 #[.string s] w fun e w' => e = .returned (.bool (formB s)) ∧ Below w.heap.size w w' := by
  by_cases hs : s.size = 16
  case neg =>
    rw [formB_size hs]
    exact (hasForm_size s hs w).mono fun e w' ⟨h1, h2⟩ => ⟨h1, h2 ▸ Below.refl _ _⟩
  have hs2 : (s.size : Int) = 16 := by omega
  have N := Lib.hid (fun i hi h => formB_no (s := s) (i := i) hi h)
  have Y := Lib.hid (fun h => formB_yes (s := s) hs h)
  have ix := fun i hi W => index_str s i (by omega : i < s.size) W
  have ip := fun i (hi : i < 16) W => index_str pat i (show i < pat.size from hi) W
  have IX := Lib.hid ix
  have IP := Lib.hid ip
  clear ix ip
  generalize formB s = b at *
  go_enter Tryd.func69, Tryd.ntmps69
  go_wp2_with fail
  go_loopw [7] (fun iv wr => ∃ i : Nat, i ≤ 16 ∧ iv = .int .i64 i ∧ Hid (∀ j, j < i → okAt j (btN s j) = true) ∧ Below w.heap.size w wr) (fun iv _ => 16 - (intOf iv).toNat)
  case atStart => exact ⟨0, by omega, rfl, fun j hj => absurd hj (Nat.not_lt_zero j), Below.refl _ _⟩
  case round =>
    obtain ⟨i, hi, rfl, HJ, hbel⟩ := hrel
    have HB := Lib.hid hbel
    clear hbel
    by_cases hlt : i < 16
    · have hx := IX.out i (by omega)
      have hp := IP.out i hlt
      rw [pat_at i hlt] at hp
      have N2 := Lib.hid (N.out i hlt)
      have Y2 := Lib.hid (fun (h : okAt i (btN s i) = true) => (fun (j : Nat) (hj : j < i + 1) => if e : j = i then e ▸ h else HJ.out j (by omega) : ∀ j, j < i + 1 → okAt j (btN s j) = true))
      have hl := btN_lt s i
      have hc := okAt_cases (i := i) (x := btN s i) hlt
      generalize btN s i = x at *
      clear IX IP N HJ
      unfold pat at hp
      rcases hc with ⟨h1, h2⟩ | ⟨h1, h3, h2⟩
      · rw [h1] at hp
        rw [h2] at N2 Y2
        clear h1 h2
        by_cases hx2 : x < 48 ∨ 57 < x
        · have e := N2.out (by simp; omega)
          subst e
          clear N2 Y2 Y
          rcases (show x < 48 ∨ (48 ≤ x ∧ 57 < x) by omega) with h1 | ⟨h1, h2⟩
          all_goals
            clear hx2
            go_wp2_with fail
            go_ret
            exact ⟨rfl, HB.out⟩
        · have HJ2 := Lib.hid (Y2.out (by simp; omega))
          have h1 : 48 ≤ x := by omega
          have h2 : x ≤ 57 := by omega
          clear N2 Y2 Y hx2
          go_wp2_with fail
          go_roundw
          case rel => exact ⟨i + 1, by omega, by go_num, HJ2, HB.out⟩
          case measure => simp [intOf]; omega
      · rw [h2] at N2 Y2
        clear h2
        generalize patAt i = p at *
        have hpz : ((p : Int) == 48) = false := beq_eq_false_iff_ne.2 (by omega)
        by_cases hx2 : x = p
        · have HJ2 := Lib.hid (Y2.out (by simpa using hx2))
          subst hx2
          clear N2 Y2 Y
          have hq : ((x : Int) == (x : Int)) = true := by simp
          go_wp2_with fail
          go_quiet (fail)
          go_wp2_with fail
          go_roundw
          case rel => exact ⟨i + 1, by omega, by go_num, HJ2, below_drewN HB.out _⟩
          case measure => simp [intOf]; omega
        · have e := N2.out (by simpa using hx2)
          subst e
          clear N2 Y2 Y
          have hq : ((x : Int) == (p : Int)) = false := beq_eq_false_iff_ne.2 (by omega)
          go_wp2_with fail
          go_quiet (fail)
          go_wp2_with fail
          go_ret
          exact ⟨rfl, below_drewN HB.out _⟩
    · obtain rfl : i = 16 := by omega
      have e := Y.out HJ.out
      subst e
      clear N Y IX IP
      go_wp2_with fail
      go_ret
      exact ⟨rfl, HB.out⟩

theorem number_any (s : ByteArray) (k : Nat) (hk : k ≤ 4) (hs : s.size = k) (hd : digAt s 0 k = true) (w : World) :
    Calls Tryd.prog 70 #[.string s] w fun e w' => e = .returned (.int .i64 (numAt s 0 k)) ∧ w = w' := by
  have hs2 : (s.size : Int) = k := by omega
  have D := Lib.hid hd
  have IX := Lib.hid (fun i (hi : i < k) W => index_str s i (by omega : i < s.size) W)
  clear hd
  go_enter Tryd.func70, Tryd.ntmps70
  go_wp2_with fail
  go_loop [3, 7] (fun n i => ∃ j : Nat, j ≤ k ∧ i = .int .i64 j ∧ n = .int .i64 (numAt s 0 j)) (fun _ i => k - (intOf i).toNat)
  case atStart => exact ⟨0, by omega, rfl, rfl⟩
  case round =>
    obtain ⟨j, hj, rfl, rfl⟩ := hrel
    by_cases hlt : j < k
    · have hx := digAt_at D.out hlt
      have hi := IX.out j hlt
      have hb := numAt_bd (by omega) (digAt_le D.out hj)
      have hp : (10 : Int) ^ j ≤ 1000 := by
        rcases (show j = 0 ∨ j = 1 ∨ j = 2 ∨ j = 3 by omega) with rfl | rfl | rfl | rfl <;> decide
      have hn : numAt s 0 (j + 1) = numAt s 0 j * 10 + ((btN s (0 + j) : Int) - 48) := rfl
      rw [Nat.zero_add] at hn hx
      generalize numAt s 0 j = n at *
      generalize btN s j = x at *
      have hb0 := hb.1
      have hb1 : n ≤ 999 := by omega
      have HN := Lib.hid hn
      clear hb hp hn IX
      go_wp2_with fail
      go_round
      case rel => exact ⟨j + 1, by omega, by go_num, by rw [HN.out]⟩
      case measure => simp [intOf]; omega
    · obtain rfl : j = k := by omega
      go_wp2_with fail
      go_ret
      exact ⟨rfl, rfl⟩

/-- What digits returns. -/
def digZ (s : ByteArray) (a k : Nat) : Int := if digAt s a k = true then numAt s a k else -1

end Go.Proofs.YtloccocengegnaaDoor

