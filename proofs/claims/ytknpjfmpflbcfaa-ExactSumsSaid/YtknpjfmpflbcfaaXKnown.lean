/-
  The sanity check that every law of layer 2 calls, and the ratios that the laws build from numbers.
-/
import Derived.Test.YtknpjfmpflbcfaaXDiv
import Derived.Test.YtknpjfmpflbcfaaXWith
set_option linter.unusedVariables false
namespace Go.Proofs.Ytknpjfmpflbcfaa
open Go.RowKit Wh

theorem known_any (w : World) : Calls Try.prog 17 #[] w fun e w' => e = .returned (.bool true) ∧ Below w.heap.size w w' := by
  have c1 : ∀ w, Calls Try.prog 18 #[.int .i64 (-7), .int .i64 2] w fun e w' => e = .returned (.tuple #[.int .i64 (-4), .bool true]) ∧ w = w' := fun w => divide_any (-7) 2 w
  have c2 : ∀ w, Calls Try.prog 20 #[.int .i64 7, .int .i64 (-2)] w fun e w' => e = .returned (.tuple #[.int .i64 (-1), .bool true]) ∧ w = w' := fun w => modulo_any 7 (-2) w
  have c3 : ∀ w, Calls Try.prog 10 #[.int .i64 1073741824, .int .i64 1] w fun e w' => e = .returned (.tuple #[.int .i64 0, .bool false]) ∧ w = w' := fun w => add_any 1073741824 1 w
  have c4 : ∀ w, Calls Try.prog 29 #[.int .i64 1, .int .i64 3, rat 1 3, rat 1 2] w fun e w' => e = .returned (.bool true) ∧ Below w.heap.size w w' := fun w => within_any 1 3 1 3 1 2 w
  have C1 := Lib.hid c1
  have C2 := Lib.hid c2
  have C3 := Lib.hid c3
  have C4 := Lib.hid c4
  clear c1 c2 c3 c4
  go_enter Try.func17, Try.ntmps17
  go_wp2_with fail
  refine (C1.out _).mono ?_
  rintro e w' ⟨rfl, rfl⟩
  go_wp2_with fail
  refine (C2.out _).mono ?_
  rintro e w' ⟨rfl, rfl⟩
  go_wp2_with fail
  refine (C3.out _).mono ?_
  rintro e w' ⟨rfl, rfl⟩
  go_wp2_with fail
  refine (C4.out _).mono ?_
  rintro e w' ⟨rfl, hb⟩
  go_wp2_with fail
  go_ret
  exact ⟨rfl, hb⟩

/-- The ratio that two numbers stand for. -/
def smN (a b : Int) : Int := if wfB (nearZ a) (nearZ b) = true then nearZ a else a % 16
def smD (a b : Int) : Int := if wfB (nearZ a) (nearZ b) = true then nearZ b else 1 + b % 16

theorem sm_wf (a b : Int) : wfB (smN a b) (smD a b) = true := by
  unfold smN smD
  by_cases h : wfB (nearZ a) (nearZ b) = true
  · rw [if_pos h, if_pos h]; exact h
  · rw [if_neg h, if_neg h]
    unfold wfB
    rw [smB_true (by omega) (by omega)]
    simp
    omega

theorem smallr_any (a b : Int) (w : World) :
    Calls Try.prog 26 #[.int .i64 a, .int .i64 b] w fun e w' => e = .returned (rat (smN a b) (smD a b)) ∧ Below w.heap.size w w' := by
  have b1 := and_15
  cases h : wfB (nearZ a) (nearZ b)
  · have E : smN a b = a % 16 ∧ smD a b = 1 + b % 16 := by unfold smN smD; rw [h]; exact ⟨rfl, rfl⟩
    have HE := Lib.hid E
    clear E
    go_enter Try.func26, Try.ntmps26
    go_wp2_with (first | (go_at_call 16; refine (near_any _ _).mono ?_; rintro e w' ⟨rfl, rfl⟩))
    refine (rwf_any _ _ _).mono ?_
    rintro e w1 ⟨rfl, hb⟩
    obtain ⟨hc, hf⟩ := bcell hb
    have hs : w.heap.size + 1 < w1.heap.size := by have := hb.size; simp at this; omega
    have ht : w.heap.size < w1.heap.size := by omega
    go_wp2_with fail
    rw [HE.out.1, HE.out.2]
    have hz : w.heap.size < w.heap.size + 1 + 1 := by omega
    refine bodyPost_ret (v := rat _ _) (by simp [results, Try.results26, go_sem, hc, hz]) rfl ⟨rfl, ?_⟩
    exact (((((Below.refl _ _).alloc (Nat.le_refl _) _).alloc (by simp) _).trans (hb.mono (by simp; omega))).setCell (by simp) _).setCell (by simp) _
  · have E : smN a b = nearZ a ∧ smD a b = nearZ b := by unfold smN smD; rw [h]; exact ⟨rfl, rfl⟩
    have HE := Lib.hid E
    clear E
    go_enter Try.func26, Try.ntmps26
    go_wp2_with (first | (go_at_call 16; refine (near_any _ _).mono ?_; rintro e w' ⟨rfl, rfl⟩))
    refine (rwf_any _ _ _).mono ?_
    rintro e w1 ⟨rfl, hb⟩
    obtain ⟨hc, hf⟩ := bcell hb
    have hs : w.heap.size + 1 < w1.heap.size := by have := hb.size; simp at this; omega
    have ht : w.heap.size < w1.heap.size := by omega
    go_wp2_with fail
    rw [HE.out.1, HE.out.2]
    have hz : w.heap.size < w.heap.size + 1 + 1 := by omega
    refine bodyPost_ret (v := rat _ _) (by simp [results, Try.results26, go_sem, hc, hz]) rfl ⟨rfl, ?_⟩
    exact (((((Below.refl _ _).alloc (Nat.le_refl _) _).alloc (by simp) _).trans (hb.mono (by simp; omega))).setCell (by simp) _).setCell (by simp) _

end Go.Proofs.Ytknpjfmpflbcfaa
