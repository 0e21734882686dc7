/-
  Add, Subtract, Multiply, Divide, Modulo, of exact and of its reference; near.
-/
import Derived.Test.YtknpjfmpflbcfaaXLeaf
namespace Go.Proofs.Ytknpjfmpflbcfaa
open Go.RowKit Wh

def IsPair (z : Int) (x : Bool) (w : World) (e : Ending) (w' : World) : Prop := e = .returned (.tuple #[.int .i64 z, .bool x]) ∧ w = w'

theorem okB_of {a b r : Int} (h : smB a = true → smB b = true → False) : okB a b r = false ∧ okZ a b r = 0 := by
  have e : okB a b r = false := by
    unfold okB
    cases h1 : smB a
    · rfl
    · cases h2 : smB b
      · rfl
      · exact absurd h2 (fun h2 => h h1 h2)
  exact ⟨e, by unfold okZ; rw [e]; rfl⟩

theorem okB_small {a b r : Int} (h1 : smB a = true) (h2 : smB b = true) : okB a b r = smB r ∧ okZ a b r = chkZ r := by
  have e : okB a b r = smB r := by unfold okB; rw [h1, h2]; rfl
  exact ⟨e, by unfold okZ chkZ; rw [e]⟩

theorem add_any (a b : Int) (w : World) :
    Calls Try.prog 10 #[.int .i64 a, .int .i64 b] w (IsPair (okZ a b (a + b)) (okB a b (a + b)) w) := by
  cases h1 : smB a <;> cases h2 : smB b
  case true.true =>
    have HE := Lib.hid (okB_small (r := a + b) h1 h2)
    have b1 := smB_bd h1
    have b2 := smB_bd h2
    have b3 := mul_small h1 h2
    go_enter Try.func10, Try.ntmps10
    go_wp2_with (first | (go_at_call 31; refine (small_any _ _).mono ?_; rintro e w' ⟨rfl, rfl⟩) | (go_at_call 32; refine (checked_any _ _).mono ?_; rintro e w' ⟨rfl, rfl⟩))
    go_ret2
    exact ⟨ret_pair HE.out.2.symm HE.out.1.symm, rfl⟩
  all_goals
    have HE := Lib.hid (okB_of (a := a) (b := b) (r := a + b) (by simp [h1, h2]))
    go_enter Try.func10, Try.ntmps10
    go_wp2_with (first | (go_at_call 31; refine (small_any _ _).mono ?_; rintro e w' ⟨rfl, rfl⟩))
    go_ret2
    exact ⟨ret_pair HE.out.2.symm HE.out.1.symm, rfl⟩

theorem radd_any (a b : Int) (w : World) :
    Calls Try.prog 11 #[.int .i64 a, .int .i64 b] w (IsPair (okZ a b (a + b)) (okB a b (a + b)) w) := by
  cases h1 : smB a <;> cases h2 : smB b
  case true.true =>
    have b1 := smB_bd h1
    have b2 := smB_bd h2
    have b3 := mul_small h1 h2
    clear h1 h2
    go_enter Try.func11, Try.ntmps11
    go_wp2_with (first | (go_at_call 33; refine (rchecked_any _ _ _ _).mono ?_; rintro e w' ⟨rfl, rfl⟩))
    go_ret2
    exact ⟨rfl, rfl⟩
  all_goals
    have HE := Lib.hid (fun r => okB_of (a := a) (b := b) (r := r) (by simp [h1, h2]))
    clear h1 h2
    go_enter Try.func11, Try.ntmps11
    go_wp2_with (first | (go_at_call 33; refine (rchecked_any _ _ _ _).mono ?_; rintro e w' ⟨rfl, rfl⟩))
    go_ret2
    exact ⟨ret_pair ((HE.out _).2.trans (HE.out _).2.symm) ((HE.out _).1.trans (HE.out _).1.symm), rfl⟩

theorem sub_any (a b : Int) (w : World) :
    Calls Try.prog 12 #[.int .i64 a, .int .i64 b] w (IsPair (okZ a b (a - b)) (okB a b (a - b)) w) := by
  cases h1 : smB a <;> cases h2 : smB b
  case true.true =>
    have HE := Lib.hid (okB_small (r := a - b) h1 h2)
    have b1 := smB_bd h1
    have b2 := smB_bd h2
    have b3 := mul_small h1 h2
    go_enter Try.func12, Try.ntmps12
    go_wp2_with (first | (go_at_call 31; refine (small_any _ _).mono ?_; rintro e w' ⟨rfl, rfl⟩) | (go_at_call 32; refine (checked_any _ _).mono ?_; rintro e w' ⟨rfl, rfl⟩))
    go_ret2
    exact ⟨ret_pair HE.out.2.symm HE.out.1.symm, rfl⟩
  all_goals
    have HE := Lib.hid (okB_of (a := a) (b := b) (r := a - b) (by simp [h1, h2]))
    go_enter Try.func12, Try.ntmps12
    go_wp2_with (first | (go_at_call 31; refine (small_any _ _).mono ?_; rintro e w' ⟨rfl, rfl⟩))
    go_ret2
    exact ⟨ret_pair HE.out.2.symm HE.out.1.symm, rfl⟩

theorem rsub_any (a b : Int) (w : World) :
    Calls Try.prog 13 #[.int .i64 a, .int .i64 b] w (IsPair (okZ a b (a - b)) (okB a b (a - b)) w) := by
  cases h1 : smB a <;> cases h2 : smB b
  case true.true =>
    have b1 := smB_bd h1
    have b2 := smB_bd h2
    have b3 := mul_small h1 h2
    clear h1 h2
    go_enter Try.func13, Try.ntmps13
    go_wp2_with (first | (go_at_call 33; refine (rchecked_any _ _ _ _).mono ?_; rintro e w' ⟨rfl, rfl⟩))
    go_ret2
    exact ⟨rfl, rfl⟩
  all_goals
    have HE := Lib.hid (fun r => okB_of (a := a) (b := b) (r := r) (by simp [h1, h2]))
    clear h1 h2
    go_enter Try.func13, Try.ntmps13
    go_wp2_with (first | (go_at_call 33; refine (rchecked_any _ _ _ _).mono ?_; rintro e w' ⟨rfl, rfl⟩))
    go_ret2
    exact ⟨ret_pair ((HE.out _).2.trans (HE.out _).2.symm) ((HE.out _).1.trans (HE.out _).1.symm), rfl⟩

theorem mul_any (a b : Int) (w : World) :
    Calls Try.prog 14 #[.int .i64 a, .int .i64 b] w (IsPair (okZ a b (a * b)) (okB a b (a * b)) w) := by
  cases h1 : smB a <;> cases h2 : smB b
  case true.true =>
    have HE := Lib.hid (okB_small (r := a * b) h1 h2)
    have b1 := smB_bd h1
    have b2 := smB_bd h2
    have b3 := mul_small h1 h2
    go_enter Try.func14, Try.ntmps14
    go_wp2_with (first | (go_at_call 31; refine (small_any _ _).mono ?_; rintro e w' ⟨rfl, rfl⟩) | (go_at_call 32; refine (checked_any _ _).mono ?_; rintro e w' ⟨rfl, rfl⟩))
    go_ret2
    exact ⟨ret_pair HE.out.2.symm HE.out.1.symm, rfl⟩
  all_goals
    have HE := Lib.hid (okB_of (a := a) (b := b) (r := a * b) (by simp [h1, h2]))
    go_enter Try.func14, Try.ntmps14
    go_wp2_with (first | (go_at_call 31; refine (small_any _ _).mono ?_; rintro e w' ⟨rfl, rfl⟩))
    go_ret2
    exact ⟨ret_pair HE.out.2.symm HE.out.1.symm, rfl⟩

theorem rmul_any (a b : Int) (w : World) :
    Calls Try.prog 15 #[.int .i64 a, .int .i64 b] w (IsPair (okZ a b (a * b)) (okB a b (a * b)) w) := by
  cases h1 : smB a <;> cases h2 : smB b
  case true.true =>
    have b1 := smB_bd h1
    have b2 := smB_bd h2
    have b3 := mul_small h1 h2
    clear h1 h2
    go_enter Try.func15, Try.ntmps15
    go_wp2_with (first | (go_at_call 33; refine (rchecked_any _ _ _ _).mono ?_; rintro e w' ⟨rfl, rfl⟩))
    go_ret2
    exact ⟨rfl, rfl⟩
  all_goals
    have HE := Lib.hid (fun r => okB_of (a := a) (b := b) (r := r) (by simp [h1, h2]))
    clear h1 h2
    go_enter Try.func15, Try.ntmps15
    go_wp2_with (first | (go_at_call 33; refine (rchecked_any _ _ _ _).mono ?_; rintro e w' ⟨rfl, rfl⟩))
    go_ret2
    exact ⟨ret_pair ((HE.out _).2.trans (HE.out _).2.symm) ((HE.out _).1.trans (HE.out _).1.symm), rfl⟩

theorem near_any (n : Int) (w : World) :
    Calls Try.prog 16 #[.int .i64 n] w fun e w' => e = .returned (.int .i64 (nearZ n)) ∧ w = w' := by
  have b1 := and_3
  have b2 := and_7
  have b3 := and_255
  have hn : nearZ n = if n / 256 % 4 = 0 then 1073741827 - n % 8 else if n / 256 % 4 = 1 then n % 8 - 1073741827 else n % 256 - 128 := rfl
  have HN := Lib.hid hn
  clear hn
  go_enter Try.func16, Try.ntmps16
  go_wp2_with fail
  all_goals
    go_ret
    refine ⟨ret_int ?_, rfl⟩
    rw [HN.out]
    (repeat' split) <;> simp_all <;> omega

end Go.Proofs.Ytknpjfmpflbcfaa
