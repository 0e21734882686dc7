/-
  What the small functions of the value layer and of its reference return: Valid, Truth, Compare and what they call.
-/
import Derived.Test.YtnmlbafhdnffgaaRows
import Derived.Test.YtnmlbafhdnffgaaPlain
import Derived.WalkKit
import Derived.WalkLawsBesides
import Derived.WalkSpells
import Derived.Outline
import Derived.BigQuiet
import Derived.Deep.QuietTactic
import Derived.Lib.Hide
import Derived.Lib.Bytealg
namespace Go.Proofs.Ytnmlbafhdnffgaa
open Go.RowKit Wh

abbrev agg (k n : Int) (s : ByteArray) : Value := .agg #[.int .i64 k, .int .i64 n, .string s]

theorem ret_bool {a b : Bool} (h : a = b) : Ending.returned (.bool a) = .returned (.bool b) := by rw [h]
theorem ret_int {k : IntKind} {a b : Int} (h : a = b) : Ending.returned (.int k a) = .returned (.int k b) := by rw [h]

theorem valid_any (k n : Int) (s : ByteArray) (w : World) :
    Calls Try.prog 11 #[agg k n s] w fun e w' => e = .returned (.bool (validB k n s)) ∧ Below w.heap.size w w' := by
  go_enter Try.func11, Try.ntmps11
  go_wp2
  all_goals
    go_ret
    refine ⟨ret_bool ?_, (Below.refl _ _).alloc (Nat.le_refl _) _⟩
    simp_all [validB]
    try omega

theorem rvalid_any (k n : Int) (s : ByteArray) (w : World) :
    Calls Try.prog 12 #[agg k n s] w fun e w' => e = .returned (.bool (validB k n s)) ∧ Below w.heap.size w w' := by
  go_enter Try.func12, Try.ntmps12
  go_wp2
  all_goals
    go_ret
    refine ⟨ret_bool ?_, (Below.refl _ _).alloc (Nat.le_refl _) _⟩
    simp_all [validB]
    try omega

theorem bcell {W w1 : World} (hb : Below W.heap.size W w1) : (∀ b o, b < W.heap.size → w1.cell? ⟨b, o, none⟩ = W.cell? ⟨b, o, none⟩) ∧ (∀ b o, b < W.heap.size → w1.frozen? ⟨b, o, none⟩ = W.frozen? ⟨b, o, none⟩) :=
  ⟨fun b o h => hb.cell (p := ⟨b, o, none⟩) h, fun b o h => hb.frozen (p := ⟨b, o, none⟩) h⟩

theorem truth_any (k n : Int) (s : ByteArray) (w : World) :
    Calls Try.prog 19 #[agg k n s] w fun e w' => e = .returned (.int .i64 (truthZ k n s)) ∧ Below w.heap.size w w' := by
  by_cases hk : k = 1
  · subst hk
    by_cases hv : validB 1 n s = true
    · have ht : truthZ 1 n s = n := by simp [truthZ]; simp [validB] at hv; intro h; exact absurd hv.2 (by simp [h hv.1])
      have HT := Lib.hid ht
      clear ht
      go_enter Try.func19, Try.ntmps19
      go_wp2_with (go_at_call 11; refine (valid_any _ _ _ _).mono ?_; rintro e w' ⟨rfl, hb⟩; obtain ⟨hc, hf⟩ := bcell hb)
      go_ret
      exact ⟨ret_int HT.out.symm, ((Below.refl _ _).alloc (Nat.le_refl _) _).trans (hb.mono (by simp))⟩
    · have hv' : validB 1 n s = false := by simpa using hv
      have ht : truthZ 1 n s = -1 := by
        unfold truthZ
        rw [if_neg]
        rintro ⟨_, h2, h3⟩
        simp [validB, h3] at hv'
        omega
      have HT := Lib.hid ht
      clear ht hv
      go_enter Try.func19, Try.ntmps19
      go_wp2_with (go_at_call 11; refine (valid_any _ _ _ _).mono ?_; rintro e w' ⟨rfl, hb⟩; obtain ⟨hc, hf⟩ := bcell hb)
      go_ret
      exact ⟨ret_int HT.out.symm, ((Below.refl _ _).alloc (Nat.le_refl _) _).trans (hb.mono (by simp))⟩
  · have ht : truthZ k n s = -1 := by unfold truthZ; rw [if_neg]; rintro ⟨h, _, _⟩; exact hk h
    have HT := Lib.hid ht
    clear ht
    go_enter Try.func19, Try.ntmps19
    go_wp2_with fail
    go_ret
    exact ⟨ret_int HT.out.symm, (Below.refl _ _).alloc (Nat.le_refl _) _⟩

theorem rtruth_any (k n : Int) (s : ByteArray) (w : World) :
    Calls Try.prog 20 #[agg k n s] w fun e w' => e = .returned (.int .i64 (truthZ k n s)) ∧ Below w.heap.size w w' := by
  go_enter Try.func20, Try.ntmps20
  go_wp2
  all_goals
    go_ret
    refine ⟨ret_int ?_, (Below.refl _ _).alloc (Nat.le_refl _) _⟩
    simp_all [truthZ]
    try omega

theorem rnumbers_any (a b : Int) (w : World) :
    Calls Try.prog 30 #[.int .i64 a, .int .i64 b] w fun e w' => e = .returned (.int .i64 (cmpI a b)) ∧ w = w' := by
  go_enter Try.func30, Try.ntmps30
  go_wp2
  all_goals
    go_ret
    refine ⟨ret_int ?_, rfl⟩
    unfold cmpI
    (repeat' split) <;> omega

theorem cmpint_any (a b : Int) (w : World) :
    Calls Try.prog 28 #[.int .i64 a, .int .i64 b] w fun e w' => e = .returned (.int .i64 (cmpI a b)) ∧ w = w' := by
  go_enter Try.func28, Try.ntmps28
  go_wp2
  all_goals
    go_ret
    refine ⟨ret_int ?_, rfl⟩
    unfold cmpI
    (repeat' split) <;> omega

theorem cmpstring_any (a b : ByteArray) (w : World) :
    Calls Try.prog 38 #[.string a, .string b] w fun e w' => e = .returned (.int .i64 (cmpS a b)) ∧ w = w' := by
  go_enter Try.func38, Try.ntmps38
  go_wp2
  rw [run_callFunc_extern Try.func42 (by kernel_rfl) (by kernel_rfl) (by kernel_rfl) (e := Extern.BytealgCompare.compare) (by kernel_rfl), Lib.run_compareString]
  simp only [Result.andThen]
  rw [Oper.upon_value]
  go_wp2
  go_ret
  exact ⟨rfl, rfl⟩

theorem cmpstr_any (a b : ByteArray) (w : World) :
    Calls Try.prog 29 #[.string a, .string b] w fun e w' => e = .returned (.int .i64 (cmpS a b)) ∧ w = w' := by
  go_enter Try.func29, Try.ntmps29
  go_wp2_with (go_at_call 38; refine (cmpstring_any _ _ _).mono ?_; rintro e w' ⟨rfl, rfl⟩)
  go_ret
  exact ⟨rfl, rfl⟩

theorem compare_any (a b : V) (w : World) :
    Calls Try.prog 14 #[agg a.k a.n a.s, agg b.k b.n b.s] w fun e w' => e = .returned (.int .i64 (cmpV a b)) ∧ Below w.heap.size w w' := by
  obtain ⟨k, n, s⟩ := a
  obtain ⟨k', n', s'⟩ := b
  go_enter Try.func14, Try.ntmps14
  go_wp2_with (first | (go_at_call 28; refine (cmpint_any _ _ _).mono ?_; rintro e w' ⟨rfl, rfl⟩) | (go_at_call 29; refine (cmpstr_any _ _ _).mono ?_; rintro e w' ⟨rfl, rfl⟩))
  all_goals
    go_ret
    refine ⟨ret_int ?_, ((Below.refl _ _).alloc (Nat.le_refl _) _).alloc (by simp) _⟩
    simp_all [cmpV]

theorem rcompare_any (a b : V) (w : World) :
    Calls Try.prog 15 #[agg a.k a.n a.s, agg b.k b.n b.s] w fun e w' => e = .returned (.int .i64 (cmpV a b)) ∧ Below w.heap.size w w' := by
  obtain ⟨k, n, s⟩ := a
  obtain ⟨k', n', s'⟩ := b
  go_enter Try.func15, Try.ntmps15
  go_wp2_with (go_at_call 30; refine (rnumbers_any _ _ _).mono ?_; rintro e w' ⟨rfl, rfl⟩)
  all_goals
    go_ret
    refine ⟨ret_int ?_, ((Below.refl _ _).alloc (Nat.le_refl _) _).alloc (by simp) _⟩
    have hl := less_iff s.toList s'.toList
    have hz := cmpB_zero s.toList s'.toList
    have hv := cmpB_vals s.toList s'.toList
    simp_all [cmpV, cmpS, Lib.toList_data]

end Go.Proofs.Ytnmlbafhdnffgaa
