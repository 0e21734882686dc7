/-
  CompareRatios and Within, of exact and of its reference.
-/
import Derived.Test.YtknpjfmpflbcfaaXRatio
namespace Go.Proofs.Ytknpjfmpflbcfaa
open Go.RowKit Wh

theorem cmpint_any (a b : Int) (w : World) :
    Calls Try.prog 40 #[.int .i64 a, .int .i64 b] w fun e w' => e = .returned (.int .i64 (cmpZ a b)) ∧ w = w' := by
  go_enter Try.func40, Try.ntmps40
  go_wp2
  all_goals
    go_ret
    refine ⟨ret_int ?_, rfl⟩
    unfold cmpZ
    (repeat' split) <;> omega

theorem cmpvals_any (a b c d : Int) (h1 : wfB a b = true) (h2 : wfB c d = true) (w : World) :
    Calls Try.prog 39 #[rat a b, rat c d] w fun e w' => e = .returned (.int .i64 (cmpZ (a * d) (c * b))) ∧ Below w.heap.size w w' := by
  obtain ⟨a1, a2, a3⟩ := wfB_bd h1
  obtain ⟨c1, c2, c3⟩ := wfB_bd h2
  have m1 := mul_small a1 (smB_true (x := d) (by omega) c3)
  have m2 := mul_small c1 (smB_true (x := b) (by omega) a3)
  clear h1 h2 a1 c1
  go_enter Try.func39, Try.ntmps39
  go_wp2_with (go_at_call 40; refine (cmpint_any _ _ _).mono ?_; rintro e w' ⟨rfl, rfl⟩)
  go_ret
  exact ⟨rfl, ((Below.refl _ _).alloc (Nat.le_refl _) _).alloc (by simp) _⟩

/-- The order of two ratios, and whether there is one. -/
def bothB (a b c d : Int) : Bool := wfB a b && wfB c d
def cmpR (a b c d : Int) : Int := if bothB a b c d = true then cmpZ (a * d) (c * b) else 0

theorem both_yes {a b c d : Int} (h1 : wfB a b = true) (h2 : wfB c d = true) : bothB a b c d = true ∧ cmpR a b c d = cmpZ (a * d) (c * b) := by
  have e : bothB a b c d = true := by unfold bothB; rw [h1, h2]; rfl
  exact ⟨e, by unfold cmpR; rw [e]; rfl⟩

theorem both_no {a b c d : Int} (h : wfB a b = true → wfB c d = true → False) : bothB a b c d = false ∧ cmpR a b c d = 0 := by
  have e : bothB a b c d = false := by
    unfold bothB
    cases h1 : wfB a b
    · rfl
    · cases h2 : wfB c d
      · rfl
      · exact absurd h2 (fun h2 => h h1 h2)
  exact ⟨e, by unfold cmpR; rw [e]; rfl⟩

def PairB (z : Int) (x : Bool) (w : World) (e : Ending) (w' : World) : Prop := e = .returned (.tuple #[.int .i64 z, .bool x]) ∧ Below w.heap.size w w'

theorem compare_any (a b c d : Int) (w : World) :
    Calls Try.prog 27 #[rat a b, rat c d] w (PairB (cmpR a b c d) (bothB a b c d) w) := by
  cases h1 : wfB a b
  · have HE := Lib.hid (both_no (a := a) (b := b) (c := c) (d := d) (by simp [h1]))
    go_enter Try.func27, Try.ntmps27
    go_wp2_with fail
    refine (wf_any _ _ _).mono ?_
    rintro e w1 ⟨rfl, hb⟩
    go_wp2_with fail
    go_ret2
    exact ⟨ret_pair HE.out.2.symm HE.out.1.symm, (((Below.refl _ _).alloc (Nat.le_refl _) _).alloc (by simp) _).trans (hb.mono (by simp; omega))⟩
  cases h2 : wfB c d
  · have HE := Lib.hid (both_no (a := a) (b := b) (c := c) (d := d) (by simp [h2]))
    go_enter Try.func27, Try.ntmps27
    go_wp2_with fail
    refine (wf_any _ _ _).mono ?_
    rintro e w1 ⟨rfl, hb⟩
    obtain ⟨hc, hf⟩ := bcell hb
    have hs : w.heap.size + 1 < w1.heap.size := by have := hb.size; simp at this; omega
    have ht : w.heap.size < w1.heap.size := by omega
    go_wp2_with fail
    refine (wf_any _ _ _).mono ?_
    rintro e w2 ⟨rfl, hb2⟩
    go_wp2_with fail
    go_ret2
    exact ⟨ret_pair HE.out.2.symm HE.out.1.symm, ((((Below.refl _ _).alloc (Nat.le_refl _) _).alloc (by simp) _).trans (hb.mono (by simp; omega))).trans (hb2.mono (by omega))⟩
  · have HE := Lib.hid (both_yes h1 h2)
    go_enter Try.func27, Try.ntmps27
    go_wp2_with fail
    refine (wf_any _ _ _).mono ?_
    rintro e w1 ⟨rfl, hb⟩
    obtain ⟨hc, hf⟩ := bcell hb
    have hs : w.heap.size + 1 < w1.heap.size := by have := hb.size; simp at this; omega
    have ht : w.heap.size < w1.heap.size := by omega
    go_wp2_with fail
    refine (wf_any _ _ _).mono ?_
    rintro e w2 ⟨rfl, hb2⟩
    obtain ⟨hc2, hf2⟩ := bcell hb2
    have hs2 : w.heap.size + 1 < w2.heap.size := by have := hb2.size; omega
    have ht2 : w.heap.size < w2.heap.size := by omega
    go_wp2_with fail
    refine (cmpvals_any _ _ _ _ h1 h2 _).mono ?_
    rintro e w3 ⟨rfl, hb3⟩
    go_wp2_with fail
    go_ret2
    exact ⟨ret_pair HE.out.2.symm HE.out.1.symm, (((((Below.refl _ _).alloc (Nat.le_refl _) _).alloc (by simp) _).trans (hb.mono (by simp; omega))).trans (hb2.mono (by omega))).trans (hb3.mono (by omega))⟩

theorem rcompare_any (a b c d : Int) (w : World) :
    Calls Try.prog 28 #[rat a b, rat c d] w (PairB (cmpR a b c d) (bothB a b c d) w) := by
  cases h1 : wfB a b
  · have HE := Lib.hid (both_no (a := a) (b := b) (c := c) (d := d) (by simp [h1]))
    go_enter Try.func28, Try.ntmps28
    go_wp2_with fail
    refine (rwf_any _ _ _).mono ?_
    rintro e w1 ⟨rfl, hb⟩
    go_wp2_with fail
    go_ret2
    exact ⟨ret_pair HE.out.2.symm HE.out.1.symm, (((Below.refl _ _).alloc (Nat.le_refl _) _).alloc (by simp) _).trans (hb.mono (by simp; omega))⟩
  cases h2 : wfB c d
  · have HE := Lib.hid (both_no (a := a) (b := b) (c := c) (d := d) (by simp [h2]))
    go_enter Try.func28, Try.ntmps28
    go_wp2_with fail
    refine (rwf_any _ _ _).mono ?_
    rintro e w1 ⟨rfl, hb⟩
    obtain ⟨hc, hf⟩ := bcell hb
    have hs : w.heap.size + 1 < w1.heap.size := by have := hb.size; simp at this; omega
    have ht : w.heap.size < w1.heap.size := by omega
    go_wp2_with fail
    refine (rwf_any _ _ _).mono ?_
    rintro e w2 ⟨rfl, hb2⟩
    go_wp2_with fail
    go_ret2
    exact ⟨ret_pair HE.out.2.symm HE.out.1.symm, ((((Below.refl _ _).alloc (Nat.le_refl _) _).alloc (by simp) _).trans (hb.mono (by simp; omega))).trans (hb2.mono (by omega))⟩
  · have HE := Lib.hid (both_yes h1 h2)
    obtain ⟨a1, a2, a3⟩ := wfB_bd h1
    obtain ⟨c1, c2, c3⟩ := wfB_bd h2
    have m1 := mul_small a1 (smB_true (x := d) (by omega) c3)
    have m2 := mul_small c1 (smB_true (x := b) (by omega) a3)
    have HZ := Lib.hid (show cmpZ (a * d) (c * b) = if a * d < c * b then -1 else if c * b < a * d then 1 else 0 from rfl)
    clear a1 c1
    go_enter Try.func28, Try.ntmps28
    go_wp2_with fail
    refine (rwf_any _ _ _).mono ?_
    rintro e w1 ⟨rfl, hb⟩
    obtain ⟨hc, hf⟩ := bcell hb
    have hs : w.heap.size + 1 < w1.heap.size := by have := hb.size; simp at this; omega
    have ht : w.heap.size < w1.heap.size := by omega
    go_wp2_with fail
    refine (rwf_any _ _ _).mono ?_
    rintro e w2 ⟨rfl, hb2⟩
    obtain ⟨hc2, hf2⟩ := bcell hb2
    have hs2 : w.heap.size + 1 < w2.heap.size := by have := hb2.size; omega
    have ht2 : w.heap.size < w2.heap.size := by omega
    have hw1 : IntKind.i64.wrap (a * d) = a * d := IntWalk.i64_in _ (by omega)
    have hw2 : IntKind.i64.wrap (c * b) = c * b := IntWalk.i64_in _ (by omega)
    go_wp2_with fail
    go_quiet (fail)
    clear hw1 hw2
    go_wp2_with fail
    all_goals
      go_ret2
      refine ⟨ret_pair ?_ HE.out.1.symm, below_drewN (((((Below.refl _ _).alloc (Nat.le_refl _) _).alloc (by simp) _).trans (hb.mono (by simp; omega))).trans (hb2.mono (by omega))) _⟩
      rw [HE.out.2, HZ.out]
      clear HZ HE
      (repeat' split) <;> first | rfl | omega

end Go.Proofs.Ytknpjfmpflbcfaa
