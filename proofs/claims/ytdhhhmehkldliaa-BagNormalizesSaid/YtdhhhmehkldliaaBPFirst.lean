/-
  compareFirst, of the program; what merging with a sign comes to.
-/
import Derived.Test.YtdhhhmehkldliaaBPRead
import Derived.Test.YtdhhhmehkldliaaBPOwn
import Derived.Test.YtdhhhmehkldliaaBPlan
import Derived.Test.YtdhhhmehkldliaaBMerge
set_option linter.unusedVariables false
set_option maxRecDepth 100000
namespace Wh

/-- The comparison of the first rows; an empty list counts as greater. -/
def cmpF : List En → List En → Int
  | [], _ => 1
  | _ :: _, [] => -1
  | x :: _, y :: _ => cmpR x.row y.row
def sgnL (s : Int) (l : List En) : List En := l.map fun e => ⟨e.row, s * e.cnt⟩
theorem sgnL_one (l : List En) : sgnL 1 l = l := by unfold sgnL; simp
theorem sgnL_neg (l : List En) : sgnL (-1) l = negL l := by
  unfold sgnL negL
  congr 1
  funext e
  rw [Int.neg_one_mul]
theorem sgnL_cons (s : Int) (y : En) (l : List En) : sgnL s (y :: l) = ⟨y.row, s * y.cnt⟩ :: sgnL s l := rfl

theorem cmpF_nil (vs : List En) : cmpF [] vs = 1 := by cases vs <;> rfl

/-- One step of merging: from the left, from the right, or from both. -/
theorem cmpF_step (s : Int) (us vs : List En) (h : ¬ (us = [] ∧ vs = [])) :
    (cmpF us vs = -1 ∧ ∃ x us', us = x :: us' ∧ mergeL us (sgnL s vs) = x :: mergeL us' (sgnL s vs)) ∨
    (cmpF us vs = 1 ∧ ∃ y vs', vs = y :: vs' ∧ mergeL us (sgnL s vs) = ⟨y.row, s * y.cnt⟩ :: mergeL us (sgnL s vs')) ∨
    (cmpF us vs = 0 ∧ ∃ x us' y vs', us = x :: us' ∧ vs = y :: vs' ∧ x.row = y.row ∧ mergeL us (sgnL s vs) = ⟨y.row, x.cnt + s * y.cnt⟩ :: mergeL us' (sgnL s vs')) := by
  cases us with
  | nil =>
    cases vs with
    | nil => exact absurd ⟨rfl, rfl⟩ h
    | cons y vs => exact .inr (.inl ⟨rfl, y, vs, rfl, by rw [sgnL_cons, mergeL_nil, mergeL_nil]⟩)
  | cons x us =>
    cases vs with
    | nil => exact .inl ⟨rfl, x, us, rfl, by show mergeL (x :: us) [] = x :: mergeL us []; rw [mergeL_none, mergeL_none]⟩
    | cons y vs =>
      rcases cmpR_vals x.row y.row with hc | hc | hc
      · refine .inl ⟨hc, x, us, rfl, ?_⟩
        rw [sgnL_cons, mergeL_cons, if_pos (by show cmpR x.row y.row < 0; omega)]
      · have hr := (cmpR_zero _ _).1 hc
        refine .inr (.inr ⟨hc, x, us, y, vs, rfl, rfl, hr, ?_⟩)
        rw [sgnL_cons, mergeL_cons, if_neg (by show ¬ cmpR x.row y.row < 0; omega), if_neg (by show ¬ 0 < cmpR x.row y.row; omega), hr]
      · refine .inr (.inl ⟨hc, y, vs, rfl, ?_⟩)
        rw [sgnL_cons, mergeL_cons, if_neg (by show ¬ cmpR x.row y.row < 0; omega), if_pos (by show 0 < cmpR x.row y.row; omega)]
theorem nzL_cons_zero {e : En} (l : List En) (h : e.cnt = 0) : nzL (e :: l) = nzL l := by unfold nzL; rw [List.filter_cons_of_neg (by simp [h])]
theorem nzL_cons_more {e : En} (l : List En) (h : ¬ e.cnt = 0) : nzL (e :: l) = e :: nzL l := by unfold nzL; rw [List.filter_cons_of_pos (by simp [h])]

end Wh
namespace Go.Proofs.Ytdhhhmehkldliaa
open Go.RowKit Wh

set_option maxHeartbeats 2000000 in
theorem cfirst_any (a : Option Addr) (la ca : Nat) (us : List En) (b : Option Addr) (lb cb : Nat) (vs : List En) (w : World) (hu : IsEnts w a la us) (hv : IsEnts w b lb vs) (q1 : la ≤ 9223372036854775807) (q2 : lb ≤ 9223372036854775807) :
    Calls Try.prog 84 #[.slice a la ca, .slice b lb cb] w fun e w' => e = .returned (.int .i64 (cmpF us vs)) ∧ Below w.heap.size w w' := by
  have hul := hu.1
  have hvl := hv.1
  by_cases ha0 : la = 0
  · have hus : us = [] := List.eq_nil_of_length_eq_zero (by omega)
    subst hus
    rw [cmpF_nil]
    subst ha0
    clear hu hv
    go_enter Try.func84, Try.ntmps84
    go_wp2_with fail
    go_ret
    exact ⟨rfl, Below.refl _ _⟩
  obtain ⟨r1, n1, ra1, rl1, rc1, b1, off1, h1, rfl, hbl1, c0, c1, hv1, k11, k12, k13⟩ := hu.at (k := 0) (by omega)
  have hc1 := cons_of h1
  by_cases hb0 : lb = 0
  · have hvs : vs = [] := List.eq_nil_of_length_eq_zero (by omega)
    subst hvs
    rw [hc1]
    show Calls _ _ _ _ fun e w' => e = .returned (.int .i64 (-1)) ∧ _
    subst hb0
    have hla0 : ((la : Int) == 0) = false := by simpa using ha0
    clear hu hv hc1 h1 hv1
    go_enter Try.func84, Try.ntmps84
    go_wp2_with fail
    go_ret
    exact ⟨rfl, Below.refl _ _⟩
  obtain ⟨r2, n2, ra2, rl2, rc2, b2, off2, h2, rfl, hbl2, d0, d1, hv2, k21, k22, k23⟩ := hv.at (k := 0) (by omega)
  have hc2 := cons_of h2
  rw [hc1, hc2]
  show Calls _ _ _ _ fun e w' => e = .returned (.int .i64 (cmpR r1 r2)) ∧ _
  have mm : maxLen = 9223372036854775807 := rfl
  have CR := Lib.hid (fun W (h : Below w.heap.size w W) => cmp_ents ra1 rl1 rc1 r1 n1 ra2 rl2 rc2 r2 n2 W (hv1.below h (Nat.le_refl _)) (hv2.below h (Nat.le_refl _)) (by omega) (by omega))
  simp only [Nat.zero_mul, Nat.add_zero] at c0 c1 d0 d1
  generalize cmpR r1 r2 = c at *
  have hla : (0 : Int) < (la : Int) := by omega
  have hlb : (0 : Int) < (lb : Int) := by omega
  have hla0 : ((la : Int) == 0) = false := by simpa using ha0
  have hlb0 : ((lb : Int) == 0) = false := by simpa using hb0
  have hS0 : w.drew.cell? ⟨b1, off1, none⟩ = some (.slice ra1 rl1 rc1) ∧ w.drew.cell? ⟨b1, off1 + 1, none⟩ = some (.int .i64 n1) ∧ w.drew.cell? ⟨b2, off2, none⟩ = some (.slice ra2 rl2 rc2) ∧ w.drew.cell? ⟨b2, off2 + 1, none⟩ = some (.int .i64 n2) ∧ Below w.heap.size w w.drew := ⟨c0, c1, d0, d1, (Below.refl _ _).drew⟩
  clear hu hv hc1 hc2 h1 h2 hv1 hv2 c0 c1 d0 d1 mm hul hvl
  go_enter Try.func84, Try.ntmps84
  go_wp2_with fail
  have hi9 : (0 : Int) < (la : Int) := by omega
  have hi8 : 0 < la := by omega
  have hj9 : (0 : Int) < (lb : Int) := by omega
  have hj8 : 0 < lb := by omega
  go_region_held3 (fun w' => w'.cell? ⟨b1, off1, none⟩ = some (.slice ra1 rl1 rc1) ∧ w'.cell? ⟨b1, off1 + 1, none⟩ = some (.int .i64 n1) ∧ w'.cell? ⟨b2, off2, none⟩ = some (.slice ra2 rl2 rc2) ∧ w'.cell? ⟨b2, off2 + 1, none⟩ = some (.int .i64 n2) ∧ Below w.heap.size w w')
    (first | with_reducible exact hS0 | with_reducible exact keepFourCells hbl1 hbl2 hS0 hcall)
    (first | (go_at_call 49; refine (CR.out _ (by go_split_ands; assumption)).mono ?_; rintro e w' ⟨rfl, hcall⟩; have hcall := hcall.1))
  all_goals
    have hF := (keepFourCells hbl1 hbl2 hS0 hcall).2.2.2.2
    go_wp2_with fail
    go_ret
    exact ⟨rfl, hF⟩

end Go.Proofs.Ytdhhhmehkldliaa
