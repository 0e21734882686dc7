/-
  What the bags that the laws draw are like: bags, with small counts.
-/
import Derived.Test.YtdhhhmehkldliaaBBag
set_option linter.unusedVariables false
namespace Wh

theorem okRow_one (n : Int) : okRow [anyV n] = true := by
  simp only [okRow, List.all_cons, List.all_nil, Bool.and_true]
  exact anyV_valid n
theorem okRow_two (n m : Int) : okRow [anyV n, anyV m] = true := by
  simp only [okRow, List.all_cons, List.all_nil, Bool.and_true, Bool.and_eq_true]
  exact ⟨anyV_valid n, anyV_valid m⟩
theorem entN_row (zs : List Int) (i : Nat) : (entN zs i).row.length ≤ 2 ∧ okRow (entN zs i).row = true := by
  unfold entN rowN
  simp only
  split
  · exact ⟨by simp, okRow_one _⟩
  · exact ⟨by simp, okRow_two _ _⟩
theorem entN_cnt (zs : List Int) (i : Nat) : -3 ≤ (entN zs i).cnt ∧ (entN zs i).cnt ≤ 3 := by
  unfold entN
  simp only
  omega
theorem drawB_mem {zs : List Int} {n : Nat} {e : En} (h : e ∈ drawB zs n) : ∃ i, e = entN zs i := by
  unfold drawB at h
  obtain ⟨i, _, rfl⟩ := List.mem_map.1 h
  exact ⟨i, rfl⟩
theorem fitsE_of {es : List En} (h : ∀ e ∈ es, fitE e = 0) : fitsE es = 0 := by
  induction es with
  | nil => rfl
  | cons x es ih =>
    unfold fitsE
    rw [if_pos (h x List.mem_cons_self)]
    exact ih fun e he => h e (List.mem_cons_of_mem _ he)
theorem fits_draw (zs : List Int) (n : Nat) : fitsE (drawB zs n) = 0 := fitsE_of fun e he => by
  obtain ⟨i, rfl⟩ := drawB_mem he
  obtain ⟨h1, h2⟩ := entN_row zs i
  obtain ⟨h3, h4⟩ := entN_cnt zs i
  exact fitE_of (by omega) (by omega) (by omega) h2
theorem abs_draw (zs : List Int) (n : Nat) : absS (drawB zs n) ≤ 3 * (n : Int) := by
  induction n with
  | zero => simp [drawB, absS]
  | succ n ih =>
    obtain ⟨h3, h4⟩ := entN_cnt zs n
    rw [drawB_succ, absS_append]
    simp only [absS]
    split <;> omega
/-- Counts of a list are not greater than the sum of all. -/
theorem absS_mem {es : List En} {e : En} (h : e ∈ es) : - absS es ≤ e.cnt ∧ e.cnt ≤ absS es := by
  obtain ⟨i, hi⟩ := List.mem_iff_getElem?.1 h
  exact absS_at hi
theorem absS_nz (es : List En) : absS (nzL es) ≤ absS es := by
  unfold nzL
  induction es with
  | nil => exact Int.le_refl _
  | cons e es ih =>
    rw [List.filter_cons]
    split
    · simp only [absS]; omega
    · simp only [absS]
      split <;> omega
/-- What a drawn bag is: the bag of the entries that are drawn, without error. -/
theorem norm_draw (zs : List Int) {n : Nat} (hn : n ≤ 1000) : normOut (drawB zs n) = (bagL (drawB zs n), 0) := by
  unfold normOut sumOut
  rw [if_pos (fits_draw zs n)]
  have h1 := (sortL_facts _ (drawB zs n) (Nat.le_refl _)).2.2
  rw [drawB_length] at h1
  refine resOut_good ?_ fun e he => ?_
  · have : (nzL (sortL (drawB zs n))).length ≤ (sortL (drawB zs n)).length := List.length_filter_le _ _
    omega
  · have h2 := absS_mem he
    have h3 := absS_nz (sortL (drawB zs n))
    have h4 := absS_sort _ (drawB zs n) (Nat.le_refl _)
    have h5 := abs_draw zs n
    exact smallB_true.2 (by omega)
theorem bagZ_eq (zs : List Int) {n : Nat} (hn : n ≤ 1000) : bagZ zs n = bagL (drawB zs n) := by unfold bagZ; rw [norm_draw zs hn]
theorem bagZ_abs (zs : List Int) {n : Nat} (hn : n ≤ 1000) : absS (bagZ zs n) ≤ 3 * (n : Int) := by
  rw [bagZ_eq zs hn]
  have h3 := absS_nz (sortL (drawB zs n))
  have h4 := absS_sort _ (drawB zs n) (Nat.le_refl _)
  have h5 := abs_draw zs n
  unfold bagL
  omega
theorem bagZ_length (zs : List Int) {n : Nat} (hn : n ≤ 1000) : (bagZ zs n).length ≤ n := by
  rw [bagZ_eq zs hn]
  have h1 := (sortL_facts _ (drawB zs n) (Nat.le_refl _)).2.2
  rw [drawB_length] at h1
  have : (bagL (drawB zs n)).length ≤ (sortL (drawB zs n)).length := List.length_filter_le _ _
  omega
theorem bagZ_row (zs : List Int) {n : Nat} (hn : n ≤ 1000) {e : En} (he : e ∈ bagZ zs n) : e.row.length ≤ 2 ∧ okRow e.row = true := by
  rw [bagZ_eq zs hn] at he
  obtain ⟨x, hx, hr⟩ := sortL_mem _ _ (Nat.le_refl _) e (nzL_mem he).1
  obtain ⟨i, rfl⟩ := drawB_mem hx
  rw [← hr]
  exact entN_row zs i
/-- A drawn bag is a bag without error. -/
theorem bagZ_ok (zs : List Int) {n : Nat} (hn : n ≤ 1000) : OkBag (bagZ zs n) where
  len := by have := bagZ_length zs hn; omega
  bag := by rw [bagZ_eq zs hn]; exact bagL_bag _
  fit := fun e he => by
    obtain ⟨h1, h2⟩ := bagZ_row zs hn he
    have h3 := absS_mem he
    have h4 := bagZ_abs zs hn
    exact fitE_of (by omega) (by omega) (by omega) h2

end Wh
