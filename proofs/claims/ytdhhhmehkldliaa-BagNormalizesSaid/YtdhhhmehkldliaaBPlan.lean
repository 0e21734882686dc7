/-
  Bags, plainly: what the program's own steps (adding up neighbours, deleting zeros) come to. No program.
-/
import Derived.Test.YtdhhhmehkldliaaBPush
set_option linter.unusedVariables false
namespace Wh
open Go

/-- A list as a bag, if it keeps the limits. -/
def resP (l : List En) : List En × Int := if l.length ≤ 4096 ∧ (∀ e ∈ l, smallB e.cnt = true) then (l, 0) else ([], 2)
theorem resOut_eq (l : List En) : resOut l = resP (nzL l) := rfl
theorem nzL_self {l : List En} (h : ∀ e ∈ l, ¬ e.cnt = 0) : nzL l = l := by
  unfold nzL
  rw [List.filter_eq_self]
  intro e he
  simpa using h e he

/-- Rows in order; equal ones next to one another. -/
def AscE (l : List En) : Prop := l.Pairwise fun x y => cmpR x.row y.row ≤ 0

/-- One entry more: if its row is the last one, its count is added there. -/
def addLast (acc : List En) (e : En) : List En := match acc[acc.length - 1]? with
  | none => [e]
  | some x => if cmpR x.row e.row = 0 then acc.set (acc.length - 1) ⟨x.row, x.cnt + e.cnt⟩ else acc ++ [e]
def dd (l : List En) : List En := l.foldl addLast []

theorem dd_next {l : List En} {k : Nat} {e : En} (h : l[k]? = some e) : dd (l.take (k + 1)) = addLast (dd (l.take k)) e := by
  unfold dd
  rw [List.take_add_one, h, List.foldl_append]
  rfl
theorem addLast_nil (e : En) : addLast [] e = [e] := rfl
theorem addLast_snoc (pre : List En) (x e : En) : addLast (pre ++ [x]) e = if cmpR x.row e.row = 0 then pre ++ [⟨x.row, x.cnt + e.cnt⟩] else pre ++ [x] ++ [e] := by
  unfold addLast
  simp

theorem snoc_of {l : List En} (h : ¬ l = []) : ∃ pre x, l = pre ++ [x] := ⟨l.dropLast, l.getLast h, (List.dropLast_concat_getLast h).symm⟩

theorem addLast_facts {l acc : List En} {k : Nat} {e : En} (hs : AscE l) (h : l[k]? = some e) (a1 : Asc acc) (a2 : ∀ r, cntL acc r = cntL (l.take k) r) (a3 : ∀ x ∈ acc, ∃ y ∈ l.take k, y.row = x.row) (a4 : acc.length ≤ k) (a5 : absS acc ≤ absS (l.take k)) :
    Asc (addLast acc e) ∧ (∀ r, cntL (addLast acc e) r = cntL (l.take (k + 1)) r) ∧ (∀ x ∈ addLast acc e, ∃ y ∈ l.take (k + 1), y.row = x.row) ∧ (addLast acc e).length ≤ k + 1 ∧ absS (addLast acc e) ≤ absS (l.take (k + 1)) := by
  have ht : l.take (k + 1) = l.take k ++ [e] := by rw [List.take_add_one, h]; rfl
  have hle : ∀ y ∈ l.take k, cmpR y.row e.row ≤ 0 := by
    have h1 : AscE (l.take (k + 1)) := hs.sublist (List.take_sublist _ _)
    rw [ht] at h1
    exact fun y hy => (List.pairwise_append.1 h1).2.2 y hy e (by simp)
  have c1 : ∀ r, cntL (l.take (k + 1)) r = cntL (l.take k) r + (if cmpR e.row r = 0 then e.cnt else 0) := fun r => by rw [ht, cntL_append]; simp [cntL]
  have c2 : absS (l.take (k + 1)) = absS (l.take k) + (if e.cnt < 0 then - e.cnt else e.cnt) := by rw [ht, absS_append]; simp [absS]
  have up : ∀ x ∈ acc, ∃ y ∈ l.take (k + 1), y.row = x.row := fun x hx => by
    obtain ⟨y, hy, hr⟩ := a3 x hx
    exact ⟨y, by rw [ht]; exact List.mem_append_left _ hy, hr⟩
  by_cases hn : acc = []
  · subst hn
    rw [addLast_nil]
    refine ⟨List.pairwise_singleton _ _, fun r => ?_, fun x hx => ⟨e, by rw [ht]; simp, by simp at hx; rw [hx]⟩, by simp, ?_⟩
    · rw [c1, ← a2]; simp [cntL]
    · rw [c2]
      have := absS_nonneg (l.take k)
      simp only [absS]
      omega
  · obtain ⟨pre, x, rfl⟩ := snoc_of hn
    obtain ⟨y, hy, hyr⟩ := a3 x (by simp)
    have hxe := hle y hy
    rw [hyr] at hxe
    obtain ⟨p1, p2, p3⟩ := List.pairwise_append.1 a1
    rw [addLast_snoc]
    by_cases hc : cmpR x.row e.row = 0
    · rw [if_pos hc]
      have er := (cmpR_zero _ _).1 hc
      refine ⟨List.pairwise_append.2 ⟨p1, List.pairwise_singleton _ _, fun u hu v hv => ?_⟩, fun r => ?_, fun u hu => ?_, by simp at a4 ⊢; omega, ?_⟩
      · simp only [List.mem_singleton] at hv
        subst hv
        exact p3 u hu x (by simp)
      · have := a2 r
        rw [c1, ← this, cntL_append, cntL_append]
        simp only [cntL, er]
        split <;> omega
      · rcases List.mem_append.1 hu with hu | hu
        · exact up u (List.mem_append_left _ hu)
        · simp only [List.mem_singleton] at hu
          subst hu
          exact up x (by simp)
      · rw [c2]
        rw [absS_append] at a5 ⊢
        simp only [absS] at a5 ⊢
        split <;> split at a5 <;> split <;> omega
    · rw [if_neg hc]
      refine ⟨List.pairwise_append.2 ⟨a1, List.pairwise_singleton _ _, fun u hu v hv => ?_⟩, fun r => ?_, fun u hu => ?_, by simp at a4 ⊢; omega, ?_⟩
      · simp only [List.mem_singleton] at hv
        subst hv
        have hlt : cmpR x.row v.row < 0 := by omega
        rcases List.mem_append.1 hu with hu | hu
        · exact cmpR_trans _ _ _ (p3 u hu x (by simp)) hlt
        · simp only [List.mem_singleton] at hu
          subst hu
          exact hlt
      · have := a2 r
        rw [c1, ← this, cntL_append _ [e]]
        simp [cntL]
      · rcases List.mem_append.1 hu with hu | hu
        · exact up u hu
        · simp only [List.mem_singleton] at hu
          subst hu
          exact ⟨u, by rw [ht]; simp, rfl⟩
      · rw [c2, absS_append _ [e]]
        simp only [absS]
        omega

theorem dd_facts {l : List En} (hs : AscE l) : ∀ k, k ≤ l.length → Asc (dd (l.take k)) ∧ (∀ r, cntL (dd (l.take k)) r = cntL (l.take k) r) ∧ (∀ x ∈ dd (l.take k), ∃ y ∈ l.take k, y.row = x.row) ∧ (dd (l.take k)).length ≤ k ∧ absS (dd (l.take k)) ≤ absS (l.take k) := by
  intro k
  induction k with
  | zero => exact fun _ => ⟨by simp [dd, Asc], fun r => by simp [dd, cntL], by simp [dd], by simp [dd], by simp [dd]⟩
  | succ k ih =>
    intro hk
    obtain ⟨a1, a2, a3, a4, a5⟩ := ih (by omega)
    have h : l[k]? = some l[k] := List.getElem?_eq_getElem (by omega)
    rw [dd_next h]
    exact addLast_facts hs h a1 a2 a3 a4 a5
theorem dd_all {l : List En} (hs : AscE l) : Asc (dd l) ∧ (∀ r, cntL (dd l) r = cntL l r) ∧ (∀ x ∈ dd l, ∃ y ∈ l, y.row = x.row) ∧ (dd l).length ≤ l.length ∧ absS (dd l) ≤ absS l := by
  have := dd_facts hs l.length (Nat.le_refl _)
  rwa [List.take_length] at this

/-- How 'sums' goes on at place k: at the last place, or one place more. -/
theorem dd_step {l : List En} {k : Nat} {e : En} (h : l[k]? = some e) :
    (dd (l.take k) = [] ∧ dd (l.take (k + 1)) = [e]) ∨ ∃ s x, (dd (l.take k)).length = s + 1 ∧ (dd (l.take k))[s]? = some x ∧
      ((cmpR x.row e.row = 0 ∧ dd (l.take (k + 1)) = (dd (l.take k)).set s ⟨x.row, x.cnt + e.cnt⟩) ∨ (¬ cmpR x.row e.row = 0 ∧ dd (l.take (k + 1)) = dd (l.take k) ++ [e])) := by
  rw [dd_next h]
  generalize dd (l.take k) = acc
  by_cases hn : acc = []
  · subst hn; exact .inl ⟨rfl, rfl⟩
  · refine .inr ?_
    have hl : 0 < acc.length := List.length_pos_iff.2 hn
    refine ⟨acc.length - 1, acc[acc.length - 1], by omega, List.getElem?_eq_getElem (by omega), ?_⟩
    unfold addLast
    rw [List.getElem?_eq_getElem (by omega)]
    simp only
    by_cases hc : cmpR acc[acc.length - 1].row e.row = 0
    · exact .inl ⟨hc, if_pos hc⟩
    · exact .inr ⟨hc, if_neg hc⟩

theorem cntL_perm {a b : List En} (h : a.Perm b) (r : List V) : cntL a r = cntL b r := by
  induction h with
  | nil => rfl
  | cons x _ ih => simp only [cntL, ih]
  | swap x y l => simp only [cntL]; omega
  | trans _ _ ih1 ih2 => exact ih1.trans ih2
theorem absS_perm {a b : List En} (h : a.Perm b) : absS a = absS b := by
  induction h with
  | nil => rfl
  | cons x _ ih => simp only [absS, ih]
  | swap x y l => simp only [absS]; omega
  | trans _ _ ih1 ih2 => exact ih1.trans ih2

/-- What is collected from a sorted list is the bag. -/
theorem nz_dd {l l' : List En} (hs : AscE l') (hp : l'.Perm l) : nzL (dd l') = bagL l := by
  obtain ⟨d1, d2, _⟩ := dd_all hs
  exact bag_ext ⟨nzL_asc d1, fun e he => (nzL_mem he).2⟩ (bagL_bag l) fun r => by rw [nzL_cnt, d2, cntL_perm hp, bagL_cnt]
theorem sumOut_eq (l : List En) : sumOut l = resP (bagL l) := rfl

/-- The entries for whose count p does not hold. -/
def dropL (p : Int → Bool) (l : List En) : List En := l.filter fun e => !p e.cnt
theorem dropL_nz (l : List En) : dropL (fun n => decide (n = 0)) l = nzL l := rfl
theorem nz_atLeast0 (m : List En) : nzL (atLeast0 m) = dropL (fun n => decide (n < 0)) (nzL m) := by
  unfold nzL atLeast0 dropL
  induction m with
  | nil => rfl
  | cons e m ih =>
    rcases Int.lt_trichotomy e.cnt 0 with h | h | h
    · rw [List.map_cons, List.filter_cons_of_neg (by simp; omega), List.filter_cons_of_pos (by simp; omega), List.filter_cons_of_neg (by simp; omega), ih]
    · rw [List.map_cons, List.filter_cons_of_neg (by simp; omega), List.filter_cons_of_neg (by simp [h]), ih]
    · rw [List.map_cons, List.filter_cons_of_pos (by simp; omega), List.filter_cons_of_pos (by simp; omega), List.filter_cons_of_pos (by simp; omega), ih]
      congr 1
      rw [Int.max_eq_right (by omega)]

end Wh
