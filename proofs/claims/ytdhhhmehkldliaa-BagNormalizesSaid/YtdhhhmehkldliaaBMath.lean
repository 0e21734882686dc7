/-
  Bags, plainly: lists of entries in the order of their rows, their counts, merging and sorting. No program.
-/
import Derived.Test.YtdhhhmehkldliaaOrder
set_option linter.unusedVariables false
namespace Wh
open Go

theorem cmpR_vals : ∀ a b : List V, cmpR a b = -1 ∨ cmpR a b = 0 ∨ cmpR a b = 1
  | [], [] => by simp [cmpR]
  | [], _ :: _ => by simp [cmpR]
  | _ :: _, [] => by simp [cmpR]
  | x :: a, y :: b => by
    have ih := cmpR_vals a b
    have hv := cmpV_vals x y
    unfold cmpR
    split
    · exact hv
    · exact ih
theorem cmpR_neg : ∀ a b : List V, cmpR b a = - cmpR a b
  | [], [] => by simp [cmpR]
  | [], _ :: _ => by simp [cmpR]
  | _ :: _, [] => by simp [cmpR]
  | x :: a, y :: b => by
    have ih := cmpR_neg a b
    have hv := cmpV_neg x y
    unfold cmpR
    by_cases h : cmpV x y = 0
    · have h2 : cmpV y x = 0 := by omega
      simp [h, h2, ih]
    · simp [h, hv]
theorem cmpR_trans : ∀ a b c : List V, cmpR a b < 0 → cmpR b c < 0 → cmpR a c < 0
  | [], [], _ => by simp [cmpR]
  | [], _ :: _, [] => by simp [cmpR]
  | [], _ :: _, _ :: _ => by simp [cmpR]
  | _ :: _, [], _ => by simp [cmpR]
  | _ :: _, _ :: _, [] => by simp [cmpR]
  | x :: a, y :: b, z :: c => by
    have ih := cmpR_trans a b c
    have l1 := cmpV_le x y z
    unfold cmpR
    by_cases h : cmpV x y = 0
    · have e := (cmpV_zero x y).1 h
      subst e
      by_cases h2 : cmpV x z = 0
      · simp only [h, h2, beq_self_eq_true, Bool.true_eq_false, if_false]
        exact ih
      · intro _ hb
        simp only [show (cmpV x z == 0) = false by simpa using h2, if_true] at hb ⊢
        exact hb
    · intro ha
      simp only [show (cmpV x y == 0) = false by simpa using h, if_true] at ha
      by_cases h2 : cmpV y z = 0
      · have e := (cmpV_zero y z).1 h2
        subst e
        intro _
        simp only [show (cmpV x y == 0) = false by simpa using h, if_true]
        exact ha
      · intro hb
        simp only [show (cmpV y z == 0) = false by simpa using h2, if_true] at hb
        have h3 := (l1 (by omega) (by omega)).2 ha
        simp only [show (cmpV x z == 0) = false by simp; omega, if_true]
        exact h3

/-- An entry: a row and its count. -/
structure En where
  row : List V
  cnt : Int

/-- The count of a row in a list of entries. -/
def cntL : List En → List V → Int
  | [], _ => 0
  | e :: es, r => (if cmpR e.row r = 0 then e.cnt else 0) + cntL es r
/-- Are the rows ascending? -/
def Asc (es : List En) : Prop := es.Pairwise fun x y => cmpR x.row y.row < 0

theorem cntL_append (a b : List En) (r : List V) : cntL (a ++ b) r = cntL a r + cntL b r := by
  induction a with
  | nil => simp [cntL]
  | cons e a ih => simp only [List.cons_append, cntL, ih]; omega
theorem cntL_zero {es : List En} {r : List V} (h : ∀ e ∈ es, ¬ cmpR e.row r = 0) : cntL es r = 0 := by
  induction es with
  | nil => rfl
  | cons e es ih =>
    unfold cntL
    rw [if_neg (h e List.mem_cons_self), ih fun x hx => h x (List.mem_cons_of_mem _ hx)]
    rfl

/-- Two lists merged by their rows; the counts of equal rows are added. -/
def mergeL : List En → List En → List En
  | [], b => b
  | x :: a, [] => x :: a
  | x :: a, y :: b => if cmpR x.row y.row < 0 then x :: mergeL a (y :: b) else if 0 < cmpR x.row y.row then y :: mergeL (x :: a) b else ⟨x.row, x.cnt + y.cnt⟩ :: mergeL a b
termination_by a b => a.length + b.length

theorem mergeL_nil (b : List En) : mergeL [] b = b := by unfold mergeL; rfl
theorem mergeL_none (a : List En) : mergeL a [] = a := by cases a <;> (unfold mergeL; rfl)
theorem mergeL_cons (x y : En) (a b : List En) : mergeL (x :: a) (y :: b) = if cmpR x.row y.row < 0 then x :: mergeL a (y :: b) else if 0 < cmpR x.row y.row then y :: mergeL (x :: a) b else ⟨x.row, x.cnt + y.cnt⟩ :: mergeL a b := by
  rw [mergeL]

theorem mergeL_cnt : ∀ (n : Nat) (a b : List En), a.length + b.length ≤ n → ∀ r, cntL (mergeL a b) r = cntL a r + cntL b r
  | _, [], b, _, r => by rw [mergeL_nil]; simp [cntL]
  | _, x :: a, [], _, r => by rw [mergeL_none]; simp [cntL]
  | 0, x :: a, y :: b, h, r => by simp at h
  | n + 1, x :: a, y :: b, h, r => by
    simp only [List.length_cons] at h
    rw [mergeL_cons]
    split
    · simp only [cntL]
      rw [mergeL_cnt n a (y :: b) (by simp; omega) r]
      simp only [cntL]
      omega
    · split
      · simp only [cntL]
        rw [mergeL_cnt n (x :: a) b (by simp; omega) r]
        simp only [cntL]
        omega
      · have e := (cmpR_zero x.row y.row).1 (by have := cmpR_vals x.row y.row; omega)
        simp only [cntL]
        rw [mergeL_cnt n a b (by omega) r, e]
        split <;> omega

theorem mergeL_mem : ∀ (n : Nat) (a b : List En), a.length + b.length ≤ n → ∀ e ∈ mergeL a b, ∃ x, (x ∈ a ∨ x ∈ b) ∧ x.row = e.row
  | _, [], b, _, e, he => by rw [mergeL_nil] at he; exact ⟨e, .inr he, rfl⟩
  | _, x :: a, [], _, e, he => by rw [mergeL_none] at he; exact ⟨e, .inl he, rfl⟩
  | 0, x :: a, y :: b, h, e, he => by simp at h
  | n + 1, x :: a, y :: b, h, e, he => by
    simp only [List.length_cons] at h
    rw [mergeL_cons] at he
    split at he
    · rcases List.mem_cons.1 he with rfl | he
      · exact ⟨e, .inl List.mem_cons_self, rfl⟩
      · obtain ⟨u, hu, hr⟩ := mergeL_mem n a (y :: b) (by simp; omega) e he
        exact ⟨u, hu.imp (List.mem_cons_of_mem _) id, hr⟩
    · split at he
      · rcases List.mem_cons.1 he with rfl | he
        · exact ⟨e, .inr List.mem_cons_self, rfl⟩
        · obtain ⟨u, hu, hr⟩ := mergeL_mem n (x :: a) b (by simp; omega) e he
          exact ⟨u, hu.imp id (List.mem_cons_of_mem _), hr⟩
      · rcases List.mem_cons.1 he with rfl | he
        · exact ⟨x, .inl List.mem_cons_self, rfl⟩
        · obtain ⟨u, hu, hr⟩ := mergeL_mem n a b (by omega) e he
          exact ⟨u, hu.imp (List.mem_cons_of_mem _) (List.mem_cons_of_mem _), hr⟩

theorem mergeL_length : ∀ (n : Nat) (a b : List En), a.length + b.length ≤ n → (mergeL a b).length ≤ a.length + b.length
  | _, [], b, _ => by rw [mergeL_nil]; simp
  | _, x :: a, [], _ => by rw [mergeL_none]; simp
  | 0, x :: a, y :: b, h => by simp at h
  | n + 1, x :: a, y :: b, h => by
    simp only [List.length_cons] at h
    rw [mergeL_cons]
    split
    · have := mergeL_length n a (y :: b) (by simp; omega)
      simp only [List.length_cons] at this ⊢
      omega
    · split
      · have := mergeL_length n (x :: a) b (by simp; omega)
        simp only [List.length_cons] at this ⊢
        omega
      · have := mergeL_length n a b (by omega)
        simp only [List.length_cons]
        omega

theorem mergeL_asc : ∀ (n : Nat) (a b : List En), a.length + b.length ≤ n → Asc a → Asc b → Asc (mergeL a b)
  | _, [], b, _, _, hb => by rw [mergeL_nil]; exact hb
  | _, x :: a, [], _, ha, _ => by rw [mergeL_none]; exact ha
  | 0, x :: a, y :: b, h, _, _ => by simp at h
  | n + 1, x :: a, y :: b, h, ha, hb => by
    simp only [List.length_cons] at h
    obtain ⟨ha1, ha2⟩ := List.pairwise_cons.1 ha
    obtain ⟨hb1, hb2⟩ := List.pairwise_cons.1 hb
    rw [mergeL_cons]
    split
    · rename_i hlt
      refine List.pairwise_cons.2 ⟨fun e he => ?_, mergeL_asc n a (y :: b) (by simp; omega) ha2 hb⟩
      obtain ⟨u, hu, hr⟩ := mergeL_mem n a (y :: b) (by simp; omega) e he
      rw [← hr]
      rcases hu with hu | hu
      · exact ha1 u hu
      · rcases List.mem_cons.1 hu with rfl | hu
        · exact hlt
        · exact cmpR_trans _ _ _ hlt (hb1 u hu)
    · split
      · rename_i hlt
        have hlt' : cmpR y.row x.row < 0 := by have := cmpR_neg x.row y.row; omega
        refine List.pairwise_cons.2 ⟨fun e he => ?_, mergeL_asc n (x :: a) b (by simp; omega) ha hb2⟩
        obtain ⟨u, hu, hr⟩ := mergeL_mem n (x :: a) b (by simp; omega) e he
        rw [← hr]
        rcases hu with hu | hu
        · rcases List.mem_cons.1 hu with rfl | hu
          · exact hlt'
          · exact cmpR_trans _ _ _ hlt' (ha1 u hu)
        · exact hb1 u hu
      · have e0 := (cmpR_zero x.row y.row).1 (by have := cmpR_vals x.row y.row; omega)
        refine List.pairwise_cons.2 ⟨fun e he => ?_, mergeL_asc n a b (by omega) ha2 hb2⟩
        obtain ⟨u, hu, hr⟩ := mergeL_mem n a b (by omega) e he
        rw [← hr]
        rcases hu with hu | hu
        · exact ha1 u hu
        · show cmpR x.row u.row < 0
          rw [e0]
          exact hb1 u hu

/-- Sorting by halves. -/
def sortL (l : List En) : List En :=
  if h : l.length < 2 then l else mergeL (sortL (l.take (l.length / 2))) (sortL (l.drop (l.length / 2)))
termination_by l.length
decreasing_by
  · simp only [List.length_take]; omega
  · simp only [List.length_drop]; omega

theorem sortL_small {l : List En} (h : l.length < 2) : sortL l = l := by rw [sortL, dif_pos h]
theorem sortL_halves {l : List En} (h : ¬ l.length < 2) : sortL l = mergeL (sortL (l.take (l.length / 2))) (sortL (l.drop (l.length / 2))) := by rw [sortL, dif_neg h]

theorem sortL_facts : ∀ (n : Nat) (l : List En), l.length ≤ n → Asc (sortL l) ∧ (∀ r, cntL (sortL l) r = cntL l r) ∧ (sortL l).length ≤ l.length := by
  intro n
  induction n with
  | zero =>
    intro l h
    rw [sortL_small (by omega)]
    match l, h with
    | [], _ => exact ⟨List.Pairwise.nil, fun _ => rfl, Nat.le_refl _⟩
  | succ n ih =>
    intro l h
    by_cases h2 : l.length < 2
    · rw [sortL_small h2]
      refine ⟨?_, fun _ => rfl, Nat.le_refl _⟩
      match l, h2 with
      | [], _ => exact List.Pairwise.nil
      | [x], _ => exact List.pairwise_singleton _ _
    · rw [sortL_halves h2]
      obtain ⟨a1, c1, l1⟩ := ih (l.take (l.length / 2)) (by rw [List.length_take]; omega)
      obtain ⟨a2, c2, l2⟩ := ih (l.drop (l.length / 2)) (by rw [List.length_drop]; omega)
      refine ⟨mergeL_asc _ _ _ (Nat.le_refl _) a1 a2, fun r => ?_, ?_⟩
      · rw [mergeL_cnt _ _ _ (Nat.le_refl _), c1, c2, ← cntL_append, List.take_append_drop]
      · have := mergeL_length _ _ _ (Nat.le_refl ((sortL (l.take (l.length / 2))).length + (sortL (l.drop (l.length / 2))).length))
        rw [List.length_take] at l1
        rw [List.length_drop] at l2
        omega

/-- The entries whose count is not 0. -/
def nzL (l : List En) : List En := l.filter fun e => !decide (e.cnt = 0)

theorem nzL_mem {l : List En} {e : En} (h : e ∈ nzL l) : e ∈ l ∧ ¬ e.cnt = 0 := by
  unfold nzL at h
  rw [List.mem_filter] at h
  exact ⟨h.1, by simpa using h.2⟩
theorem nzL_cnt (l : List En) (r : List V) : cntL (nzL l) r = cntL l r := by
  unfold nzL
  induction l with
  | nil => rfl
  | cons e l ih =>
    by_cases h : e.cnt = 0
    · rw [List.filter_cons_of_neg (by simp [h]), ih]
      unfold cntL
      rw [h]
      split <;> simp [cntL]
    · rw [List.filter_cons_of_pos (by simp [h])]
      simp only [cntL, ih]
theorem nzL_asc {l : List En} (h : Asc l) : Asc (nzL l) := List.Pairwise.filter _ h

/-- A bag: ascending, without counts of 0. -/
structure BagP (l : List En) : Prop where
  asc : Asc l
  nz : ∀ e ∈ l, ¬ e.cnt = 0

theorem bag_ext : ∀ {a b : List En}, BagP a → BagP b → (∀ r, cntL a r = cntL b r) → a = b
  | [], [], _, _, _ => rfl
  | [], y :: b, _, hb, h => by
    have h1 := h y.row
    have : cntL b y.row = 0 := cntL_zero fun e he => by
      have := (List.pairwise_cons.1 hb.asc).1 e he
      have := cmpR_neg y.row e.row
      omega
    simp only [cntL, (cmpR_zero y.row y.row).2 rfl, if_pos, this] at h1
    exact absurd (by omega) (hb.nz y List.mem_cons_self)
  | x :: a, [], ha, _, h => by
    have h1 := h x.row
    have : cntL a x.row = 0 := cntL_zero fun e he => by
      have := (List.pairwise_cons.1 ha.asc).1 e he
      have := cmpR_neg x.row e.row
      omega
    simp only [cntL, (cmpR_zero x.row x.row).2 rfl, if_pos, this] at h1
    exact absurd (by omega) (ha.nz x List.mem_cons_self)
  | x :: a, y :: b, ha, hb, h => by
    obtain ⟨ha1, ha2⟩ := List.pairwise_cons.1 ha.asc
    obtain ⟨hb1, hb2⟩ := List.pairwise_cons.1 hb.asc
    have za : cntL a x.row = 0 := cntL_zero fun e he => by
      have := ha1 e he
      have := cmpR_neg x.row e.row
      omega
    have zb : cntL b y.row = 0 := cntL_zero fun e he => by
      have := hb1 e he
      have := cmpR_neg y.row e.row
      omega
    rcases cmpR_vals x.row y.row with hc | hc | hc
    · have h1 := h x.row
      have z2 : cntL (y :: b) x.row = 0 := cntL_zero fun e he => by
        rcases List.mem_cons.1 he with rfl | he
        · have := cmpR_neg x.row e.row; omega
        · have := cmpR_trans _ _ _ (show cmpR x.row y.row < 0 by omega) (hb1 e he)
          have := cmpR_neg x.row e.row
          omega
      rw [z2] at h1
      simp only [cntL, (cmpR_zero x.row x.row).2 rfl, if_pos, za] at h1
      exact absurd (by omega) (ha.nz x List.mem_cons_self)
    · have e0 := (cmpR_zero x.row y.row).1 hc
      have h1 := h x.row
      rw [← e0] at zb
      have hyx : cmpR y.row x.row = 0 := by rw [e0]; exact (cmpR_zero _ _).2 rfl
      simp only [cntL, (cmpR_zero x.row x.row).2 rfl, if_pos, hyx, za, zb] at h1
      have hxy : x = y := by
        obtain ⟨rx, cx⟩ := x
        obtain ⟨ry, cy⟩ := y
        simp only at e0 h1
        rw [e0, show cx = cy by omega]
      subst hxy
      congr 1
      refine bag_ext ⟨ha2, fun e he => ha.nz e (List.mem_cons_of_mem _ he)⟩ ⟨hb2, fun e he => hb.nz e (List.mem_cons_of_mem _ he)⟩ fun r => ?_
      have := h r
      simp only [cntL] at this
      omega
    · have h1 := h y.row
      have hyx : cmpR y.row x.row < 0 := by have := cmpR_neg x.row y.row; omega
      have z2 : cntL (x :: a) y.row = 0 := cntL_zero fun e he => by
        rcases List.mem_cons.1 he with rfl | he
        · omega
        · have := cmpR_trans _ _ _ hyx (ha1 e he)
          have := cmpR_neg y.row e.row
          omega
      rw [z2] at h1
      simp only [cntL, (cmpR_zero y.row y.row).2 rfl, if_pos, zb] at h1
      exact absurd (by omega) (hb.nz y List.mem_cons_self)

/-- The bag of entries in any order. -/
def bagL (l : List En) : List En := nzL (sortL l)

theorem bagL_bag (l : List En) : BagP (bagL l) := ⟨nzL_asc (sortL_facts _ l (Nat.le_refl _)).1, fun e he => (nzL_mem he).2⟩
theorem bagL_cnt (l : List En) (r : List V) : cntL (bagL l) r = cntL l r := by
  unfold bagL
  rw [nzL_cnt, (sortL_facts _ l (Nat.le_refl _)).2.1]
theorem bagL_self {l : List En} (h : BagP l) : bagL l = l := bag_ext (bagL_bag l) h fun r => bagL_cnt l r
theorem nz_bag {l : List En} (h : Asc l) : nzL l = bagL l := bag_ext ⟨nzL_asc h, fun e he => (nzL_mem he).2⟩ (bagL_bag l) fun r => by rw [nzL_cnt, bagL_cnt]
theorem bagL_perm {a b : List En} (h : ∀ r, cntL a r = cntL b r) : bagL a = bagL b := bag_ext (bagL_bag a) (bagL_bag b) fun r => by rw [bagL_cnt, bagL_cnt, h]

end Wh
