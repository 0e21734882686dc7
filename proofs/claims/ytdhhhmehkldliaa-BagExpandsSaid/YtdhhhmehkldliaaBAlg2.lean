/-
  The algebra of tables, plainly: what is in excess, each row once. No program.
-/
import Derived.Test.YtdhhhmehkldliaaBLKit
import Derived.Test.YtdhhhmehkldliaaBPDis
set_option linter.unusedVariables false
namespace Wh
open Go

/-- A table: a small bag with positive counts. -/
structure Tb (es : List En) (L : Nat) (S : Int) : Prop where
  sm : Sm es L S
  pos : ∀ e ∈ es, 0 < e.cnt
theorem Tb.posB {es : List En} {L : Nat} {S : Int} (h : Tb es L S) : posB es = true := by
  unfold Wh.posB
  rw [List.all_eq_true]
  intro e he
  simpa using h.pos e he
theorem Tb.cnt {es : List En} {L : Nat} {S : Int} (h : Tb es L S) (r : List V) : 0 ≤ cntL es r := by
  have h1 := h.pos
  clear h
  induction es with
  | nil => simp [cntL]
  | cons e es ih =>
    have h2 := h1 e List.mem_cons_self
    have h3 := ih fun x hx => h1 x (List.mem_cons_of_mem _ hx)
    unfold cntL
    split <;> omega
theorem table_tb (zs : List Int) {n : Nat} (hn : n ≤ 1000) : Tb (tabL (bagZ zs n)) n (3 * (n : Int)) where
  sm := by
    have h := draw_sm zs hn
    refine ⟨⟨List.Pairwise.filter _ h.bag.asc, fun e he => h.bag.nz e (tabL_mem he).1⟩, fun e he => h.rows e (tabL_mem he).1, Nat.le_trans (tabL_length _) h.len, ?_⟩
    have h2 := h.abs
    have : ∀ l : List En, absS (tabL l) ≤ absS l := fun l => by
      unfold tabL
      induction l with
      | nil => simp [absS]
      | cons e l ih =>
        by_cases hp : 0 < e.cnt
        · rw [List.filter_cons_of_pos (by simpa using hp)]
          simp only [absS]
          omega
        · rw [List.filter_cons_of_neg (by simpa using hp)]
          simp only [absS]
          split <;> omega
    have := this (bagZ zs n)
    omega
  pos := fun e he => (tabL_mem he).2

/-- What a table has in excess of another one. -/
def excL (a b : List En) : List En := dropL (fun n => decide (n < 0)) (bagL (a ++ negL b))
theorem dropL_mem {p : Int → Bool} {l : List En} {e : En} (h : e ∈ dropL p l) : e ∈ l ∧ p e.cnt = false := by
  unfold dropL at h
  rw [List.mem_filter] at h
  exact ⟨h.1, by simpa using h.2⟩
theorem dropL_abs (p : Int → Bool) (l : List En) : absS (dropL p l) ≤ absS l := by
  unfold dropL
  induction l with
  | nil => simp [absS]
  | cons e l ih =>
    cases hp : p e.cnt with
    | true =>
      rw [List.filter_cons_of_neg (by simp [hp])]
      simp only [absS]
      split <;> omega
    | false =>
      rw [List.filter_cons_of_pos (by simp [hp])]
      simp only [absS]
      omega
theorem excL_tb {a b : List En} {L1 L2 : Nat} {S1 S2 : Int} (h1 : Tb a L1 S1) (h2 : Tb b L2 S2) : Tb (excL a b) (L1 + L2) (S1 + S2) where
  sm := by
    have h := h1.sm.join h2.sm.neg
    exact ⟨⟨List.Pairwise.filter _ h.bag.asc, fun e he => h.bag.nz e (dropL_mem he).1⟩, fun e he => h.rows e (dropL_mem he).1, Nat.le_trans (dropL_length _ _) h.len, Int.le_trans (dropL_abs _ _) h.abs⟩
  pos := fun e he => by
    have h := h1.sm.join h2.sm.neg
    have h3 := h.bag.nz e (dropL_mem he).1
    have h4 := (dropL_mem he).2
    simp only [decide_eq_false_iff_not] at h4
    omega
theorem cntL_cons (e : En) (l : List En) (r : List V) : cntL (e :: l) r = (if cmpR e.row r = 0 then e.cnt else 0) + cntL l r := rfl
theorem drop_cnt : ∀ {l : List En}, Asc l → ∀ r, cntL (dropL (fun n => decide (n < 0)) l) r = max 0 (cntL l r)
  | [], _, _ => rfl
  | e :: l, h, r => by
    obtain ⟨h1, h2⟩ := List.pairwise_cons.1 h
    have ih := drop_cnt h2 r
    unfold dropL at ih ⊢
    by_cases hc : cmpR e.row r = 0
    · have he := (cmpR_zero _ _).1 hc
      have hz : cntL l r = 0 := cntL_zero fun x hx => by
        have := h1 x hx
        rw [he] at this
        have := cmpR_neg r x.row
        omega
      by_cases hn : e.cnt < 0
      · rw [List.filter_cons_of_neg (by simpa using hn), ih, cntL_cons, if_pos hc, hz]
        omega
      · rw [List.filter_cons_of_pos (by simpa using hn), cntL_cons, cntL_cons, if_pos hc, ih, hz]
        omega
    · have hl : cntL (e :: l) r = cntL l r := by
        show (if cmpR e.row r = 0 then e.cnt else 0) + cntL l r = _
        rw [if_neg hc]
        omega
      rw [hl]
      by_cases hn : e.cnt < 0
      · rw [List.filter_cons_of_neg (by simpa using hn), ih]
      · rw [List.filter_cons_of_pos (by simpa using hn), cntL_cons, if_neg hc, ih]
        omega
theorem excL_cnt (a b : List En) (r : List V) : cntL (excL a b) r = max 0 (cntL a r - cntL b r) := by
  unfold excL
  rw [drop_cnt (bagL_bag _).asc, bagL_cnt, cntL_append, negL_cnt]
  congr 1
theorem exc_tb {a b : List En} {L1 L2 : Nat} {S1 S2 : Int} (h1 : Tb a L1 S1) (h2 : Tb b L2 S2) (hL : L1 + L2 ≤ 4096) (hS : S1 + S2 ≤ 65536) : excOut a b = (excL a b, 0) := by
  have n1 := h1.sm.nonneg
  have n2 := h2.sm.nonneg
  have ht : twoE a b = 0 := twoE_zero.2 ⟨bagE_zero.2 (h1.sm.ok (by omega) (by omega)), bagE_zero.2 (h2.sm.ok (by omega) (by omega))⟩
  unfold excOut
  rw [if_neg (by simpa using ht), if_pos ⟨h1.posB, h2.posB⟩, resOut_eq, nz_atLeast0, nz_merge h1.sm.bag.asc h2.sm.neg.bag.asc]
  have h := excL_tb h1 h2
  show resP (excL a b) = (excL a b, 0)
  exact resP_good (Nat.le_trans h.sm.len hL) fun e he => by
    have e1 := absS_mem he
    have e2 := h.sm.abs
    exact smallB_true.2 (by omega)
theorem exc_rest {a b : List En} {L1 L2 : Nat} {S1 S2 : Int} (h1 : Tb a L1 S1) (h2 : Tb b L2 S2) : excL b (excL a (excL a b)) = excL b a := by
  refine bag_ext (excL_tb h2 (excL_tb h1 (excL_tb h1 h2))).sm.bag (excL_tb h2 h1).sm.bag fun r => ?_
  have c1 := h1.cnt r
  have c2 := h2.cnt r
  rw [excL_cnt, excL_cnt, excL_cnt, excL_cnt]
  omega

theorem onceL_all {es : List En} (h : ∀ e ∈ es, 0 < e.cnt) : onceL es = es.map fun e => ⟨e.row, 1⟩ := by
  unfold onceL
  rw [List.filter_eq_self.2 fun e he => by simpa using h e he]
theorem once_tb {a : List En} {L : Nat} {S : Int} (h : Tb a L S) : Tb (onceL a) L (L : Int) where
  sm := by
    rw [onceL_all h.pos]
    refine ⟨⟨List.Pairwise.map _ (fun _ _ q => q) h.sm.bag.asc, fun e he => ?_⟩, fun e he => ?_, by rw [List.length_map]; exact h.sm.len, ?_⟩
    · obtain ⟨x, _, rfl⟩ := List.mem_map.1 he
      simp
    · obtain ⟨x, hx, rfl⟩ := List.mem_map.1 he
      exact h.sm.rows x hx
    · have : ∀ l : List En, absS (l.map fun e => (⟨e.row, 1⟩ : En)) = l.length := fun l => by
        induction l with
        | nil => rfl
        | cons e l ih => simp only [List.map_cons, absS, ih, List.length_cons]; omega
      rw [this]
      have := h.sm.len
      omega
  pos := fun e he => by
    rw [onceL_all h.pos] at he
    obtain ⟨x, _, rfl⟩ := List.mem_map.1 he
    simp
theorem once_len {a : List En} {L : Nat} {S : Int} (h : Tb a L S) : (onceL a).length = a.length := by rw [onceL_all h.pos, List.length_map]
theorem once_once {a : List En} {L : Nat} {S : Int} (h : Tb a L S) : onceL (onceL a) = onceL a := by
  rw [onceL_all (once_tb h).pos, onceL_all h.pos, List.map_map]
  rfl
theorem dis_tb {a : List En} {L : Nat} {S : Int} (h : Tb a L S) (hL : L ≤ 4096) (hS : S ≤ 65536) : disOut a = (onceL a, 0) := by
  unfold disOut
  rw [if_pos (bagE_zero.2 (h.sm.ok hL hS)), resOut_eq, onceL_nz]
  have h' := once_tb h
  exact resP_good (Nat.le_trans h'.sm.len hL) fun e he => by
    have e1 := absS_mem he
    have e2 := h'.sm.abs
    exact smallB_true.2 (by omega)

end Wh
