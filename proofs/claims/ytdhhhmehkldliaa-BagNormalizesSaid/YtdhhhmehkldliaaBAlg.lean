/-
  The algebra of bags, plainly: adding and subtracting small bags. No program.
-/
import Derived.Test.YtdhhhmehkldliaaBPSum
import Derived.Test.YtdhhhmehkldliaaBDrawn
set_option linter.unusedVariables false
namespace Wh
open Go

/-- A bag of at most L entries, the counts at most S together. -/
structure Sm (es : List En) (L : Nat) (S : Int) : Prop where
  bag : BagP es
  rows : ∀ e ∈ es, e.row.length ≤ 12 ∧ okRow e.row = true
  len : es.length ≤ L
  abs : absS es ≤ S

theorem Sm.ok {es : List En} {L : Nat} {S : Int} (h : Sm es L S) (hL : L ≤ 4096) (hS : S ≤ 65536) : OkBag es where
  len := Nat.le_trans h.len hL
  bag := h.bag
  fit := fun e he => by
    have h1 := absS_mem he
    have h2 := h.abs
    exact fitE_of (h.rows e he).1 (by omega) (by omega) (h.rows e he).2
theorem Sm.neg {es : List En} {L : Nat} {S : Int} (h : Sm es L S) : Sm (negL es) L S where
  bag := ⟨negL_asc h.bag.asc, fun e he => by
    unfold negL at he
    obtain ⟨x, hx, rfl⟩ := List.mem_map.1 he
    have := h.bag.nz x hx
    simp only
    omega⟩
  rows := fun e he => by
    unfold negL at he
    obtain ⟨x, hx, rfl⟩ := List.mem_map.1 he
    exact h.rows x hx
  len := by rw [negL_length]; exact h.len
  abs := by rw [absS_neg]; exact h.abs
theorem Sm.join {a b : List En} {L1 L2 : Nat} {S1 S2 : Int} (h1 : Sm a L1 S1) (h2 : Sm b L2 S2) : Sm (bagL (a ++ b)) (L1 + L2) (S1 + S2) where
  bag := bagL_bag _
  rows := fun e he => by
    obtain ⟨x, hx, hr⟩ := sortL_mem _ _ (Nat.le_refl _) e (nzL_mem he).1
    rw [← hr]
    rcases List.mem_append.1 hx with hx | hx
    · exact h1.rows x hx
    · exact h2.rows x hx
  len := by
    have h3 := bagL_length (a ++ b)
    have h4 := h1.len
    have h5 := h2.len
    rw [List.length_append] at h3
    omega
  abs := by
    have e1 := absS_nz (sortL (a ++ b))
    have e2 := absS_sort _ (a ++ b) (Nat.le_refl _)
    have e3 := absS_append a b
    have e4 := h1.abs
    have e5 := h2.abs
    unfold bagL
    omega
theorem nz_merge {a b : List En} (h1 : Asc a) (h2 : Asc b) : nzL (mergeL a b) = bagL (a ++ b) := by
  rw [nz_bag (mergeL_asc _ _ _ (Nat.le_refl _) h1 h2)]
  exact bagL_perm fun r => by rw [mergeL_cnt _ _ _ (Nat.le_refl _), cntL_append]
theorem res_join {a b : List En} {L1 L2 : Nat} {S1 S2 : Int} (h1 : Sm a L1 S1) (h2 : Sm b L2 S2) (hL : L1 + L2 ≤ 4096) (hS : S1 + S2 ≤ 65536) : resOut (mergeL a b) = (bagL (a ++ b), 0) := by
  rw [resOut_eq, nz_merge h1.bag.asc h2.bag.asc]
  have h := h1.join h2
  exact resP_good (Nat.le_trans h.len hL) fun e he => by
    have e1 := absS_mem he
    have e2 := h.abs
    exact smallB_true.2 (by omega)
theorem Sm.nonneg {es : List En} {L : Nat} {S : Int} (h : Sm es L S) : 0 ≤ S := Int.le_trans (absS_nonneg es) h.abs
theorem add_sm {a b : List En} {L1 L2 : Nat} {S1 S2 : Int} (h1 : Sm a L1 S1) (h2 : Sm b L2 S2) (hL : L1 + L2 ≤ 4096) (hS : S1 + S2 ≤ 65536) : addOut a b = (bagL (a ++ b), 0) := by
  have n1 := h1.nonneg
  have n2 := h2.nonneg
  unfold addOut
  rw [if_pos (twoE_zero.2 ⟨bagE_zero.2 (h1.ok (by omega) (by omega)), bagE_zero.2 (h2.ok (by omega) (by omega))⟩)]
  exact res_join h1 h2 hL hS
theorem sub_sm {a b : List En} {L1 L2 : Nat} {S1 S2 : Int} (h1 : Sm a L1 S1) (h2 : Sm b L2 S2) (hL : L1 + L2 ≤ 4096) (hS : S1 + S2 ≤ 65536) : subOut a b = (bagL (a ++ negL b), 0) := by
  have n1 := h1.nonneg
  have n2 := h2.nonneg
  unfold subOut
  rw [if_pos (twoE_zero.2 ⟨bagE_zero.2 (h1.ok (by omega) (by omega)), bagE_zero.2 (h2.ok (by omega) (by omega))⟩)]
  exact res_join h1 h2.neg hL hS
theorem neg_sm {a : List En} {L : Nat} {S : Int} (h : Sm a L S) (hL : L ≤ 4096) (hS : S ≤ 65536) : negOut a = (negL a, 0) := by
  unfold negOut
  rw [if_pos (bagE_zero.2 (h.ok hL hS)), resOut_eq, nzL_self h.neg.bag.nz]
  exact resP_good (Nat.le_trans h.neg.len hL) fun e he => by
    have e1 := absS_mem he
    have e2 := h.neg.abs
    exact smallB_true.2 (by omega)
theorem draw_sm (zs : List Int) {n : Nat} (hn : n ≤ 1000) : Sm (bagZ zs n) n (3 * (n : Int)) where
  bag := (bagZ_ok zs hn).bag
  rows := fun e he => by
    obtain ⟨h1, h2⟩ := bagZ_row zs hn he
    exact ⟨by omega, h2⟩
  len := bagZ_length zs hn
  abs := bagZ_abs zs hn

theorem join_comm (a b : List En) : bagL (b ++ a) = bagL (a ++ b) := bagL_perm fun r => by rw [cntL_append, cntL_append]; omega
theorem join_assoc (a b c : List En) : bagL (a ++ bagL (b ++ c)) = bagL (bagL (a ++ b) ++ c) := bagL_perm fun r => by simp only [cntL_append, bagL_cnt]; omega
theorem join_back {a b : List En} (h : BagP a) : bagL (bagL (a ++ b) ++ negL b) = a := by
  rw [← bagL_self h]
  exact bagL_perm fun r => by simp only [cntL_append, bagL_cnt, negL_cnt]; omega
theorem join_none (a : List En) : bagL (a ++ negL a) = [] := by
  have h0 : bagL [] = [] := by unfold bagL; rw [sortL_small (by simp)]; rfl
  rw [← h0]
  exact bagL_perm fun r => by simp only [cntL_append, negL_cnt, cntL]; omega

end Wh
