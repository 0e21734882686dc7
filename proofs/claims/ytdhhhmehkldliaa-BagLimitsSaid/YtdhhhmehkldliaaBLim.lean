/-
  What BagLimits counts, plainly. No program.
-/
import Derived.Test.YtdhhhmehkldliaaBLKit
set_option linter.unusedVariables false
namespace Wh
open Go

theorem fit_V {n c : Int} (h1 : 0 ≤ n) (h2 : n ≤ 5000) (h3 : -65536 ≤ c) (h4 : c ≤ 65536) : fitE ⟨[vI n], c⟩ = 0 :=
  fitE_of (by simp) h3 h4 (by simp [okRow, validB]; omega)
theorem ok_V {n c : Int} (h1 : 0 ≤ n) (h2 : n ≤ 5000) (h3 : -65536 ≤ c) (h4 : c ≤ 65536) (h0 : ¬ c = 0) : OkBag [⟨[vI n], c⟩] where
  len := by simp
  bag := ⟨List.pairwise_singleton _ _, fun e he => by simp only [List.mem_singleton] at he; subst he; exact h0⟩
  fit := fun e he => by simp only [List.mem_singleton] at he; subst he; exact fit_V h1 h2 h3 h4
theorem lim_merge (a b : Int) : mergeL [⟨[vI 0], a⟩] [⟨[vI 0], b⟩] = [⟨[vI 0], a + b⟩] := by
  have hc : cmpR [vI 0] [vI 0] = 0 := (cmpR_zero _ _).2 rfl
  rw [mergeL_cons, if_neg (by show ¬ cmpR [vI 0] [vI 0] < 0; omega), if_neg (by show ¬ 0 < cmpR [vI 0] [vI 0]; omega), mergeL_nil]
theorem lim_two {a b : Int} (h1 : 0 < a) (h2 : a ≤ 65536) (h3 : 0 < b) (h4 : b ≤ 65536) : twoE [⟨[vI 0], a⟩] [⟨[vI 0], b⟩] = 0 :=
  twoE_zero.2 ⟨bagE_zero.2 (ok_V (by omega) (by omega) (by omega) h2 (by omega)), bagE_zero.2 (ok_V (by omega) (by omega) (by omega) h4 (by omega))⟩
theorem lim_yes {a b : Int} (h1 : 0 < a) (h2 : a ≤ 65536) (h3 : 0 < b) (h4 : b ≤ 65536) (h : a + b ≤ 65536) : addOut [⟨[vI 0], a⟩] [⟨[vI 0], b⟩] = ([⟨[vI 0], a + b⟩], 0) := by
  unfold addOut
  rw [if_pos (lim_two h1 h2 h3 h4), lim_merge, resOut_eq, nzL_self (by simp; omega)]
  exact resP_good (by simp) (by simp [smallB]; omega)
theorem lim_no {a b : Int} (h1 : 0 < a) (h2 : a ≤ 65536) (h3 : 0 < b) (h4 : b ≤ 65536) (h : 65536 < a + b) : addOut [⟨[vI 0], a⟩] [⟨[vI 0], b⟩] = ([], 2) := by
  unfold addOut
  rw [if_pos (lim_two h1 h2 h3 h4), lim_merge, resOut_eq, nzL_self (by simp; omega)]
  exact resP_bad (k := 0) (e := ⟨[vI 0], a + b⟩) rfl (by
    cases hs : smallB (a + b) with
    | false => rfl
    | true => have := (smallB_true.1 hs).2; omega)

/-- So many entries, each of another integer. -/
def limL (c : Int) (L : Nat) : List En := (List.range L).map fun (i : Nat) => ⟨[vI (i : Int)], c⟩
theorem limL_length (c : Int) (L : Nat) : (limL c L).length = L := by simp [limL]
theorem limL_next (c : Int) (k : Nat) : limL c (k + 1) = limL c k ++ [⟨[vI (k : Int)], c⟩] := by
  unfold limL
  rw [List.range_succ, List.map_append]
  rfl
theorem lim_less {i j : Int} (h : i < j) : cmpR [vI i] [vI j] < 0 := by
  have h1 : cmpV (vI i) (vI j) = -1 := by simp [cmpV, cmpI, h]
  show (if (cmpV (vI i) (vI j) == 0) = false then cmpV (vI i) (vI j) else cmpR [] []) < 0
  rw [h1]
  decide
theorem limL_bag {c : Int} (hc : ¬ c = 0) (L : Nat) : BagP (limL c L) where
  asc := by
    unfold limL Asc
    rw [List.pairwise_map]
    exact List.pairwise_lt_range.imp fun h => lim_less (by omega)
  nz := fun e he => by
    obtain ⟨i, _, rfl⟩ := List.mem_map.1 he
    exact hc
theorem limL_fits {c : Int} (h1 : -65536 ≤ c) (h2 : c ≤ 65536) {L : Nat} (hL : L ≤ 5000) : fitsE (limL c L) = 0 := fitsE_of fun e he => by
  obtain ⟨i, hi, rfl⟩ := List.mem_map.1 he
  have := List.mem_range.1 hi
  exact fit_V (by omega) (by omega) h1 h2
theorem lim_fit {c : Int} (h0 : 0 < c) (h2 : c ≤ 65536) {L : Nat} (hL : L ≤ 4096) : normOut (limL c L) = (limL c L, 0) := by
  unfold normOut
  rw [if_pos (limL_fits (by omega) h2 (by omega)), sumOut_eq, bagL_self (limL_bag (by omega) L)]
  exact resP_good (by rw [limL_length]; exact hL) fun e he => by
    obtain ⟨i, _, rfl⟩ := List.mem_map.1 he
    exact smallB_true.2 (by show -65536 ≤ c ∧ c ≤ 65536; omega)
theorem lim_over {c : Int} (h0 : 0 < c) (h2 : c ≤ 65536) {L : Nat} (hL : L ≤ 5000) (h : 4096 < L) : normOut (limL c L) = ([], 2) := by
  unfold normOut
  rw [if_pos (limL_fits (by omega) h2 (by omega)), sumOut_eq, bagL_self (limL_bag (by omega) L)]
  unfold resP
  rw [if_neg (by rw [limL_length]; omega)]

end Wh
