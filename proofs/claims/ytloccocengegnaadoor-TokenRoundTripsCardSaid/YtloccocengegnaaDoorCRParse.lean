/-
  Parse of the reference.
-/
import Derived.Test.YtloccocengegnaaDoorCParse
set_option linter.unusedVariables false
namespace Wh

theorem form_fixed {s : ByteArray} (h : formB s = true) : btN s 4 = 45 ∧ btN s 7 = 45 ∧ btN s 10 = 84 ∧ btN s 13 = 58 := by
  have a := (formB_all h).2
  have a4 := a 4 (by omega)
  have a7 := a 7 (by omega)
  have a10 := a 10 (by omega)
  have a13 := a 13 (by omega)
  exact ⟨of_decide_eq_true a4, of_decide_eq_true a7, of_decide_eq_true a10, of_decide_eq_true a13⟩

theorem form_of {s : ByteArray} (hs : s.size = 16) (h4 : btN s 4 = 45) (h7 : btN s 7 = 45) (h10 : btN s 10 = 84) (h13 : btN s 13 = 58)
    (d1 : digAt s 0 4 = true) (d2 : digAt s 5 2 = true) (d3 : digAt s 8 2 = true) (d4 : digAt s 11 2 = true) (d5 : digAt s 14 2 = true) : formB s = true := by
  refine formB_yes hs fun i hi => ?_
  have dig : ∀ {j : Nat}, (48 ≤ btN s j ∧ btN s j ≤ 57) → j ≠ 4 → j ≠ 7 → j ≠ 10 → j ≠ 13 → okAt j (btN s j) = true := by
    intro j hj e4 e7 e10 e13
    unfold okAt
    rw [if_neg (by omega), if_neg e10, if_neg e13, decide_eq_true hj.1, decide_eq_true hj.2]
    rfl
  rcases (show i < 4 ∨ i = 4 ∨ i = 5 ∨ i = 6 ∨ i = 7 ∨ i = 8 ∨ i = 9 ∨ i = 10 ∨ i = 11 ∨ i = 12 ∨ i = 13 ∨ i = 14 ∨ i = 15 by omega) with e | e | e | e | e | e | e | e | e | e | e | e | e
  · have := digAt_at d1 e
    rw [Nat.zero_add] at this
    exact dig this (by omega) (by omega) (by omega) (by omega)
  all_goals subst e
  · exact decide_eq_true h4
  · exact dig (digAt_at d2 (i := 0) (by omega)) (by omega) (by omega) (by omega) (by omega)
  · exact dig (digAt_at d2 (i := 1) (by omega)) (by omega) (by omega) (by omega) (by omega)
  · exact decide_eq_true h7
  · exact dig (digAt_at d3 (i := 0) (by omega)) (by omega) (by omega) (by omega) (by omega)
  · exact dig (digAt_at d3 (i := 1) (by omega)) (by omega) (by omega) (by omega) (by omega)
  · exact decide_eq_true h10
  · exact dig (digAt_at d4 (i := 0) (by omega)) (by omega) (by omega) (by omega) (by omega)
  · exact dig (digAt_at d4 (i := 1) (by omega)) (by omega) (by omega) (by omega) (by omega)
  · exact decide_eq_true h13
  · exact dig (digAt_at d5 (i := 0) (by omega)) (by omega) (by omega) (by omega) (by omega)
  · exact dig (digAt_at d5 (i := 1) (by omega)) (by omega) (by omega) (by omega) (by omega)

theorem parse_bad {s : ByteArray} (h : formB s = false) : parseZ s = 0 ∧ parseE s = 3 := by
  unfold parseZ parseE
  rw [h]
  exact ⟨rfl, rfl⟩

end Wh
namespace Go.Proofs.YtloccocengegnaaDoor
open Go.RowKit Wh

theorem digZ_bd {s : ByteArray} {a k : Nat} (hk : k ≤ 4) : (digAt s a k = true ∧ digZ s a k = numAt s a k ∧ 0 ≤ numAt s a k ∧ numAt s a k + 1 ≤ 10 ^ k) ∨ (digAt s a k = false ∧ digZ s a k = -1) := by
  unfold digZ
  cases h : digAt s a k
  · exact .inr ⟨rfl, rfl⟩
  · exact .inl ⟨rfl, rfl, numAt_bd hk h⟩

end Go.Proofs.YtloccocengegnaaDoor

