/-
  The order of values is a total order, and so is the order of rows. No program is imported.
-/
import Derived.Test.YtdhhhmehkldliaaPlain
namespace Wh
open Go

theorem cmpS_zero (a b : ByteArray) : cmpS a b = 0 ↔ a = b := by
  unfold cmpS
  rw [cmpB_zero]
  constructor
  · intro h
    exact ByteArray.ext (Array.toList_inj.1 h)
  · rintro rfl
    rfl

theorem cmpV_eq (a b : V) : cmpV a b = if a.k < b.k then -1 else if b.k < a.k then 1 else if a.n < b.n then -1 else if b.n < a.n then 1 else cmpS a.s b.s := by
  unfold cmpV cmpI
  by_cases h1 : a.k < b.k
  · simp [h1]
  · by_cases h2 : b.k < a.k
    · simp [h1, h2]
    · by_cases h3 : a.n < b.n
      · simp [h1, h2, h3]
      · by_cases h4 : b.n < a.n <;> simp [h1, h2, h3, h4]

theorem cmpV_lt (a b : V) : cmpV a b = -1 ↔ a.k < b.k ∨ (a.k = b.k ∧ (a.n < b.n ∨ (a.n = b.n ∧ cmpS a.s b.s = -1))) := by
  rw [cmpV_eq]
  generalize cmpS a.s b.s = c
  repeat' split
  all_goals omega

theorem cmpV_zero (a b : V) : cmpV a b = 0 ↔ a = b := by
  obtain ⟨k, n, s⟩ := a
  obtain ⟨k', n', s'⟩ := b
  have hz := cmpS_zero s s'
  rw [cmpV_eq, V.mk.injEq, ← hz]
  generalize cmpS s s' = c
  repeat' split
  all_goals first | omega | (simp only at *; omega)

theorem cmpV_neg (a b : V) : cmpV b a = - cmpV a b := by
  have hs : cmpS b.s a.s = - cmpS a.s b.s := cmpB_neg _ _
  rw [cmpV_eq, cmpV_eq, hs]
  repeat' split
  all_goals omega

theorem cmpV_vals (a b : V) : cmpV a b = -1 ∨ cmpV a b = 0 ∨ cmpV a b = 1 := by
  have hs : cmpS a.s b.s = -1 ∨ cmpS a.s b.s = 0 ∨ cmpS a.s b.s = 1 := cmpB_vals _ _
  rw [cmpV_eq]
  repeat' split
  all_goals omega

theorem cmpV_trans {a b c : V} (h1 : cmpV a b = -1) (h2 : cmpV b c = -1) : cmpV a c = -1 := by
  rw [cmpV_lt] at h1 h2 ⊢
  rcases h1 with h1 | ⟨e1, h1 | ⟨e2, h1⟩⟩ <;> rcases h2 with h2 | ⟨f1, h2 | ⟨f2, h2⟩⟩
  all_goals first
    | (left; omega)
    | (right; refine ⟨by omega, ?_⟩; left; omega)
    | (right; refine ⟨by omega, ?_⟩; right; exact ⟨by omega, cmpB_trans _ _ _ h1 h2⟩)

theorem cmpV_le (a b c : V) (h1 : cmpV a b ≤ 0) (h2 : cmpV b c ≤ 0) : cmpV a c ≤ 0 ∧ (cmpV a b < 0 → cmpV a c < 0) := by
  rcases cmpV_vals a b with e | e | e
  · rcases cmpV_vals b c with f | f | f
    · have := cmpV_trans e f; omega
    · rw [cmpV_zero] at f; subst f; omega
    · omega
  · rw [cmpV_zero] at e; subst e; have : cmpV a a = 0 := (cmpV_zero a a).2 rfl; omega
  · omega

/-- Two rows. -/
def cmpR : List V → List V → Int
  | [], [] => 0
  | [], _ :: _ => -1
  | _ :: _, [] => 1
  | a :: as, b :: bs => if (cmpV a b == 0) = false then cmpV a b else cmpR as bs

theorem cmpR_zero : ∀ a b : List V, cmpR a b = 0 ↔ a = b
  | [], [] => by simp [cmpR]
  | [], _ :: _ => by simp [cmpR]
  | _ :: _, [] => by simp [cmpR]
  | x :: a, y :: b => by
    have ih := cmpR_zero a b
    have hz := cmpV_zero x y
    unfold cmpR
    by_cases h : cmpV x y = 0
    · have e := hz.1 h
      subst e
      simp [h, ih]
    · simp [h]
      intro e
      exact absurd (hz.2 e) h

theorem cmpR_self (a : List V) : cmpR a a = 0 := (cmpR_zero a a).2 rfl

theorem cmpR_longer : ∀ (a : List V) (v : V), cmpR a (a ++ [v]) = -1 ∧ cmpR (a ++ [v]) a = 1
  | [], _ => by simp [cmpR]
  | x :: a, v => by
    have ih := cmpR_longer a v
    have hz : cmpV x x = 0 := (cmpV_zero x x).2 rfl
    simp [cmpR, hz, ih.1, ih.2]

end Wh
