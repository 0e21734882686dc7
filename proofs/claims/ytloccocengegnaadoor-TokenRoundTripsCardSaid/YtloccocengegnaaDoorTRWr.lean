/-
  Number, Quote, Moment and written, of the reference.
-/
import Derived.Test.YtloccocengegnaaDoorTQV
import Derived.Test.YtloccocengegnaaDoorGTok
import Derived.Test.YtloccocengegnaaDoorGByt
import Derived.Test.YtloccocengegnaaDoorCRFormat
set_option linter.unusedVariables false
set_option maxRecDepth 100000
namespace Wh
open Go Go.Proofs.YtloccocengegnaaDoor

theorem decDigits_step (x : Nat) : Lib.decDigits x = if x / 10 = 0 then [dig x] else Lib.decDigits (x / 10) ++ [dig x] := by
  by_cases h : x < 10
  · rw [Lib.decDigits, dif_pos h, if_pos (by omega)]
    unfold dig
    rw [Nat.mod_eq_of_lt h]
  · rw [Lib.decDigits, dif_neg h, if_neg (by omega)]
    rfl
/-- The digits that are left, and those that are written. -/
def numR (x : Nat) (l : List UInt8) : List UInt8 := if x = 0 then l else Lib.decDigits x ++ l
theorem numR_start (n : Nat) : numR (n / 10) [dig n] = Lib.decDigits n := by
  rw [decDigits_step n]
  unfold numR
  rfl
theorem numR_step {x : Nat} (h : 0 < x) (l : List UInt8) : numR x l = numR (x / 10) (dig x :: l) := by
  unfold numR
  rw [if_neg (by omega), decDigits_step x]
  by_cases h1 : x / 10 = 0
  · rw [if_pos h1, if_pos h1]; rfl
  · rw [if_neg h1, if_neg h1, List.append_assoc]; rfl
theorem numR_len {n x : Nat} {l : List UInt8} (h : numR x l = Lib.decDigits n) (hn : n ≤ 1073741824) : l.length ≤ 1073741825 := by
  have h1 : ∀ m, Lib.nDigits m ≤ m + 1 := by
    intro m
    induction m using Nat.strongRecOn with
    | _ m ih =>
      by_cases h : m < 10
      · rw [Lib.nDigits_small h]; omega
      · rw [Lib.nDigits_big h]
        have := ih (m / 10) (by omega)
        omega
  have h2 := h1 n
  rw [← Lib.decDigits_length, ← h] at h2
  unfold numR at h2
  split at h2
  · omega
  · rw [List.length_append] at h2; omega
theorem dbl_push (l : List UInt8) (x : UInt8) : dbl (l ++ [x]) = dbl l ++ (if x = 39 then [39, 39] else [x]) := by
  induction l with
  | nil => unfold dbl; split <;> simp_all [dbl]
  | cons y l ih =>
    rw [List.cons_append]
    unfold dbl
    rw [ih]
    split <;> simp
theorem dbl_take {s : ByteArray} {k : Nat} {x : UInt8} (h : (bts s)[k]? = some x) : dbl ((bts s).take (k + 1)) = dbl ((bts s).take k) ++ (if x = 39 then [39, 39] else [x]) := by
  rw [List.take_add_one, h]
  exact dbl_push _ _
theorem str_append (a b : List UInt8) {t : ByteArray} (h : t = ⟨b.toArray⟩) : (⟨a.toArray⟩ : ByteArray) ++ t = ⟨(a ++ b).toArray⟩ := by
  subst h
  exact ba_append a b
theorem mk_bts (s : ByteArray) : (⟨(bts s).toArray⟩ : ByteArray) = s := by
  apply ByteArray.ext
  show (bts s).toArray = s.data
  unfold bts
  simp

end Wh
namespace Go.Proofs.YtloccocengegnaaDoor
open Go.RowKit Wh

end Go.Proofs.YtloccocengegnaaDoor

