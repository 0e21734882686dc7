/-
  Texts that are joined by spaces, plainly. No program's functions.
-/
import Derived.Test.YtloccocengegnaaDoorTQV
import Derived.Lib.Join
set_option linter.unusedVariables false
namespace Wh
open Go

/-- The texts, separated by single spaces. -/
def jn (ls : List (List UInt8)) : List UInt8 := Lib.join ls [32]
theorem jn_nil : jn [] = [] := rfl
theorem jn_one (x : List UInt8) : jn [x] = x := Lib.join_one x _
theorem joinTail_push (sep y : List UInt8) (r : List (List UInt8)) : Lib.joinTail sep (r ++ [y]) = Lib.joinTail sep r ++ sep ++ y := by
  simp [Lib.joinTail, List.append_assoc]
theorem jn_push (ls : List (List UInt8)) (y : List UInt8) : jn (ls ++ [y]) = if ls = [] then y else jn ls ++ 32 :: y := by
  cases ls with
  | nil => exact jn_one y
  | cons x r =>
    rw [if_neg (by simp), List.cons_append]
    unfold jn
    rw [Lib.join_cons, Lib.join_cons, joinTail_push]
    simp [List.append_assoc]
theorem jn_cons (x : List UInt8) (y : List UInt8) (ls : List (List UInt8)) : jn (x :: y :: ls) = x ++ 32 :: jn (y :: ls) := by
  unfold jn
  rw [Lib.join_cons, Lib.join_cons]
  simp [Lib.joinTail]
theorem jn_take {ls : List (List UInt8)} {k : Nat} {y : List UInt8} (h : ls[k]? = some y) : jn (ls.take (k + 1)) = if k = 0 then y else jn (ls.take k) ++ 32 :: y := by
  have hk := (List.getElem?_eq_some_iff.1 h).1
  rw [List.take_add_one, h]
  show jn (ls.take k ++ [y]) = _
  rw [jn_push]
  by_cases h0 : k = 0
  · rw [if_pos h0, if_pos (by rw [h0]; rfl)]
  · rw [if_neg h0, if_neg]
    intro h1
    have := congrArg List.length h1
    rw [List.length_take, List.length_nil] at this
    omega
theorem jn_take_le (ls : List (List UInt8)) (k : Nat) : (jn (ls.take k)).length ≤ (jn ls).length := by
  cases ls with
  | nil => simp
  | cons x r =>
    cases k with
    | zero => exact Nat.zero_le _
    | succ k =>
      rw [List.take_succ_cons]
      unfold jn
      rw [Lib.join_cons, Lib.join_cons, List.length_append, List.length_append]
      have := Lib.joinTail_take_le [32] r k
      omega
/-- The result of Join for well-formed tokens with these texts. -/
def jnO (ls : List (List UInt8)) : List UInt8 × Int := if 65536 < (jn ls).length then ([], 2) else (jn ls, 0)
theorem jnO_great {ls : List (List UInt8)} {k : Nat} (h : 65536 < (jn (ls.take k)).length) : jnO ls = ([], 2) := by
  unfold jnO
  rw [if_pos (by have := jn_take_le ls k; omega)]

end Wh

