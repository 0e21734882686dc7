/-
  Which tokens, and which lists of tokens, are well-formed, plainly. No program's functions.
-/
import Derived.Test.YtloccocengegnaaDoorGTok
import Derived.Test.YtloccocengegnaaDoorTSymB
import Derived.Test.YtloccocengegnaaDoorSQual
set_option linter.unusedVariables false
namespace Wh
open Go Go.Proofs.YtloccocengegnaaDoor

/-- Is the text empty? -/
def empB (s : ByteArray) : Bool := decide (s.size = 0)
/-- Is it well-formed, and not the end? -/
def okT (t : Tk) : Bool :=
  if t.k = 1 then qualB t.tx && decide (t.nm = 0)
  else if t.k = 2 then empB t.tx && (decide (0 ≤ t.nm) && decide (t.nm ≤ 1073741824))
  else if t.k = 3 then decide (t.tx.size ≤ 64) && decide (t.nm = 0)
  else if t.k = 4 then empB t.tx && (decide (0 ≤ t.nm) && decide (t.nm ≤ 575999999))
  else if t.k = 5 then symB t.tx && decide (t.nm = 0)
  else false
/-- Do its fields fit its kind? -/
def isT (t : Tk) : Bool := if t.k = 0 then empB t.tx && decide (t.nm = 0) else okT t
/-- Is the token at place i what it must be? -/
def okAtT (ts : List TA) (i : Nat) : Bool :=
  match ts[i]? with
  | none => true
  | some t => (decide (t.1.k = 0) == decide (i + 1 = ts.length)) && isT t.1
def valB (ts : List TA) : Bool := decide (1 ≤ ts.length) && (List.range ts.length).all (okAtT ts)
def valE (ts : List TA) : Int := if valB ts = true then 0 else 8

theorem okT_kind {t : Tk} (h : t.k = 0) : okT t = false := by unfold okT; simp [h]
theorem valE_nil : valE [] = 8 := rfl
theorem valE_no {ts : List TA} {i : Nat} (hi : i < ts.length) (h : okAtT ts i = false) : valE ts = 8 := by
  unfold valE valB
  have : (List.range ts.length).all (okAtT ts) = false := by
    rw [List.all_eq_false]
    exact ⟨i, List.mem_range.2 hi, by simp [h]⟩
  rw [this, Bool.and_false]
  rfl
theorem valE_yes {ts : List TA} (h1 : 1 ≤ ts.length) (h : ∀ i, i < ts.length → okAtT ts i = true) : valE ts = 0 := by
  unfold valE valB
  rw [decide_eq_true h1, List.all_eq_true.2 fun i hi => h i (List.mem_range.1 hi)]
  rfl
theorem valE_zero {ts : List TA} (h : valE ts = 0) : 1 ≤ ts.length ∧ ∀ i, i < ts.length → okAtT ts i = true := by
  unfold valE at h
  by_cases hb : valB ts = true
  · unfold valB at hb
    rw [Bool.and_eq_true, decide_eq_true_eq, List.all_eq_true] at hb
    exact ⟨hb.1, fun i hi => hb.2 i (List.mem_range.2 hi)⟩
  · rw [if_neg hb] at h; cases h
theorem valE_cases (ts : List TA) : valE ts = 0 ∨ valE ts = 8 := by
  unfold valE
  split
  · exact .inl rfl
  · exact .inr rfl
theorem okAt_some {ts : List TA} {i : Nat} {t : TA} (h : ts[i]? = some t) : okAtT ts i = ((decide (t.1.k = 0) == decide (i + 1 = ts.length)) && isT t.1) := by
  unfold okAtT
  rw [h]
/-- A token that is not the last one .. -/
theorem okAt_mid {ts : List TA} {i : Nat} {t : TA} (h : ts[i]? = some t) (hi : i + 1 < ts.length) : okAtT ts i = okT t.1 := by
  rw [okAt_some h, decide_eq_false (by omega : ¬ i + 1 = ts.length)]
  by_cases h0 : t.1.k = 0
  · rw [decide_eq_true h0, okT_kind h0]; rfl
  · rw [decide_eq_false h0]
    unfold isT
    rw [if_neg h0]
    rfl
/-- .. and the last one. -/
theorem okAt_last {ts : List TA} {i : Nat} {t : TA} (h : ts[i]? = some t) (hi : i + 1 = ts.length) : okAtT ts i = (decide (t.1.k = 0) && (empB t.1.tx && decide (t.1.nm = 0))) := by
  rw [okAt_some h, decide_eq_true hi]
  by_cases h0 : t.1.k = 0
  · rw [decide_eq_true h0]
    unfold isT
    rw [if_pos h0]
    rfl
  · rw [decide_eq_false h0]; rfl

end Wh

