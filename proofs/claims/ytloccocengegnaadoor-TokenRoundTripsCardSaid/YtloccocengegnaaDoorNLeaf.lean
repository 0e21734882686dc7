/-
  For every layer: texts in memory (what came in, what lies in a row); the small functions of schema.
-/
import Derived.Test.YtloccocengegnaaDoorRows
import Derived.Test.YtloccocengegnaaDoorGRet
import Derived.Test.YtloccocengegnaaDoorGBox
import Derived.Test.YtloccocengegnaaDoorGStr
import Derived.WalkLawsBesides
import Derived.WalkSpells
import Derived.Outline
import Derived.BigQuiet
import Derived.Below
import Derived.IntWalk
import Derived.Lib.Hide
import Derived.Lib.Bytealg
import Derived.LoopTactic
import Derived.Deep.RegionWith
import Derived.OwnWalk
set_option linter.unusedVariables false
namespace Wh
open Go

/-- Are two texts the same? -/
def eqS (s t : ByteArray) : Bool := s.toList == t.toList

theorem toList_bts (s : ByteArray) : s.toList = bts s := Lib.toList_data s
theorem eqS_iff {s t : ByteArray} : eqS s t = true ↔ s = t := by
  unfold eqS
  rw [toList_bts, toList_bts, beq_iff_eq]
  constructor
  · intro h
    apply ByteArray.ext
    exact Array.toList_inj.1 h
  · rintro rfl; rfl
theorem eqS_refl (s : ByteArray) : eqS s s = true := eqS_iff.2 rfl
theorem eqS_comm (s t : ByteArray) : eqS s t = eqS t s := by
  cases h : eqS t s with
  | true => rw [eqS_iff.1 h]; exact eqS_refl _
  | false =>
    cases h2 : eqS s t with
    | false => rfl
    | true => rw [eqS_iff.1 h2, eqS_refl] at h; cases h

end Wh
namespace Go.Proofs.YtloccocengegnaaDoor
open Go.RowKit Wh

theorem info_str : (Tryd.prog.info? 9).map (fun i => (i.zero, i.size, i.bytes)) = some (some (.string ⟨#[]⟩), 1, 16) := by kernel_rfl
theorem size_str (W : World) : (sizeOf 9).run Tryd.prog W = .ok 1 W := by
  obtain ⟨i0, hi, _, h1, _⟩ := info_parts info_str
  simp [sizeOf, typeInfo, hi, h1]

theorem slice_to_strs (b off len cap k : Nat) (hk : k ≤ cap) (hc : 0 < cap) (W : World) :
    (Instr.slice 22 (.slice (some ⟨b, off, none⟩) len cap) none (some (.int .i64 k)) none).run Tryd.prog W = .ok (.slice (some ⟨b, off, none⟩) k cap) W := by
  have ht : Tryd.prog.underlying 22 = some (.slice (Tryd.prog.elem 22)) := by simp [Program.elem, Tryd.underlying22]
  have he : Tryd.prog.elem 22 = 9 := by simp [Program.elem, Tryd.underlying22]
  rw [run_slice_h W _ _ _ _ ht .i64 _ (by omega) (by omega), he, size_str]
  have hadd : (⟨b, off, none⟩ : Addr).add 0 = ⟨b, off, none⟩ := by unfold Addr.add; split <;> simp_all
  simp [Result.andThen, sliced, hadd, show ¬ cap = 0 by omega]

/-- The slice (a, len) has the texts ss. -/
def IsStrs (w : World) (a : Option Addr) (len : Nat) (ss : List ByteArray) : Prop :=
  ss.length = len ∧ (ss = [] ∨ ∃ b off, a = some ⟨b, off, none⟩ ∧ b < w.heap.size ∧ ∀ i s, ss[i]? = some s → w.cell? ⟨b, off + i, none⟩ = some (.string s))

theorem IsStrs.below {w w' : World} {a : Option Addr} {len B : Nat} {cs : List ByteArray} (h : IsStrs w a len cs) (hb : Below B w w') (hB : w.heap.size ≤ B) : IsStrs w' a len cs := by
  obtain ⟨h1, h2⟩ := h
  refine ⟨h1, ?_⟩
  rcases h2 with h2 | ⟨b, off, ha, hlt, hc⟩
  · exact .inl h2
  · refine .inr ⟨b, off, ha, by have := hb.size; omega, fun i s hs => ?_⟩
    rw [hb.cell (p := ⟨b, off + i, none⟩) (by show b < B; omega)]
    exact hc i s hs

theorem IsStrs.at {w : World} {a : Option Addr} {len : Nat} {ss : List ByteArray} (h : IsStrs w a len ss) {k : Nat} (hk : k < len) :
    ∃ s b off, ss[k]? = some s ∧ a = some ⟨b, off, none⟩ ∧ b < w.heap.size ∧ w.cell? ⟨b, off + k, none⟩ = some (.string s) := by
  obtain ⟨h1, h2⟩ := h
  obtain ⟨s, hs⟩ : ∃ s, ss[k]? = some s := ⟨_, List.getElem?_eq_getElem (by omega)⟩
  rcases h2 with rfl | ⟨b, off, ha, hlt, hc⟩
  · simp at hs
  · exact ⟨s, b, off, hs, ha, hlt, hc k _ hs⟩

theorem IsStrs.take {w : World} {a : Option Addr} {len : Nat} {cs : List ByteArray} (h : IsStrs w a len cs) {k : Nat} (hk : k ≤ len) : IsStrs w a k (cs.take k) := by
  obtain ⟨h1, h2⟩ := h
  refine ⟨by rw [List.length_take]; omega, ?_⟩
  rcases h2 with rfl | ⟨b, off, ha, hlt, hc⟩
  · exact .inl (by simp)
  · refine .inr ⟨b, off, ha, hlt, fun i c hi => hc i c ?_⟩
    have hlt := (List.getElem?_eq_some_iff.1 hi).1
    rw [List.length_take] at hlt
    rw [List.getElem?_take_of_lt (by omega)] at hi
    exact hi

/-- Is it a letter, a digit? -/
def letB (c : Int) : Bool := decide (97 ≤ c) && decide (c ≤ 122)
def digB (c : Int) : Bool := decide (48 ≤ c) && decide (c ≤ 57)

theorem isLetter_any (c : Int) (w : World) : Calls Tryd.prog 73 #[.int .i32 c] w fun e w' => e = .returned (.bool (letB c)) ∧ w = w' := by
  go_enter Tryd.func73, Tryd.ntmps73
  go_wp2
  all_goals
    go_ret
    refine ⟨ret_bool ?_, rfl⟩
    unfold letB
    first | (rw [decide_eq_true (p := 97 ≤ c) (by assumption), Bool.true_and]) | (rw [decide_eq_false (p := 97 ≤ c) (by assumption), Bool.false_and]) | (rw [decide_eq_false (p := 97 ≤ c) (by omega), Bool.false_and])

theorem isDigit_any (c : Int) (w : World) : Calls Tryd.prog 74 #[.int .i32 c] w fun e w' => e = .returned (.bool (digB c)) ∧ w = w' := by
  go_enter Tryd.func74, Tryd.ntmps74
  go_wp2
  all_goals
    go_ret
    refine ⟨ret_bool ?_, rfl⟩
    unfold digB
    first | (rw [decide_eq_true (p := 48 ≤ c) (by assumption), Bool.true_and]) | (rw [decide_eq_false (p := 48 ≤ c) (by assumption), Bool.false_and]) | (rw [decide_eq_false (p := 48 ≤ c) (by omega), Bool.false_and])

end Go.Proofs.YtloccocengegnaaDoor

