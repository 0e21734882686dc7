/-
  For every layer: columns, values and texts in memory (what came in, what lies in a row); the small functions of schema.
-/
import Derived.Test.YtdlkkajkflebgaaRows
import Derived.Test.YtdlkkajkflebgaaGRet
import Derived.Test.YtdlkkajkflebgaaGBox
import Derived.Test.YtdlkkajkflebgaaGStr
import Derived.WalkLawsBesides
import Derived.WalkSpells
import Derived.Outline
import Derived.BigQuiet
import Derived.Below
import Derived.IntWalk
import Derived.Lib.Hide
import Derived.Lib.Bytealg
import Derived.LoopTactic
import Derived.Deep.RegionWith
import Derived.OwnWalk
set_option linter.unusedVariables false
namespace Wh
open Go

/-- A column. -/
structure C where
  nm : ByteArray
  k : Int
  nu : Bool

/-- Are two texts the same? -/
def eqS (s t : ByteArray) : Bool := s.toList == t.toList

theorem toList_bts (s : ByteArray) : s.toList = bts s := Lib.toList_data s
theorem eqS_iff {s t : ByteArray} : eqS s t = true ↔ s = t := by
  unfold eqS
  rw [toList_bts, toList_bts, beq_iff_eq]
  constructor
  · intro h
    apply ByteArray.ext
    exact Array.toList_inj.1 h
  · rintro rfl; rfl
theorem eqS_refl (s : ByteArray) : eqS s s = true := eqS_iff.2 rfl
theorem eqS_comm (s t : ByteArray) : eqS s t = eqS t s := by
  cases h : eqS t s with
  | true => rw [eqS_iff.1 h]; exact eqS_refl _
  | false =>
    cases h2 : eqS s t with
    | false => rfl
    | true => rw [eqS_iff.1 h2, eqS_refl] at h; cases h

end Wh
namespace Go.Proofs.Ytdlkkajkflebgaa
open Go.RowKit Wh

abbrev colV (nm : ByteArray) (k : Int) (nu : Bool) : Value := .agg #[.string nm, .int .i64 k, .bool nu]

theorem info_col : (Try.prog.info? 55).map (fun i => (i.zero, i.size, i.bytes)) = some (some (.agg #[.string ⟨#[]⟩, .int .i64 0, .bool false]), 3, 32) := by kernel_rfl
theorem info_str : (Try.prog.info? 9).map (fun i => (i.zero, i.size, i.bytes)) = some (some (.string ⟨#[]⟩), 1, 16) := by kernel_rfl
theorem size_col (W : World) : (sizeOf 55).run Try.prog W = .ok 3 W := by
  obtain ⟨i0, hi, _, h1, _⟩ := info_parts info_col
  simp [sizeOf, typeInfo, hi, h1]
theorem size_str (W : World) : (sizeOf 9).run Try.prog W = .ok 1 W := by
  obtain ⟨i0, hi, _, h1, _⟩ := info_parts info_str
  simp [sizeOf, typeInfo, hi, h1]

theorem slice_to_cols (b off len cap k : Nat) (hk : k ≤ cap) (hc : 0 < cap) (W : World) :
    (Instr.slice 28 (.slice (some ⟨b, off, none⟩) len cap) none (some (.int .i64 k)) none).run Try.prog W = .ok (.slice (some ⟨b, off, none⟩) k cap) W := by
  have ht : Try.prog.underlying 28 = some (.slice (Try.prog.elem 28)) := by simp [Program.elem, Try.underlying28]
  have he : Try.prog.elem 28 = 55 := by simp [Program.elem, Try.underlying28]
  rw [run_slice_h W _ _ _ _ ht .i64 _ (by omega) (by omega), he, size_col]
  have hadd : (⟨b, off, none⟩ : Addr).add 0 = ⟨b, off, none⟩ := by unfold Addr.add; split <;> simp_all
  simp [Result.andThen, sliced, hadd, show ¬ cap = 0 by omega]

theorem slice_to_strs (b off len cap k : Nat) (hk : k ≤ cap) (hc : 0 < cap) (W : World) :
    (Instr.slice 24 (.slice (some ⟨b, off, none⟩) len cap) none (some (.int .i64 k)) none).run Try.prog W = .ok (.slice (some ⟨b, off, none⟩) k cap) W := by
  have ht : Try.prog.underlying 24 = some (.slice (Try.prog.elem 24)) := by simp [Program.elem, Try.underlying24]
  have he : Try.prog.elem 24 = 9 := by simp [Program.elem, Try.underlying24]
  rw [run_slice_h W _ _ _ _ ht .i64 _ (by omega) (by omega), he, size_str]
  have hadd : (⟨b, off, none⟩ : Addr).add 0 = ⟨b, off, none⟩ := by unfold Addr.add; split <;> simp_all
  simp [Result.andThen, sliced, hadd, show ¬ cap = 0 by omega]

/-- The slice (a, len) has the columns cs. -/
def IsCols (w : World) (a : Option Addr) (len : Nat) (cs : List C) : Prop :=
  cs.length = len ∧ (cs = [] ∨ ∃ b off, a = some ⟨b, off, none⟩ ∧ b < w.heap.size ∧ ∀ i c, cs[i]? = some c →
    w.cell? ⟨b, off + i * 3, none⟩ = some (.string c.nm) ∧ w.cell? ⟨b, off + i * 3 + 1, none⟩ = some (.int .i64 c.k) ∧ w.cell? ⟨b, off + i * 3 + 2, none⟩ = some (.bool c.nu))

theorem IsCols.below {w w' : World} {a : Option Addr} {len B : Nat} {cs : List C} (h : IsCols w a len cs) (hb : Below B w w') (hB : w.heap.size ≤ B) : IsCols w' a len cs := by
  obtain ⟨h1, h2⟩ := h
  refine ⟨h1, ?_⟩
  rcases h2 with h2 | ⟨b, off, ha, hlt, hc⟩
  · exact .inl h2
  · have e : ∀ o, w'.cell? ⟨b, o, none⟩ = w.cell? ⟨b, o, none⟩ := fun o => hb.cell (p := ⟨b, o, none⟩) (by show b < B; omega)
    refine .inr ⟨b, off, ha, by have := hb.size; omega, fun i s hs => ?_⟩
    rw [e, e, e]
    exact hc i s hs

theorem IsCols.at {w : World} {a : Option Addr} {len : Nat} {cs : List C} (h : IsCols w a len cs) {k : Nat} (hk : k < len) :
    ∃ nm kd nu b off, cs[k]? = some ⟨nm, kd, nu⟩ ∧ a = some ⟨b, off, none⟩ ∧ b < w.heap.size ∧ w.cell? ⟨b, off + k * 3, none⟩ = some (.string nm) ∧ w.cell? ⟨b, off + k * 3 + 1, none⟩ = some (.int .i64 kd) ∧ w.cell? ⟨b, off + k * 3 + 2, none⟩ = some (.bool nu) := by
  obtain ⟨h1, h2⟩ := h
  obtain ⟨⟨nm, kd, nu⟩, hs⟩ : ∃ s, cs[k]? = some s := ⟨_, List.getElem?_eq_getElem (by omega)⟩
  rcases h2 with rfl | ⟨b, off, ha, hlt, hc⟩
  · simp at hs
  · exact ⟨nm, kd, nu, b, off, hs, ha, hlt, (hc k _ hs).1, (hc k _ hs).2.1, (hc k _ hs).2.2⟩

theorem IsCols.take {w : World} {a : Option Addr} {len : Nat} {cs : List C} (h : IsCols w a len cs) {k : Nat} (hk : k ≤ len) : IsCols w a k (cs.take k) := by
  obtain ⟨h1, h2⟩ := h
  refine ⟨by rw [List.length_take]; omega, ?_⟩
  rcases h2 with rfl | ⟨b, off, ha, hlt, hc⟩
  · exact .inl (by simp)
  · refine .inr ⟨b, off, ha, hlt, fun i c hi => hc i c ?_⟩
    have hlt := (List.getElem?_eq_some_iff.1 hi).1
    rw [List.length_take] at hlt
    rw [List.getElem?_take_of_lt (by omega)] at hi
    exact hi

/-- The slice (a, len) has the texts ss. -/
def IsStrs (w : World) (a : Option Addr) (len : Nat) (ss : List ByteArray) : Prop :=
  ss.length = len ∧ (ss = [] ∨ ∃ b off, a = some ⟨b, off, none⟩ ∧ b < w.heap.size ∧ ∀ i s, ss[i]? = some s → w.cell? ⟨b, off + i, none⟩ = some (.string s))

theorem IsStrs.below {w w' : World} {a : Option Addr} {len B : Nat} {cs : List ByteArray} (h : IsStrs w a len cs) (hb : Below B w w') (hB : w.heap.size ≤ B) : IsStrs w' a len cs := by
  obtain ⟨h1, h2⟩ := h
  refine ⟨h1, ?_⟩
  rcases h2 with h2 | ⟨b, off, ha, hlt, hc⟩
  · exact .inl h2
  · refine .inr ⟨b, off, ha, by have := hb.size; omega, fun i s hs => ?_⟩
    rw [hb.cell (p := ⟨b, off + i, none⟩) (by show b < B; omega)]
    exact hc i s hs

theorem IsStrs.at {w : World} {a : Option Addr} {len : Nat} {ss : List ByteArray} (h : IsStrs w a len ss) {k : Nat} (hk : k < len) :
    ∃ s b off, ss[k]? = some s ∧ a = some ⟨b, off, none⟩ ∧ b < w.heap.size ∧ w.cell? ⟨b, off + k, none⟩ = some (.string s) := by
  obtain ⟨h1, h2⟩ := h
  obtain ⟨s, hs⟩ : ∃ s, ss[k]? = some s := ⟨_, List.getElem?_eq_getElem (by omega)⟩
  rcases h2 with rfl | ⟨b, off, ha, hlt, hc⟩
  · simp at hs
  · exact ⟨s, b, off, hs, ha, hlt, hc k _ hs⟩

theorem IsStrs.take {w : World} {a : Option Addr} {len : Nat} {cs : List ByteArray} (h : IsStrs w a len cs) {k : Nat} (hk : k ≤ len) : IsStrs w a k (cs.take k) := by
  obtain ⟨h1, h2⟩ := h
  refine ⟨by rw [List.length_take]; omega, ?_⟩
  rcases h2 with rfl | ⟨b, off, ha, hlt, hc⟩
  · exact .inl (by simp)
  · refine .inr ⟨b, off, ha, hlt, fun i c hi => hc i c ?_⟩
    have hlt := (List.getElem?_eq_some_iff.1 hi).1
    rw [List.length_take] at hlt
    rw [List.getElem?_take_of_lt (by omega)] at hi
    exact hi

/-- Is it a letter, a digit? -/
def letB (c : Int) : Bool := decide (97 ≤ c) && decide (c ≤ 122)
def digB (c : Int) : Bool := decide (48 ≤ c) && decide (c ≤ 57)

theorem isLetter_any (c : Int) (w : World) : Calls Try.prog 38 #[.int .i32 c] w fun e w' => e = .returned (.bool (letB c)) ∧ w = w' := by
  go_enter Try.func38, Try.ntmps38
  go_wp2
  all_goals
    go_ret
    refine ⟨ret_bool ?_, rfl⟩
    unfold letB
    first | (rw [decide_eq_true (p := 97 ≤ c) (by assumption), Bool.true_and]) | (rw [decide_eq_false (p := 97 ≤ c) (by assumption), Bool.false_and]) | (rw [decide_eq_false (p := 97 ≤ c) (by omega), Bool.false_and])

theorem isDigit_any (c : Int) (w : World) : Calls Try.prog 39 #[.int .i32 c] w fun e w' => e = .returned (.bool (digB c)) ∧ w = w' := by
  go_enter Try.func39, Try.ntmps39
  go_wp2
  all_goals
    go_ret
    refine ⟨ret_bool ?_, rfl⟩
    unfold digB
    first | (rw [decide_eq_true (p := 48 ≤ c) (by assumption), Bool.true_and]) | (rw [decide_eq_false (p := 48 ≤ c) (by assumption), Bool.false_and]) | (rw [decide_eq_false (p := 48 ≤ c) (by omega), Bool.false_and])

end Go.Proofs.Ytdlkkajkflebgaa
