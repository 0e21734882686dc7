/-
  For every layer: boxes of the call's own, and what lies in them while  · For every layer: texts in memory (what came in, what lies in a row); t · From a walk of a law ('it returns true, and nothing that was there has · Slices of integers that came in. · Rows of integers that the call itself makes: what an owned row reads a · For every layer that holds tokens: tokens in memory, what came in and 
-/
import Derived.Test.YtmdpjahhhfajaaaGreatDoorRows
import Derived.WalkKit
import Derived.Below
import Derived.Laws.OwnMore
import Derived.Deep.Draws
import Derived.Deep.QuietTactic
import Derived.Test.YtmdpjahhhfajaaaGreatDoorJC01
import Derived.WalkLawsBesides
import Derived.WalkSpells
import Derived.Outline
import Derived.BigQuiet
import Derived.IntWalk
import Derived.Lib.Hide
import Derived.Lib.Bytealg
import Derived.LoopTactic
import Derived.Deep.RegionWith
import Derived.OwnWalk
import Derived.ProofKit
import Derived.OpenShut
import Derived.ShutString
import Derived.ChangeOld
import Derived.Carry
import Derived.Lib.SmallJoins
import Derived.Deep.Slices
import Derived.Laws.AppendOwn
import Derived.Laws.AppendOwnNone
import Derived.Deep.AppendLies
import Derived.Lib.AppendStr
set_option linter.unusedVariables false
set_option maxRecDepth 100000
namespace Go.Proofs.YtmdpjahhhfajaaaGreatDoor
open Go.RowKit
theorem bcell {W w1 : World} (hb : Below W.heap.size W w1) : (∀ b o, b < W.heap.size → w1.cell? ⟨b, o, none⟩ = W.cell? ⟨b, o, none⟩) ∧ (∀ b o, b < W.heap.size → w1.frozen? ⟨b, o, none⟩ = W.frozen? ⟨b, o, none⟩) :=
 ⟨fun b o h => hb.cell (p := ⟨b, o, none⟩) h, fun b o h => hb.frozen (p := ⟨b, o, none⟩) h⟩
theorem Below.drewN' {B : Nat} {a w : World} (h : Below B a w) (n : Nat) : Below B a (w.drewN n) := ⟨h.os, h.tape, h.output, h.size, h.block⟩
theorem box_cells {w wr : World} {v0 v1 v2 : Value} {t : TypeId} (h : Below (w.heap.size + 1) (w.alloc (.cells #[v0, v1, v2] t)) wr) :
  wr.cell? ⟨w.heap.size, 0, none⟩ = some v0 ∧ wr.cell? ⟨w.heap.size, 1, none⟩ = some v1 ∧ wr.cell? ⟨w.heap.size, 2, none⟩ = some v2 ∧ w.heap.size + 1 ≤ wr.heap.size ∧ Below w.heap.size w wr := by
 have e : (w.alloc (.cells #[v0, v1, v2] t)).heap[w.heap.size]? = some (.cells #[v0, v1, v2] t) := heap_alloc_new w _
 have hs := h.size
 simp only [World.size_alloc] at hs
 refine ⟨?_, ?_, ?_, hs, ((Below.refl _ _).alloc (Nat.le_refl _) _).trans (h.mono (by omega))⟩
 ·rw [h.cell (p := ⟨w.heap.size, 0, none⟩) (by show w.heap.size < _; omega)]
  exact cell_of_row _ _ 0 _ _ _ e
 ·rw [h.cell (p := ⟨w.heap.size, 1, none⟩) (by show w.heap.size < _; omega)]
  exact cell_of_row _ _ 1 _ _ _ e
 ·rw [h.cell (p := ⟨w.heap.size, 2, none⟩) (by show w.heap.size < _; omega)]
  exact cell_of_row _ _ 2 _ _ _ e
theorem own_mono {w : World} {base base' E sz n : Nat} {v : Value} {xs : List Value} (h : w.ownsRow base E sz v n xs) (hb : base' ≤ base) : w.ownsRow base' E sz v n xs := by
 refine ⟨h.1, ?_⟩
 rcases h.2 with h | ⟨g, cap, cur, e, hg, rest⟩
 ·exact .inl h
 ·exact .inr ⟨g, cap, cur, e, by omega, rest⟩
structure Box3 (w : World) (b : Nat) (x y z : Value) (t : TypeId) : Prop where
 block : w.heap[b]? = some (.cells #[x, y, z] t (0, 0))
theorem Box3.c0 {w : World} {b : Nat} {x y z : Value} {t : TypeId} (h : Box3 w b x y z t) : w.cell? ⟨b, 0, none⟩ = some x := cell_of_row _ _ 0 _ _ _ h.block
theorem Box3.c1 {w : World} {b : Nat} {x y z : Value} {t : TypeId} (h : Box3 w b x y z t) : w.cell? ⟨b, 1, none⟩ = some y := cell_of_row _ _ 1 _ _ _ h.block
theorem Box3.c2 {w : World} {b : Nat} {x y z : Value} {t : TypeId} (h : Box3 w b x y z t) : w.cell? ⟨b, 2, none⟩ = some z := cell_of_row _ _ 2 _ _ _ h.block
theorem Box3.free {w : World} {b : Nat} {x y z : Value} {t : TypeId} (h : Box3 w b x y z t) (j : Nat) : w.frozen? ⟨b, j, none⟩ = false := by simp [World.frozen?, h.block]
theorem Box3.lt {w : World} {b : Nat} {x y z : Value} {t : TypeId} (h : Box3 w b x y z t) : b < w.heap.size := (Array.getElem?_eq_some_iff.1 h.block).1
theorem Box3.set2 {w : World} {b : Nat} {x y z u : Value} {t : TypeId} (h : Box3 w b x y z t) : Box3 (w.setCell ⟨b, 2, none⟩ u) b x y u t := by
 refine ⟨?_⟩
 have hb := h.block
 simp only [World.setCell, Array.getElem?_modify, if_pos]
 rw [hb]
 rfl
theorem Box3.far {w : World} {b : Nat} {x y z u : Value} {t : TypeId} (h : Box3 w b x y z t) {a : Addr} (ha : b ≠ a.block) : Box3 (w.setCell a u) b x y z t := ⟨by rw [Below.heap_setCell _ _ _ _ ha]; exact h.block⟩
theorem Box3.alloc {w : World} {b : Nat} {x y z : Value} {t : TypeId} (h : Box3 w b x y z t) (o : Obj) : Box3 (w.alloc o) b x y z t := ⟨by rw [Below.heap_alloc _ _ _ h.lt]; exact h.block⟩
theorem Box3.drew {w : World} {b : Nat} {x y z : Value} {t : TypeId} (h : Box3 w b x y z t) : Box3 w.drew b x y z t := ⟨h.block⟩
theorem Box3.grown {w w' : World} {b : Nat} {x y z : Value} {t : TypeId} {row : Option Nat} (h : Box3 w b x y z t) (hg : w.grownBy w' row) (hne : some b ≠ row) : Box3 w' b x y z t := ⟨by rw [hg.block b h.lt hne]; exact h.block⟩
theorem choose_list {α : Type} (P : Nat → α → Prop) : ∀ n : Nat, (∀ i, i < n → ∃ v, P i v) → ∃ vs : List α, vs.length = n ∧ ∀ i v, vs[i]? = some v → P i v
 | 0, _ => ⟨[], rfl, by simp⟩
 | n + 1, h => by
  obtain ⟨vs, hl, hv⟩ := choose_list P n fun i hi => h i (by omega)
  obtain ⟨v, hp⟩ := h n (by omega)
  refine ⟨vs ++ [v], by simp [hl], fun i u hu => ?_⟩
  by_cases hi : i < n
  ·rw [List.getElem?_append_left (by omega)] at hu
   exact hv i u hu
  ·have hlt := (List.getElem?_eq_some_iff.1 hu).1
   simp only [List.length_append, List.length_cons, List.length_nil] at hlt
   obtain rfl : i = n := by omega
   rw [List.getElem?_append_right (by omega), hl] at hu
   simp at hu
   subst hu
   exact hp
end Go.Proofs.YtmdpjahhhfajaaaGreatDoor
namespace Wh
open Go
def eqS (s t : ByteArray) : Bool := s.toList == t.toList
theorem toList_bts (s : ByteArray) : s.toList = bts s := Lib.toList_data s
theorem eqS_iff {s t : ByteArray} : eqS s t = true ↔ s = t := by
 unfold eqS
 rw [toList_bts, toList_bts, beq_iff_eq]
 constructor
 ·intro h
  apply ByteArray.ext
  exact Array.toList_inj.1 h
 ·rintro rfl; rfl
theorem eqS_refl (s : ByteArray) : eqS s s = true := eqS_iff.2 rfl
theorem eqS_comm (s t : ByteArray) : eqS s t = eqS t s := by
 cases h : eqS t s with
 | true => rw [eqS_iff.1 h]; exact eqS_refl _
 | false =>
  cases h2 : eqS s t with
  | false => rfl
  | true => rw [eqS_iff.1 h2, eqS_refl] at h; cases h
end Wh
namespace Go.Proofs.YtmdpjahhhfajaaaGreatDoor
open Go.RowKit Wh
theorem info_str : (Tryz.prog.info? 9).map (fun i => (i.zero, i.size, i.bytes)) = some (some (.string ⟨#[]⟩), 1, 16) := by kernel_rfl
def IsStrs (w : World) (a : Option Addr) (len : Nat) (ss : List ByteArray) : Prop :=
 ss.length = len ∧ (ss = [] ∨ ∃ b off, a = some ⟨b, off, none⟩ ∧ b < w.heap.size ∧ ∀ i s, ss[i]? = some s → w.cell? ⟨b, off + i, none⟩ = some (.string s))
theorem IsStrs.below {w w' : World} {a : Option Addr} {len B : Nat} {cs : List ByteArray} (h : IsStrs w a len cs) (hb : Below B w w') (hB : w.heap.size ≤ B) : IsStrs w' a len cs := by
 obtain ⟨h1, h2⟩ := h
 refine ⟨h1, ?_⟩
 rcases h2 with h2 | ⟨b, off, ha, hlt, hc⟩
 ·exact .inl h2
 ·refine .inr ⟨b, off, ha, by have := hb.size; omega, fun i s hs => ?_⟩
  rw [hb.cell (p := ⟨b, off + i, none⟩) (by show b < B; omega)]
  exact hc i s hs
theorem IsStrs.at {w : World} {a : Option Addr} {len : Nat} {ss : List ByteArray} (h : IsStrs w a len ss) {k : Nat} (hk : k < len) :
  ∃ s b off, ss[k]? = some s ∧ a = some ⟨b, off, none⟩ ∧ b < w.heap.size ∧ w.cell? ⟨b, off + k, none⟩ = some (.string s) := by
 obtain ⟨h1, h2⟩ := h
 obtain ⟨s, hs⟩ : ∃ s, ss[k]? = some s := ⟨_, List.getElem?_eq_getElem (by omega)⟩
 rcases h2 with rfl | ⟨b, off, ha, hlt, hc⟩
 ·simp at hs
 ·exact ⟨s, b, off, hs, ha, hlt, hc k _ hs⟩
theorem IsStrs.take {w : World} {a : Option Addr} {len : Nat} {cs : List ByteArray} (h : IsStrs w a len cs) {k : Nat} (hk : k ≤ len) : IsStrs w a k (cs.take k) := by
 obtain ⟨h1, h2⟩ := h
 refine ⟨by rw [List.length_take]; omega, ?_⟩
 rcases h2 with rfl | ⟨b, off, ha, hlt, hc⟩
 ·exact .inl (by simp)
 ·refine .inr ⟨b, off, ha, hlt, fun i c hi => hc i c ?_⟩
  have hlt := (List.getElem?_eq_some_iff.1 hi).1
  rw [List.length_take] at hlt
  rw [List.getElem?_take_of_lt (by omega)] at hi
  exact hi
def letB (c : Int) : Bool := decide (97 ≤ c) && decide (c ≤ 122)
def digB (c : Int) : Bool := decide (48 ≤ c) && decide (c ≤ 57)
theorem isLetter_any (c : Int) (w : World) : Calls Tryz.prog 165 #[.int .i32 c] w fun e w' => e = .returned (.bool (letB c)) ∧ w = w' := by
 go_enter Tryz.func165, Tryz.ntmps165
 go_wp2
 all_goals
  go_ret
  refine ⟨ret_bool ?_, rfl⟩
  unfold letB
  first | (rw [decide_eq_true (p := 97 ≤ c) (by assumption), Bool.true_and]) | (rw [decide_eq_false (p := 97 ≤ c) (by assumption), Bool.false_and]) | (rw [decide_eq_false (p := 97 ≤ c) (by omega), Bool.false_and])
theorem isDigit_any (c : Int) (w : World) : Calls Tryz.prog 166 #[.int .i32 c] w fun e w' => e = .returned (.bool (digB c)) ∧ w = w' := by
 go_enter Tryz.func166, Tryz.ntmps166
 go_wp2
 all_goals
  go_ret
  refine ⟨ret_bool ?_, rfl⟩
  unfold digB
  first | (rw [decide_eq_true (p := 48 ≤ c) (by assumption), Bool.true_and]) | (rw [decide_eq_false (p := 48 ≤ c) (by assumption), Bool.false_and]) | (rw [decide_eq_false (p := 48 ≤ c) (by omega), Bool.false_and])
end Go.Proofs.YtmdpjahhhfajaaaGreatDoor
namespace Go.Proofs.YtmdpjahhhfajaaaGreatDoor
open Go.ChangeShapes Go.WideShapes Go.ChangeAt Go.RowKit Go.Joins
theorem own : ownKnob Tryz.prog.godebug = none := by kernel_rfl
theorem laidOut : laidOutB Tryz.prog = true := by kernel_rfl
theorem trod_low {H : Type} {enc : TypeId × Value → H} {W : World} {t : TypeId} {v : Value} {d : DataW H} {p : List MemPlace} (h : DataW.Trod enc Tryz.prog W 0 (fun _ => true) true t v d p) : ∀ x ∈ p, x.block < W.heap.size := by
 obtain ⟨m, hm⟩ := h
 exact DataW.trod_lt m _ _ _ hm
theorem trod_back {H : Type} {enc : TypeId × Value → H} {W W' : World} {t : TypeId} {v : Value} {d : DataW H} {p : List MemPlace} (hr : Tryz.prog.readableRec t = true) (ht : t < Tryz.prog.types.size)
  (h : DataW.Trod enc Tryz.prog W 0 (fun _ => true) true t v d p) (hb : Below W.heap.size W W') : DataW.Trod enc Tryz.prog W' 0 (fun b => decide (b < W.heap.size)) true t v d p :=
 Below.trod laidOut hr ht h hb (trod_low h)
end Go.Proofs.YtmdpjahhhfajaaaGreatDoor
namespace Go.Proofs.YtmdpjahhhfajaaaGreatDoor
open Go.ChangeShapes Go.WideShapes Go.ChangeAt Go.RowKit Go.Deep
def IsInts (w : World) (a : Option Addr) (len : Nat) (zs : List Int) : Prop :=
 zs.length = len ∧ (zs = [] ∨ ∃ b off, a = some ⟨b, off, none⟩ ∧ b < w.heap.size ∧ ∀ i z, zs[i]? = some z → w.cell? ⟨b, off + i, none⟩ = some (.int .i64 z))
theorem open_intlist {H : Type} {enc : TypeId × Value → H} {W : World} {base : Nat} {v : Value} {d : DataW H} {p : List MemPlace} (hv : Value.okWide Tryz.prog W .any base 22 v)
  (h : DataW.Trod enc Tryz.prog W 0 (fun _ => true) true 22 v d p) :
  ∃ (a : Option Addr) (len cap : Nat) (zs : List Int), v = .slice a len cap ∧ IsInts W a len zs ∧ len ≤ cap ∧ cap ≤ maxLen ∧ ∀ z ∈ zs, -9223372036854775808 ≤ z ∧ z ≤ 9223372036854775807 := by
 obtain ⟨a, len, cap, rfl⟩ := okWide_slice Tryz.underlying22 hv
 obtain ⟨fuel, hf⟩ := h
 rcases open_ints Tryz.underlying22 Tryz.underlying3 (by kernel_rfl) hf with ⟨hcs, _⟩ | ⟨x, l, c, zs, hcs, _, hl, hm, hz, _, hcell, hwz⟩
 ·simp [Value.cells] at hcs
  obtain ⟨rfl, rfl, rfl⟩ := hcs
  exact ⟨none, 0, 0, [], rfl, ⟨rfl, .inl rfl⟩, Nat.le_refl _, Nat.zero_le _, by simp⟩
 ·simp [Value.cells] at hcs
  obtain ⟨rfl, rfl, rfl⟩ := hcs
  simp only [if_true] at hz
  refine ⟨_, _, _, zs.take len, rfl, ⟨by rw [List.length_take]; omega, ?_⟩, hl, hm, fun z hzz => bounds_i64 (hwz z (List.mem_of_mem_take hzz))⟩
  by_cases h0 : len = 0
  ·subst h0
   exact .inl rfl
  ·obtain ⟨b, off, spot⟩ := x
   have hc0 := hcell 0 (by omega)
   have hspot : spot = none := by simpa [Addr.add] using World.cell?_spot hc0
   subst hspot
   have hadd : ∀ o j, (⟨b, o, none⟩ : Addr).add j = ⟨b, o + j, none⟩ := fun o j => by unfold Addr.add; split <;> simp_all
   refine .inr ⟨b, off, rfl, World.block_lt_of_cell? W _ hc0, fun i z hzz => ?_⟩
   have hlt := (List.getElem?_eq_some_iff.1 hzz).1
   rw [List.length_take] at hlt
   have hi := hcell i (by omega)
   rw [hadd] at hi
   rw [hi]
   rw [List.getElem?_take_of_lt (by omega)] at hzz
   simp [List.getD, hzz]
end Go.Proofs.YtmdpjahhhfajaaaGreatDoor
namespace Go.Proofs.YtmdpjahhhfajaaaGreatDoor
open Go.RowKit
theorem info_int : (Tryz.prog.info? 3).map (fun i => (i.zero, i.size, i.bytes)) = some (some (.int .i64 0), 1, 8) := by kernel_rfl
theorem own_below {W w1 : World} {base E sz n : Nat} {v : Value} {xs : List Value} (h : W.ownsRow base E sz v n xs) (hb : Below W.heap.size W w1) : w1.ownsRow base E sz v n xs := by
 refine h.kept (row := none) ⟨hb.os, hb.tape, hb.output, hb.size, fun k hk _ => hb.block k hk⟩ ?_
 cases e : v.ownBlock with
 | none => exact .inl rfl
 | some g => exact .inr (by simp)
def Apart (v u : Value) : Prop := ∀ g, v.ownBlock = some g → u.ownBlock = some g → False
theorem Apart.kept {v u : Value} (h : Apart v u) : u.ownBlock = none ∨ u.ownBlock ≠ v.ownBlock := by
 cases e : u.ownBlock with
 | none => exact .inl rfl
 | some g =>
  right
  intro e2
  exact h g e2.symm e
theorem own_ints {w : World} {base n : Nat} {v : Value} {zs : List Int} (h : w.ownsRow base 3 1 v n (zs.map (Value.int .i64))) :
  ∃ a cap, v = .slice a n cap ∧ IsInts w a n zs ∧ n ≤ cap ∧ cap ≤ maxLen ∧ (a = none → n = 0 ∧ cap = 0) ∧ (∀ x, a = some x → ∃ g, x = ⟨g, 0, none⟩ ∧ base ≤ g ∧ g < w.heap.size) := by
 have hl : zs.length = n := by have := h.1; simpa using this
 rcases h.2 with ⟨rfl, rfl⟩ | ⟨g, cap, cur, rfl, hb, hg, hn, hm, hs, ht⟩
 ·exact ⟨none, 0, rfl, ⟨hl, .inl (List.eq_nil_of_length_eq_zero hl)⟩, Nat.le_refl _, Nat.zero_le _, fun _ => ⟨rfl, rfl⟩, fun x hx => by cases hx⟩
 ·have hlt : g < w.heap.size := (h.lt g rfl).2
  refine ⟨some ⟨g, 0, none⟩, cap, rfl, ⟨hl, .inr ⟨g, 0, rfl, hlt, fun i z hz => ?_⟩⟩, hn, hm, fun hx => (by cases hx), fun x hx => ⟨g, by cases hx; rfl, hb, hlt⟩⟩
  have h1 := h.cells (g := g) rfl i (.int .i64 z) (by simp [hz])
  have hadd : (⟨g, 0, none⟩ : Addr).add i = ⟨g, 0 + i, none⟩ := by unfold Addr.add; split <;> simp_all
  rw [hadd] at h1
  exact h1
theorem IsInts.below {w w' : World} {a : Option Addr} {len : Nat} {zs : List Int} {B : Nat} (h : IsInts w a len zs) (hb : Below B w w') (hB : w.heap.size ≤ B) : IsInts w' a len zs := by
 refine ⟨h.1, ?_⟩
 rcases h.2 with h0 | ⟨b, off, ha, hlt, hat⟩
 ·exact .inl h0
 ·exact .inr ⟨b, off, ha, Nat.lt_of_lt_of_le hlt hb.size, fun i z hz => by rw [hb.cell (p := ⟨b, off + i, none⟩) (Nat.lt_of_lt_of_le hlt hB)]; exact hat i z hz⟩
end Go.Proofs.YtmdpjahhhfajaaaGreatDoor
namespace Wh
open Go
structure Tk where
 k : Int
 tx : ByteArray
 nm : Int
def noT : Tk := ⟨0, ⟨#[]⟩, 0⟩
end Wh
namespace Go.Proofs.YtmdpjahhhfajaaaGreatDoor
open Go.RowKit Wh
abbrev TA := Tk × Int
abbrev T4 := Value × Value × Value × Value
def flat4 (l : List T4) : List Value := l.flatMap fun t => [t.1, t.2.1, t.2.2.1, t.2.2.2]
def cT (t : TA) : T4 := (.int .i64 t.1.k, .string t.1.tx, .int .i64 t.1.nm, .int .i64 t.2)
def tokV (t : TA) : Value := .agg #[.int .i64 t.1.k, .string t.1.tx, .int .i64 t.1.nm, .int .i64 t.2]
def toksL (l : List TA) : List Value := flat4 (l.map cT)
theorem info_tok : (Tryz.prog.info? 71).map (fun i => (i.zero, i.size, i.bytes)) = some (some (.agg #[.int .i64 0, .string ⟨#[]⟩, .int .i64 0, .int .i64 0]), 4, 40) := by kernel_rfl
theorem size_tok (W : World) : (sizeOf 71).run Tryz.prog W = .ok 4 W := by
 obtain ⟨i0, hi, _, h1, _⟩ := info_parts info_tok
 simp [sizeOf, typeInfo, hi, h1]
theorem flat4_at (l : List T4) (i : Nat) (t : T4) (h : l[i]? = some t) : (flat4 l)[i * 4]? = some t.1 ∧ (flat4 l)[i * 4 + 1]? = some t.2.1 ∧ (flat4 l)[i * 4 + 2]? = some t.2.2.1 ∧ (flat4 l)[i * 4 + 3]? = some t.2.2.2 := by
 unfold flat4
 induction l generalizing i with
 | nil => simp at h
 | cons u l ih =>
  cases i with
  | zero => simp at h; subst h; simp
  | succ i =>
   simp only [List.getElem?_cons_succ] at h
   have := ih i h
   rw [show (i + 1) * 4 = i * 4 + 1 + 1 + 1 + 1 from by omega]
   simpa [List.flatMap_cons] using this
theorem toksL_push (l : List TA) (t : TA) : toksL l ++ [.int .i64 t.1.k, .string t.1.tx, .int .i64 t.1.nm, .int .i64 t.2] = toksL (l ++ [t]) := by
 unfold toksL flat4
 simp [cT]
def IsToks (w : World) (a : Option Addr) (len : Nat) (ts : List TA) : Prop :=
 ts.length = len ∧ (ts = [] ∨ ∃ b off, a = some ⟨b, off, none⟩ ∧ b < w.heap.size ∧ ∀ i t, ts[i]? = some t →
  w.cell? ⟨b, off + i * 4, none⟩ = some (.int .i64 t.1.k) ∧ w.cell? ⟨b, off + i * 4 + 1, none⟩ = some (.string t.1.tx) ∧ w.cell? ⟨b, off + i * 4 + 2, none⟩ = some (.int .i64 t.1.nm) ∧ w.cell? ⟨b, off + i * 4 + 3, none⟩ = some (.int .i64 t.2))
theorem IsToks.below {w w' : World} {a : Option Addr} {len B : Nat} {ts : List TA} (h : IsToks w a len ts) (hb : Below B w w') (hB : w.heap.size ≤ B) : IsToks w' a len ts := by
 obtain ⟨h1, h2⟩ := h
 refine ⟨h1, ?_⟩
 rcases h2 with h2 | ⟨b, off, ha, hlt, hc⟩
 ·exact .inl h2
 ·have e : ∀ o, w'.cell? ⟨b, o, none⟩ = w.cell? ⟨b, o, none⟩ := fun o => hb.cell (p := ⟨b, o, none⟩) (by show b < B; omega)
  refine .inr ⟨b, off, ha, by have := hb.size; omega, fun i s hs => ?_⟩
  rw [e, e, e, e]
  exact hc i s hs
theorem IsToks.at {w : World} {a : Option Addr} {len : Nat} {ts : List TA} (h : IsToks w a len ts) {k : Nat} (hk : k < len) :
  ∃ kd tx nm p b off, ts[k]? = some (⟨kd, tx, nm⟩, p) ∧ a = some ⟨b, off, none⟩ ∧ b < w.heap.size ∧ w.cell? ⟨b, off + k * 4, none⟩ = some (.int .i64 kd) ∧ w.cell? ⟨b, off + k * 4 + 1, none⟩ = some (.string tx) ∧ w.cell? ⟨b, off + k * 4 + 2, none⟩ = some (.int .i64 nm) ∧ w.cell? ⟨b, off + k * 4 + 3, none⟩ = some (.int .i64 p) := by
 obtain ⟨h1, h2⟩ := h
 obtain ⟨⟨⟨kd, tx, nm⟩, p⟩, hs⟩ : ∃ s, ts[k]? = some s := ⟨_, List.getElem?_eq_getElem (by omega)⟩
 rcases h2 with rfl | ⟨b, off, ha, hlt, hc⟩
 ·simp at hs
 ·exact ⟨kd, tx, nm, p, b, off, hs, ha, hlt, (hc k _ hs).1, (hc k _ hs).2.1, (hc k _ hs).2.2.1, (hc k _ hs).2.2.2⟩
theorem IsToks.take {w : World} {a : Option Addr} {len : Nat} {ts : List TA} (h : IsToks w a len ts) {k : Nat} (hk : k ≤ len) : IsToks w a k (ts.take k) := by
 obtain ⟨h1, h2⟩ := h
 refine ⟨by rw [List.length_take]; omega, ?_⟩
 rcases h2 with rfl | ⟨b, off, ha, hlt, hc⟩
 ·exact .inl (by simp)
 ·refine .inr ⟨b, off, ha, hlt, fun i c hi => hc i c ?_⟩
  have hlt := (List.getElem?_eq_some_iff.1 hi).1
  rw [List.length_take] at hlt
  rw [List.getElem?_take_of_lt (by omega)] at hi
  exact hi
theorem slice_to_toks (a : Option Addr) (len cap k : Nat) (hk : k ≤ cap) (hm : cap ≤ maxLen) (hn : a = none → cap = 0) (hs : ∀ x, a = some x → x.spot = none) (W : World) :
  (Instr.slice 34 (.slice a len cap) none (some (.int .i64 k)) none).run Tryz.prog W = .ok (.slice a k cap) W := by
 have ht : Tryz.prog.underlying 34 = some (.slice (Tryz.prog.elem 34)) := by simp [Program.elem, Tryz.underlying34]
 have he : Tryz.prog.elem 34 = 71 := by simp [Program.elem, Tryz.underlying34]
 rw [run_slice_h W _ _ _ _ ht .i64 _ (by omega) (by omega), he, size_tok]
 by_cases hc : cap = 0
 ·simp [Result.andThen, sliced, hc]
 ·cases a with
  | none => exact absurd (hn rfl) hc
  | some x =>
   obtain ⟨b, off, spot⟩ := x
   have := hs _ rfl
   simp only at this
   subst this
   have hadd : (⟨b, off, none⟩ : Addr).add 0 = ⟨b, off, none⟩ := by unfold Addr.add; split <;> simp_all
   simp [Result.andThen, sliced, hc, hadd]
theorem own_toks {w : World} {base n : Nat} {v : Value} {ts : List TA} (h : w.ownsRow base 71 4 v n (toksL ts)) (hn : ts.length = n) :
  ∃ (a : Option Addr) (cap : Nat), v = .slice a n cap ∧ IsToks w a n ts ∧ n ≤ cap ∧ cap ≤ maxLen ∧ (a = none → cap = 0) ∧ (∀ x, a = some x → ∃ g, x = ⟨g, 0, none⟩ ∧ base ≤ g ∧ g < w.heap.size) := by
 rcases h.2 with ⟨rfl, rfl⟩ | ⟨g, cap, cur, rfl, hg, hh, hnc, hmc, _, ht⟩
 ·exact ⟨none, 0, rfl, ⟨hn, .inl (List.eq_nil_of_length_eq_zero hn)⟩, Nat.le_refl _, Nat.zero_le _, fun _ => rfl, fun x hx => by cases hx⟩
 ·have hlt : g < w.heap.size := (Array.getElem?_eq_some_iff.1 hh).1
  refine ⟨_, cap, rfl, ⟨hn, .inr ⟨g, 0, rfl, hlt, fun i t hi => ?_⟩⟩, hnc, hmc, fun hx => (by cases hx), by rintro x ⟨⟩; exact ⟨g, rfl, hg, hlt⟩⟩
  obtain ⟨f0, f1, f2, f3⟩ := flat4_at (ts.map cT) i (cT t) (by rw [List.getElem?_map, hi]; rfl)
  have hk := (List.getElem?_eq_some_iff.1 hi).1
  simp only [Nat.zero_add]
  exact ⟨(h.cellAt (i * 4) (by omega)).trans f0, (h.cellAt (i * 4 + 1) (by omega)).trans f1, (h.cellAt (i * 4 + 2) (by omega)).trans f2, (h.cellAt (i * 4 + 3) (by omega)).trans f3⟩
structure Box4 (w : World) (b : Nat) (x y z u : Value) (t : TypeId) : Prop where
 block : w.heap[b]? = some (.cells #[x, y, z, u] t (0, 0))
theorem Box4.new (w : World) (x y z u : Value) (t : TypeId) : Box4 (w.alloc (.cells #[x, y, z, u] t)) w.heap.size x y z u t := ⟨heap_alloc_new w _⟩
theorem Box4.c0 {w : World} {b : Nat} {x y z u : Value} {t : TypeId} (h : Box4 w b x y z u t) : w.cell? ⟨b, 0, none⟩ = some x := cell_of_row _ _ 0 _ _ _ h.block
theorem Box4.c1 {w : World} {b : Nat} {x y z u : Value} {t : TypeId} (h : Box4 w b x y z u t) : w.cell? ⟨b, 1, none⟩ = some y := cell_of_row _ _ 1 _ _ _ h.block
theorem Box4.c2 {w : World} {b : Nat} {x y z u : Value} {t : TypeId} (h : Box4 w b x y z u t) : w.cell? ⟨b, 2, none⟩ = some z := cell_of_row _ _ 2 _ _ _ h.block
theorem Box4.c3 {w : World} {b : Nat} {x y z u : Value} {t : TypeId} (h : Box4 w b x y z u t) : w.cell? ⟨b, 3, none⟩ = some u := cell_of_row _ _ 3 _ _ _ h.block
theorem Box4.free {w : World} {b : Nat} {x y z u : Value} {t : TypeId} (h : Box4 w b x y z u t) (j : Nat) : w.frozen? ⟨b, j, none⟩ = false := by simp [World.frozen?, h.block]
theorem Box4.lt {w : World} {b : Nat} {x y z u : Value} {t : TypeId} (h : Box4 w b x y z u t) : b < w.heap.size := (Array.getElem?_eq_some_iff.1 h.block).1
theorem Box4.below {w w' : World} {b B : Nat} {x y z u : Value} {t : TypeId} (h : Box4 w b x y z u t) (hb : Below B w w') (hB : b < B) : Box4 w' b x y z u t := ⟨by rw [hb.block b hB]; exact h.block⟩
theorem Box4.far {w : World} {b : Nat} {x y z u v : Value} {t : TypeId} (h : Box4 w b x y z u t) {a : Addr} (ha : b ≠ a.block) : Box4 (w.setCell a v) b x y z u t := ⟨by rw [Below.heap_setCell _ _ _ _ ha]; exact h.block⟩
theorem Box4.alloc {w : World} {b : Nat} {x y z u : Value} {t : TypeId} (h : Box4 w b x y z u t) (o : Obj) : Box4 (w.alloc o) b x y z u t := ⟨by rw [Below.heap_alloc _ _ _ h.lt]; exact h.block⟩
theorem Box4.drew {w : World} {b : Nat} {x y z u : Value} {t : TypeId} (h : Box4 w b x y z u t) : Box4 w.drew b x y z u t := ⟨h.block⟩
theorem Box4.grown {w w' : World} {b : Nat} {x y z u : Value} {t : TypeId} {row : Option Nat} (h : Box4 w b x y z u t) (hg : w.grownBy w' row) (hne : some b ≠ row) : Box4 w' b x y z u t := ⟨by rw [hg.block b h.lt hne]; exact h.block⟩
theorem Box4.store {w : World} {b : Nat} {x y z u x' y' z' u' : Value} {t : TypeId} (h : Box4 w b x y z u t) :
  Box4 ((((w.setCell ⟨b, 0, none⟩ x').setCell ⟨b, 1, none⟩ y').setCell ⟨b, 2, none⟩ z').setCell ⟨b, 3, none⟩ u') b x' y' z' u' t := by
 refine ⟨?_⟩
 have hb := h.block
 simp only [World.setCell, Array.getElem?_modify, if_pos]
 rw [hb]
 rfl
theorem Box4.set3 {w : World} {b : Nat} {x y z u v : Value} {t : TypeId} (h : Box4 w b x y z u t) : Box4 (w.setCell ⟨b, 3, none⟩ v) b x y z v t := by
 refine ⟨?_⟩
 have hb := h.block
 simp only [World.setCell, Array.getElem?_modify, if_pos]
 rw [hb]
 rfl
end Go.Proofs.YtmdpjahhhfajaaaGreatDoor
