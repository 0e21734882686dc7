/-
  From a walk of a law ('it returns true, and nothing that was there has changed') to its statement: what every layer's lift needs. · Slices of integers that came in. · Rows of integers that the call itself makes: what an owned row reads as; when two of them lie apart. · For every layer that holds tokens: tokens in memory, what came in and what the call makes; a block of four cells. · The tokens of a text, plainly: the token with which a text begins; all tokens from a place on. No program's functions.
-/
import Derived.Test.YtmdpjahhhfajaaaGreatDoorRows
import Derived.WalkKit
import Derived.ProofKit
import Derived.OpenShut
import Derived.ShutString
import Derived.ChangeOld
import Derived.Below
import Derived.Carry
import Derived.Lib.SmallJoins
import Derived.Deep.Slices
import Derived.Laws.AppendOwn
import Derived.Laws.AppendOwnNone
import Derived.Deep.AppendLies
import Derived.Lib.AppendStr
import Derived.Test.YtmdpjahhhfajaaaGreatDoorJA05
import Derived.Test.YtmdpjahhhfajaaaGreatDoorJA02
set_option linter.unusedVariables false
namespace Go.Proofs.YtmdpjahhhfajaaaGreatDoor
open Go.ChangeShapes Go.WideShapes Go.ChangeAt Go.RowKit Go.Joins

theorem own : ownKnob Tryz.prog.godebug = none := by kernel_rfl
theorem laidOut : laidOutB Tryz.prog = true := by kernel_rfl

theorem trod_low {H : Type} {enc : TypeId × Value → H} {W : World} {t : TypeId} {v : Value} {d : DataW H} {p : List MemPlace} (h : DataW.Trod enc Tryz.prog W 0 (fun _ => true) true t v d p) : ∀ x ∈ p, x.block < W.heap.size := by
  obtain ⟨m, hm⟩ := h
  exact DataW.trod_lt m _ _ _ hm

/-- An argument that came in reads as it read, after a call that only makes new memory. -/
theorem trod_back {H : Type} {enc : TypeId × Value → H} {W W' : World} {t : TypeId} {v : Value} {d : DataW H} {p : List MemPlace} (hr : Tryz.prog.readableRec t = true) (ht : t < Tryz.prog.types.size)
    (h : DataW.Trod enc Tryz.prog W 0 (fun _ => true) true t v d p) (hb : Below W.heap.size W W') : DataW.Trod enc Tryz.prog W' 0 (fun b => decide (b < W.heap.size)) true t v d p :=
  Below.trod laidOut hr ht h hb (trod_low h)

end Go.Proofs.YtmdpjahhhfajaaaGreatDoor
set_option linter.unusedVariables false
set_option maxRecDepth 100000
namespace Go.Proofs.YtmdpjahhhfajaaaGreatDoor
open Go.ChangeShapes Go.WideShapes Go.ChangeAt Go.RowKit Go.Deep

/-- The slice (a, len) has the integers zs. -/
def IsInts (w : World) (a : Option Addr) (len : Nat) (zs : List Int) : Prop :=
  zs.length = len ∧ (zs = [] ∨ ∃ b off, a = some ⟨b, off, none⟩ ∧ b < w.heap.size ∧ ∀ i z, zs[i]? = some z → w.cell? ⟨b, off + i, none⟩ = some (.int .i64 z))

theorem open_intlist {H : Type} {enc : TypeId × Value → H} {W : World} {base : Nat} {v : Value} {d : DataW H} {p : List MemPlace} (hv : Value.okWide Tryz.prog W .any base 22 v)
    (h : DataW.Trod enc Tryz.prog W 0 (fun _ => true) true 22 v d p) :
    ∃ (a : Option Addr) (len cap : Nat) (zs : List Int), v = .slice a len cap ∧ IsInts W a len zs ∧ len ≤ cap ∧ cap ≤ maxLen ∧ ∀ z ∈ zs, -9223372036854775808 ≤ z ∧ z ≤ 9223372036854775807 := by
  obtain ⟨a, len, cap, rfl⟩ := okWide_slice Tryz.underlying22 hv
  obtain ⟨fuel, hf⟩ := h
  rcases open_ints Tryz.underlying22 Tryz.underlying3 (by kernel_rfl) hf with ⟨hcs, _⟩ | ⟨x, l, c, zs, hcs, _, hl, hm, hz, _, hcell, hwz⟩
  · simp [Value.cells] at hcs
    obtain ⟨rfl, rfl, rfl⟩ := hcs
    exact ⟨none, 0, 0, [], rfl, ⟨rfl, .inl rfl⟩, Nat.le_refl _, Nat.zero_le _, by simp⟩
  · simp [Value.cells] at hcs
    obtain ⟨rfl, rfl, rfl⟩ := hcs
    simp only [if_true] at hz
    refine ⟨_, _, _, zs.take len, rfl, ⟨by rw [List.length_take]; omega, ?_⟩, hl, hm, fun z hzz => bounds_i64 (hwz z (List.mem_of_mem_take hzz))⟩
    by_cases h0 : len = 0
    · subst h0
      exact .inl rfl
    · obtain ⟨b, off, spot⟩ := x
      have hc0 := hcell 0 (by omega)
      have hspot : spot = none := by simpa [Addr.add] using World.cell?_spot hc0
      subst hspot
      have hadd : ∀ o j, (⟨b, o, none⟩ : Addr).add j = ⟨b, o + j, none⟩ := fun o j => by unfold Addr.add; split <;> simp_all
      refine .inr ⟨b, off, rfl, World.block_lt_of_cell? W _ hc0, fun i z hzz => ?_⟩
      have hlt := (List.getElem?_eq_some_iff.1 hzz).1
      rw [List.length_take] at hlt
      have hi := hcell i (by omega)
      rw [hadd] at hi
      rw [hi]
      rw [List.getElem?_take_of_lt (by omega)] at hzz
      simp [List.getD, hzz]

end Go.Proofs.YtmdpjahhhfajaaaGreatDoor
set_option linter.unusedVariables false
namespace Go.Proofs.YtmdpjahhhfajaaaGreatDoor
open Go.RowKit

theorem info_int : (Tryz.prog.info? 3).map (fun i => (i.zero, i.size, i.bytes)) = some (some (.int .i64 0), 1, 8) := by kernel_rfl

theorem own_below {W w1 : World} {base E sz n : Nat} {v : Value} {xs : List Value} (h : W.ownsRow base E sz v n xs) (hb : Below W.heap.size W w1) : w1.ownsRow base E sz v n xs := by
  refine h.kept (row := none) ⟨hb.os, hb.tape, hb.output, hb.size, fun k hk _ => hb.block k hk⟩ ?_
  cases e : v.ownBlock with
  | none => exact .inl rfl
  | some g => exact .inr (by simp)

/-- Two values that own different blocks. -/
def Apart (v u : Value) : Prop := ∀ g, v.ownBlock = some g → u.ownBlock = some g → False

theorem Apart.kept {v u : Value} (h : Apart v u) : u.ownBlock = none ∨ u.ownBlock ≠ v.ownBlock := by
  cases e : u.ownBlock with
  | none => exact .inl rfl
  | some g =>
    right
    intro e2
    exact h g e2.symm e

/-- What an owned row of integers reads as. -/
theorem own_ints {w : World} {base n : Nat} {v : Value} {zs : List Int} (h : w.ownsRow base 3 1 v n (zs.map (Value.int .i64))) :
    ∃ a cap, v = .slice a n cap ∧ IsInts w a n zs ∧ n ≤ cap ∧ cap ≤ maxLen ∧ (a = none → n = 0 ∧ cap = 0) ∧ (∀ x, a = some x → ∃ g, x = ⟨g, 0, none⟩ ∧ base ≤ g ∧ g < w.heap.size) := by
  have hl : zs.length = n := by have := h.1; simpa using this
  rcases h.2 with ⟨rfl, rfl⟩ | ⟨g, cap, cur, rfl, hb, hg, hn, hm, hs, ht⟩
  · exact ⟨none, 0, rfl, ⟨hl, .inl (List.eq_nil_of_length_eq_zero hl)⟩, Nat.le_refl _, Nat.zero_le _, fun _ => ⟨rfl, rfl⟩, fun x hx => by cases hx⟩
  · have hlt : g < w.heap.size := (h.lt g rfl).2
    refine ⟨some ⟨g, 0, none⟩, cap, rfl, ⟨hl, .inr ⟨g, 0, rfl, hlt, fun i z hz => ?_⟩⟩, hn, hm, fun hx => (by cases hx), fun x hx => ⟨g, by cases hx; rfl, hb, hlt⟩⟩
    have h1 := h.cells (g := g) rfl i (.int .i64 z) (by simp [hz])
    have hadd : (⟨g, 0, none⟩ : Addr).add i = ⟨g, 0 + i, none⟩ := by unfold Addr.add; split <;> simp_all
    rw [hadd] at h1
    exact h1

theorem IsInts.below {w w' : World} {a : Option Addr} {len : Nat} {zs : List Int} {B : Nat} (h : IsInts w a len zs) (hb : Below B w w') (hB : w.heap.size ≤ B) : IsInts w' a len zs := by
  refine ⟨h.1, ?_⟩
  rcases h.2 with h0 | ⟨b, off, ha, hlt, hat⟩
  · exact .inl h0
  · exact .inr ⟨b, off, ha, Nat.lt_of_lt_of_le hlt hb.size, fun i z hz => by rw [hb.cell (p := ⟨b, off + i, none⟩) (Nat.lt_of_lt_of_le hlt hB)]; exact hat i z hz⟩

end Go.Proofs.YtmdpjahhhfajaaaGreatDoor
set_option linter.unusedVariables false
namespace Wh
open Go

/-- A token but for its place. -/
structure Tk where
  k : Int
  tx : ByteArray
  nm : Int

def noT : Tk := ⟨0, ⟨#[]⟩, 0⟩

end Wh
namespace Go.Proofs.YtmdpjahhhfajaaaGreatDoor
open Go.RowKit Wh

/-- A token and its place. -/
abbrev TA := Tk × Int
abbrev T4 := Value × Value × Value × Value
def flat4 (l : List T4) : List Value := l.flatMap fun t => [t.1, t.2.1, t.2.2.1, t.2.2.2]
def cT (t : TA) : T4 := (.int .i64 t.1.k, .string t.1.tx, .int .i64 t.1.nm, .int .i64 t.2)
def tokV (t : TA) : Value := .agg #[.int .i64 t.1.k, .string t.1.tx, .int .i64 t.1.nm, .int .i64 t.2]
def toksL (l : List TA) : List Value := flat4 (l.map cT)

theorem info_tok : (Tryz.prog.info? 71).map (fun i => (i.zero, i.size, i.bytes)) = some (some (.agg #[.int .i64 0, .string ⟨#[]⟩, .int .i64 0, .int .i64 0]), 4, 40) := by kernel_rfl
theorem size_tok (W : World) : (sizeOf 71).run Tryz.prog W = .ok 4 W := by
  obtain ⟨i0, hi, _, h1, _⟩ := info_parts info_tok
  simp [sizeOf, typeInfo, hi, h1]

theorem flat4_length (l : List T4) : (flat4 l).length = l.length * 4 := by
  unfold flat4
  induction l with
  | nil => rfl
  | cons v vs ih => simp only [List.flatMap_cons, List.length_append, ih, List.length_cons, List.length_nil]; omega
theorem flat4_at (l : List T4) (i : Nat) (t : T4) (h : l[i]? = some t) : (flat4 l)[i * 4]? = some t.1 ∧ (flat4 l)[i * 4 + 1]? = some t.2.1 ∧ (flat4 l)[i * 4 + 2]? = some t.2.2.1 ∧ (flat4 l)[i * 4 + 3]? = some t.2.2.2 := by
  unfold flat4
  induction l generalizing i with
  | nil => simp at h
  | cons u l ih =>
    cases i with
    | zero => simp at h; subst h; simp
    | succ i =>
      simp only [List.getElem?_cons_succ] at h
      have := ih i h
      rw [show (i + 1) * 4 = i * 4 + 1 + 1 + 1 + 1 from by omega]
      simpa [List.flatMap_cons] using this
theorem toksL_length (l : List TA) : (toksL l).length = l.length * 4 := by unfold toksL; rw [flat4_length, List.length_map]
theorem toksL_nil : toksL [] = [] := rfl
theorem toksL_push (l : List TA) (t : TA) : toksL l ++ [.int .i64 t.1.k, .string t.1.tx, .int .i64 t.1.nm, .int .i64 t.2] = toksL (l ++ [t]) := by
  unfold toksL flat4
  simp [cT]

/-- The slice (a, len) has the tokens ts. -/
def IsToks (w : World) (a : Option Addr) (len : Nat) (ts : List TA) : Prop :=
  ts.length = len ∧ (ts = [] ∨ ∃ b off, a = some ⟨b, off, none⟩ ∧ b < w.heap.size ∧ ∀ i t, ts[i]? = some t →
    w.cell? ⟨b, off + i * 4, none⟩ = some (.int .i64 t.1.k) ∧ w.cell? ⟨b, off + i * 4 + 1, none⟩ = some (.string t.1.tx) ∧ w.cell? ⟨b, off + i * 4 + 2, none⟩ = some (.int .i64 t.1.nm) ∧ w.cell? ⟨b, off + i * 4 + 3, none⟩ = some (.int .i64 t.2))

theorem IsToks.below {w w' : World} {a : Option Addr} {len B : Nat} {ts : List TA} (h : IsToks w a len ts) (hb : Below B w w') (hB : w.heap.size ≤ B) : IsToks w' a len ts := by
  obtain ⟨h1, h2⟩ := h
  refine ⟨h1, ?_⟩
  rcases h2 with h2 | ⟨b, off, ha, hlt, hc⟩
  · exact .inl h2
  · have e : ∀ o, w'.cell? ⟨b, o, none⟩ = w.cell? ⟨b, o, none⟩ := fun o => hb.cell (p := ⟨b, o, none⟩) (by show b < B; omega)
    refine .inr ⟨b, off, ha, by have := hb.size; omega, fun i s hs => ?_⟩
    rw [e, e, e, e]
    exact hc i s hs
theorem IsToks.at {w : World} {a : Option Addr} {len : Nat} {ts : List TA} (h : IsToks w a len ts) {k : Nat} (hk : k < len) :
    ∃ kd tx nm p b off, ts[k]? = some (⟨kd, tx, nm⟩, p) ∧ a = some ⟨b, off, none⟩ ∧ b < w.heap.size ∧ w.cell? ⟨b, off + k * 4, none⟩ = some (.int .i64 kd) ∧ w.cell? ⟨b, off + k * 4 + 1, none⟩ = some (.string tx) ∧ w.cell? ⟨b, off + k * 4 + 2, none⟩ = some (.int .i64 nm) ∧ w.cell? ⟨b, off + k * 4 + 3, none⟩ = some (.int .i64 p) := by
  obtain ⟨h1, h2⟩ := h
  obtain ⟨⟨⟨kd, tx, nm⟩, p⟩, hs⟩ : ∃ s, ts[k]? = some s := ⟨_, List.getElem?_eq_getElem (by omega)⟩
  rcases h2 with rfl | ⟨b, off, ha, hlt, hc⟩
  · simp at hs
  · exact ⟨kd, tx, nm, p, b, off, hs, ha, hlt, (hc k _ hs).1, (hc k _ hs).2.1, (hc k _ hs).2.2.1, (hc k _ hs).2.2.2⟩
theorem IsToks.take {w : World} {a : Option Addr} {len : Nat} {ts : List TA} (h : IsToks w a len ts) {k : Nat} (hk : k ≤ len) : IsToks w a k (ts.take k) := by
  obtain ⟨h1, h2⟩ := h
  refine ⟨by rw [List.length_take]; omega, ?_⟩
  rcases h2 with rfl | ⟨b, off, ha, hlt, hc⟩
  · exact .inl (by simp)
  · refine .inr ⟨b, off, ha, hlt, fun i c hi => hc i c ?_⟩
    have hlt := (List.getElem?_eq_some_iff.1 hi).1
    rw [List.length_take] at hlt
    rw [List.getElem?_take_of_lt (by omega)] at hi
    exact hi

/-- 'x[:k]' of tokens. -/
theorem slice_to_toks (a : Option Addr) (len cap k : Nat) (hk : k ≤ cap) (hm : cap ≤ maxLen) (hn : a = none → cap = 0) (hs : ∀ x, a = some x → x.spot = none) (W : World) :
    (Instr.slice 34 (.slice a len cap) none (some (.int .i64 k)) none).run Tryz.prog W = .ok (.slice a k cap) W := by
  have ht : Tryz.prog.underlying 34 = some (.slice (Tryz.prog.elem 34)) := by simp [Program.elem, Tryz.underlying34]
  have he : Tryz.prog.elem 34 = 71 := by simp [Program.elem, Tryz.underlying34]
  rw [run_slice_h W _ _ _ _ ht .i64 _ (by omega) (by omega), he, size_tok]
  by_cases hc : cap = 0
  · simp [Result.andThen, sliced, hc]
  · cases a with
    | none => exact absurd (hn rfl) hc
    | some x =>
      obtain ⟨b, off, spot⟩ := x
      have := hs _ rfl
      simp only at this
      subst this
      have hadd : (⟨b, off, none⟩ : Addr).add 0 = ⟨b, off, none⟩ := by unfold Addr.add; split <;> simp_all
      simp [Result.andThen, sliced, hc, hadd]

/-- What an owned row of tokens reads as. -/
theorem own_toks {w : World} {base n : Nat} {v : Value} {ts : List TA} (h : w.ownsRow base 71 4 v n (toksL ts)) (hn : ts.length = n) :
    ∃ (a : Option Addr) (cap : Nat), v = .slice a n cap ∧ IsToks w a n ts ∧ n ≤ cap ∧ cap ≤ maxLen ∧ (a = none → cap = 0) ∧ (∀ x, a = some x → ∃ g, x = ⟨g, 0, none⟩ ∧ base ≤ g ∧ g < w.heap.size) := by
  rcases h.2 with ⟨rfl, rfl⟩ | ⟨g, cap, cur, rfl, hg, hh, hnc, hmc, _, ht⟩
  · exact ⟨none, 0, rfl, ⟨hn, .inl (List.eq_nil_of_length_eq_zero hn)⟩, Nat.le_refl _, Nat.zero_le _, fun _ => rfl, fun x hx => by cases hx⟩
  · have hlt : g < w.heap.size := (Array.getElem?_eq_some_iff.1 hh).1
    refine ⟨_, cap, rfl, ⟨hn, .inr ⟨g, 0, rfl, hlt, fun i t hi => ?_⟩⟩, hnc, hmc, fun hx => (by cases hx), by rintro x ⟨⟩; exact ⟨g, rfl, hg, hlt⟩⟩
    obtain ⟨f0, f1, f2, f3⟩ := flat4_at (ts.map cT) i (cT t) (by rw [List.getElem?_map, hi]; rfl)
    have hk := (List.getElem?_eq_some_iff.1 hi).1
    simp only [Nat.zero_add]
    exact ⟨(h.cellAt (i * 4) (by omega)).trans f0, (h.cellAt (i * 4 + 1) (by omega)).trans f1, (h.cellAt (i * 4 + 2) (by omega)).trans f2, (h.cellAt (i * 4 + 3) (by omega)).trans f3⟩

/-- A block of four cells. -/
structure Box4 (w : World) (b : Nat) (x y z u : Value) (t : TypeId) : Prop where
  block : w.heap[b]? = some (.cells #[x, y, z, u] t (0, 0))

theorem Box4.new (w : World) (x y z u : Value) (t : TypeId) : Box4 (w.alloc (.cells #[x, y, z, u] t)) w.heap.size x y z u t := ⟨heap_alloc_new w _⟩
theorem Box4.c0 {w : World} {b : Nat} {x y z u : Value} {t : TypeId} (h : Box4 w b x y z u t) : w.cell? ⟨b, 0, none⟩ = some x := cell_of_row _ _ 0 _ _ _ h.block
theorem Box4.c1 {w : World} {b : Nat} {x y z u : Value} {t : TypeId} (h : Box4 w b x y z u t) : w.cell? ⟨b, 1, none⟩ = some y := cell_of_row _ _ 1 _ _ _ h.block
theorem Box4.c2 {w : World} {b : Nat} {x y z u : Value} {t : TypeId} (h : Box4 w b x y z u t) : w.cell? ⟨b, 2, none⟩ = some z := cell_of_row _ _ 2 _ _ _ h.block
theorem Box4.c3 {w : World} {b : Nat} {x y z u : Value} {t : TypeId} (h : Box4 w b x y z u t) : w.cell? ⟨b, 3, none⟩ = some u := cell_of_row _ _ 3 _ _ _ h.block
theorem Box4.free {w : World} {b : Nat} {x y z u : Value} {t : TypeId} (h : Box4 w b x y z u t) (j : Nat) : w.frozen? ⟨b, j, none⟩ = false := by simp [World.frozen?, h.block]
theorem Box4.lt {w : World} {b : Nat} {x y z u : Value} {t : TypeId} (h : Box4 w b x y z u t) : b < w.heap.size := (Array.getElem?_eq_some_iff.1 h.block).1
theorem Box4.below {w w' : World} {b B : Nat} {x y z u : Value} {t : TypeId} (h : Box4 w b x y z u t) (hb : Below B w w') (hB : b < B) : Box4 w' b x y z u t := ⟨by rw [hb.block b hB]; exact h.block⟩
theorem Box4.far {w : World} {b : Nat} {x y z u v : Value} {t : TypeId} (h : Box4 w b x y z u t) {a : Addr} (ha : b ≠ a.block) : Box4 (w.setCell a v) b x y z u t := ⟨by rw [Below.heap_setCell _ _ _ _ ha]; exact h.block⟩
theorem Box4.alloc {w : World} {b : Nat} {x y z u : Value} {t : TypeId} (h : Box4 w b x y z u t) (o : Obj) : Box4 (w.alloc o) b x y z u t := ⟨by rw [Below.heap_alloc _ _ _ h.lt]; exact h.block⟩
theorem Box4.drew {w : World} {b : Nat} {x y z u : Value} {t : TypeId} (h : Box4 w b x y z u t) : Box4 w.drew b x y z u t := ⟨h.block⟩
theorem Box4.grown {w w' : World} {b : Nat} {x y z u : Value} {t : TypeId} {row : Option Nat} (h : Box4 w b x y z u t) (hg : w.grownBy w' row) (hne : some b ≠ row) : Box4 w' b x y z u t := ⟨by rw [hg.block b h.lt hne]; exact h.block⟩
/-- All four cells stored. -/
theorem Box4.store {w : World} {b : Nat} {x y z u x' y' z' u' : Value} {t : TypeId} (h : Box4 w b x y z u t) :
    Box4 ((((w.setCell ⟨b, 0, none⟩ x').setCell ⟨b, 1, none⟩ y').setCell ⟨b, 2, none⟩ z').setCell ⟨b, 3, none⟩ u') b x' y' z' u' t := by
  refine ⟨?_⟩
  have hb := h.block
  simp only [World.setCell, Array.getElem?_modify, if_pos]
  rw [hb]
  rfl
theorem Box4.set3 {w : World} {b : Nat} {x y z u v : Value} {t : TypeId} (h : Box4 w b x y z u t) : Box4 (w.setCell ⟨b, 3, none⟩ v) b x y z v t := by
  refine ⟨?_⟩
  have hb := h.block
  simp only [World.setCell, Array.getElem?_modify, if_pos]
  rw [hb]
  rfl

end Go.Proofs.YtmdpjahhhfajaaaGreatDoor
set_option linter.unusedVariables false
set_option maxRecDepth 100000
namespace Wh
open Go.Proofs.YtmdpjahhhfajaaaGreatDoor

/-- The literal with which a text begins: the error, its text, its length. -/
def litO (s : ByteArray) : Int × List UInt8 × Nat :=
  match litL ((bts s).drop 1) with
  | none => (3, [], 0)
  | some p => if 64 < p.1.length then (2, [], 0) else (0, p.1, p.2 + 1)

/-- The token with which a text begins: the error, the token, its length. -/
def nx (s : ByteArray) : Int × Tk × Nat :=
  if lowB (btN s 0) = true then ((nameT s).2, ⟨1, s.extract 0 (nameT s).1.toNat, 0⟩, (nameT s).1.toNat)
  else if numB (btN s 0) = true then ((intT s).2.2, ⟨2, ⟨#[]⟩, (intT s).1⟩, (intT s).2.1.toNat)
  else if btN s 0 = 39 then ((litO s).1, ⟨3, ⟨(litO s).2.1.toArray⟩, 0⟩, (litO s).2.2)
  else if btN s 0 = 64 then (if s.size < 17 then (3, noT, 0) else (parseE (s.extract 1 17), ⟨4, ⟨#[]⟩, parseZ (s.extract 1 17)⟩, 17))
  else if (symS s).size = 0 then (3, noT, 0) else (0, ⟨5, symS s, 0⟩, (symS s).size)

theorem nx_name {s : ByteArray} (h : lowB (btN s 0) = true) : nx s = ((nameT s).2, ⟨1, s.extract 0 (nameT s).1.toNat, 0⟩, (nameT s).1.toNat) := by unfold nx; rw [if_pos h]
theorem nx_int {s : ByteArray} (h0 : lowB (btN s 0) = false) (h : numB (btN s 0) = true) : nx s = ((intT s).2.2, ⟨2, ⟨#[]⟩, (intT s).1⟩, (intT s).2.1.toNat) := by unfold nx; rw [h0, if_neg (by simp), if_pos h]
theorem nx_lit {s : ByteArray} (h : btN s 0 = 39) : nx s = ((litO s).1, ⟨3, ⟨(litO s).2.1.toArray⟩, 0⟩, (litO s).2.2) := by
  unfold nx
  rw [if_neg (by rw [h]; decide), if_neg (by rw [h]; decide), if_pos h]
theorem nx_time {s : ByteArray} (h : btN s 0 = 64) : nx s = (if s.size < 17 then (3, noT, 0) else (parseE (s.extract 1 17), ⟨4, ⟨#[]⟩, parseZ (s.extract 1 17)⟩, 17)) := by
  unfold nx
  rw [if_neg (by rw [h]; decide), if_neg (by rw [h]; decide), if_neg (by rw [h]; decide), if_pos h]
theorem nx_sym {s : ByteArray} (h0 : lowB (btN s 0) = false) (h1 : numB (btN s 0) = false) (h2 : ¬ btN s 0 = 39) (h3 : ¬ btN s 0 = 64) : nx s = if (symS s).size = 0 then (3, noT, 0) else (0, ⟨5, symS s, 0⟩, (symS s).size) := by
  unfold nx
  rw [h0, h1, if_neg (by simp), if_neg (by simp), if_neg h2, if_neg h3]

theorem spanN_pos {p : Nat → Bool} {s : ByteArray} (h : 0 < s.size) (h0 : p (btN s 0) = true) : 1 ≤ spanN p s := by
  unfold spanN
  obtain ⟨x, hx⟩ := bts_at h
  cases hl : bts s with
  | nil => rw [hl] at hx; cases hx
  | cons y l =>
    rw [btN_of hx] at h0
    rw [hl] at hx
    cases hx
    rw [List.takeWhile_cons, h0]
    simp
theorem nameT_pos {s : ByteArray} (h : 0 < s.size) (h0 : lowB (btN s 0) = true) (he : (nameT s).2 = 0) : 1 ≤ (nameT s).1 ∧ (nameT s).1 ≤ s.size ∧ spanN wordB s ≤ 24 := by
  have h1 := spanN_pos (p := wordB) h (by unfold wordB; rw [h0]; rfl)
  have h2 := spanN_le wordB s
  unfold nameT at he ⊢
  by_cases h24 : 24 < spanN wordB s
  · rw [if_pos h24] at he; cases he
  · rw [if_neg h24] at he ⊢
    split at he
    · rename_i hd
      rw [if_pos hd]
      split at he
      · cases he
      · rename_i hk
        rw [if_neg hk]
        have h3 := spanN_le wordB (s.extract (spanN wordB s + 1) s.size)
        rw [size_extract (by omega) (Nat.le_refl _)] at h3
        refine ⟨?_, ?_, by omega⟩
        · show (1 : Int) ≤ (spanN wordB s : Int) + (1 + (spanN wordB (s.extract (spanN wordB s + 1) s.size) : Int))
          omega
        · show (spanN wordB s : Int) + (1 + (spanN wordB (s.extract (spanN wordB s + 1) s.size) : Int)) ≤ (s.size : Int)
          omega
    · rename_i hd
      rw [if_neg hd]
      refine ⟨?_, ?_, by omega⟩
      · show (1 : Int) ≤ (spanN wordB s : Int); omega
      · show (spanN wordB s : Int) ≤ (s.size : Int); omega
theorem intT_pos {s : ByteArray} (h : 0 < s.size) (h0 : numB (btN s 0) = true) (he : (intT s).2.2 = 0) : 1 ≤ (intT s).2.1 ∧ (intT s).2.1 ≤ s.size := by
  have h1 := spanN_pos (p := numB) h h0
  have h2 := spanN_le numB s
  unfold intT at he ⊢
  by_cases hb : badI s = true
  · rw [if_pos hb] at he; cases he
  · rw [if_neg hb] at he ⊢
    by_cases hv : 1073741824 < decV s (spanN numB s)
    · rw [if_pos hv] at he; cases he
    · rw [if_neg hv]
      refine ⟨?_, ?_⟩
      · show (1 : Int) ≤ (spanN numB s : Int); omega
      · show (spanN numB s : Int) ≤ (s.size : Int); omega
theorem symS_size {s : ByteArray} : (symS s).size ≤ s.size ∧ (symS s).size ≤ 2 := by
  unfold symS
  cases hf : (List.range 4).find? (isTwo s) with
  | some i =>
    have h1 := List.find?_some hf
    have h2 := List.mem_range.1 (List.mem_of_find?_eq_some hf)
    have h3 : 2 ≤ s.size := by
      unfold isTwo at h1
      rw [Bool.and_eq_true, decide_eq_true_eq] at h1
      exact h1.1
    simp only
    rcases (show i = 0 ∨ i = 1 ∨ i = 2 ∨ i = 3 by omega) with rfl | rfl | rfl | rfl
    all_goals
      constructor
      · exact h3
      · exact Nat.le_refl 2
  | none =>
    simp only
    split
    · rename_i ha
      rw [List.any_eq_true] at ha
      obtain ⟨i, _, hi⟩ := ha
      unfold isOne at hi
      rw [Bool.and_eq_true, decide_eq_true_eq] at hi
      rw [size_extract (by omega) hi.1]
      omega
    · exact ⟨Nat.zero_le _, Nat.zero_le _⟩

/-- A token has a byte, and lies within the text. -/
theorem nx_pos {s : ByteArray} (h : 0 < s.size) (he : (nx s).1 = 0) : 1 ≤ (nx s).2.2 ∧ (nx s).2.2 ≤ s.size := by
  cases h0 : lowB (btN s 0) with
  | true =>
    rw [nx_name h0] at he ⊢
    have := nameT_pos h h0 he
    constructor
    · show 1 ≤ (nameT s).1.toNat; omega
    · show (nameT s).1.toNat ≤ s.size; omega
  | false =>
    cases h1 : numB (btN s 0) with
    | true =>
      rw [nx_int h0 h1] at he ⊢
      have := intT_pos h h1 he
      constructor
      · show 1 ≤ (intT s).2.1.toNat; omega
      · show (intT s).2.1.toNat ≤ s.size; omega
    | false =>
      by_cases h2 : btN s 0 = 39
      · rw [nx_lit h2] at he ⊢
        simp only at he ⊢
        unfold litO at he ⊢
        cases hl : litL ((bts s).drop 1) with
        | none => rw [hl] at he; cases he
        | some p =>
          rw [hl] at he
          simp only at he ⊢
          by_cases h64 : 64 < p.1.length
          · rw [if_pos h64] at he; cases he
          · rw [if_neg h64]
            obtain ⟨a, b, _⟩ := litL_facts _ _ (Nat.le_refl _) p.1 p.2 hl
            rw [List.length_drop, bts_length] at b
            simp only
            omega
      · by_cases h3 : btN s 0 = 64
        · rw [nx_time h3] at he ⊢
          by_cases h17 : s.size < 17
          · rw [if_pos h17] at he; cases he
          · rw [if_neg h17]
            simp only
            omega
        · rw [nx_sym h0 h1 h2 h3] at he ⊢
          by_cases hz : (symS s).size = 0
          · rw [if_pos hz] at he; cases he
          · rw [if_neg hz]
            have := symS_size (s := s)
            simp only
            omega

/-! ### All tokens -/
/-- The tokens with their places, a place, an error. -/
structure Out where
  l : List (Tk × Int)
  i : Nat
  e : Int

/-- The result behind the tokens that were found before. -/
def accO (a : List (Tk × Int)) (o : Out) : Out := if o.e = 0 then ⟨a ++ o.l, o.i, 0⟩ else o
theorem accO_nil {o : Out} : accO [] o = o := by
  unfold accO
  split
  · rename_i h; cases o; simp at h ⊢; exact h.symm
  · rfl
theorem accO_acc {a b : List (Tk × Int)} {o : Out} : accO a (accO b o) = accO (a ++ b) o := by
  unfold accO
  by_cases h : o.e = 0
  · rw [if_pos h, if_pos rfl, if_pos h, List.append_assoc]
  · rw [if_neg h, if_neg h, if_neg h]

theorem skip_ge (s : ByteArray) (c : Bool) (i : Nat) : i ≤ skipN s c i := Nat.le_add_right _ _

/-- The tokens from place i on, at most n of them. -/
def splitF (s : ByteArray) : Nat → Nat → Out
  | 0, i => ⟨[], i, 3⟩
  | n + 1, i =>
    if s.size ≤ skipN s false i then ⟨[(noT, (s.size : Int))], 0, 0⟩
    else if (nx (s.extract (skipN s false i) s.size)).1 = 0 then accO [((nx (s.extract (skipN s false i) s.size)).2.1, (skipN s false i : Int))] (splitF s n (skipN s false i + (nx (s.extract (skipN s false i) s.size)).2.2))
    else ⟨[], skipN s false i, (nx (s.extract (skipN s false i) s.size)).1⟩
theorem splitF_enough (s : ByteArray) : ∀ n m i, s.size - i < n → s.size - i < m → splitF s n i = splitF s m i
  | 0, _, _, h, _ => absurd h (Nat.not_lt_zero _)
  | _, 0, _, _, h => absurd h (Nat.not_lt_zero _)
  | n + 1, m + 1, i, hn, hm => by
    have hge := skip_ge s false i
    unfold splitF
    by_cases h1 : s.size ≤ skipN s false i
    · rw [if_pos h1, if_pos h1]
    · rw [if_neg h1, if_neg h1]
      by_cases h2 : (nx (s.extract (skipN s false i) s.size)).1 = 0
      · rw [if_pos h2, if_pos h2]
        have hs : (s.extract (skipN s false i) s.size).size = s.size - skipN s false i := size_extract (by omega) (Nat.le_refl _)
        have hp := nx_pos (s := s.extract (skipN s false i) s.size) (by omega) h2
        rw [splitF_enough s n m _ (by omega) (by omega)]
      · rw [if_neg h2, if_neg h2]
/-- The tokens from place i on. -/
def splitA (s : ByteArray) (i : Nat) : Out := splitF s (s.size - i + 1) i
theorem splitA_end {s : ByteArray} {i : Nat} (h : s.size ≤ skipN s false i) : splitA s i = ⟨[(noT, (s.size : Int))], 0, 0⟩ := by
  unfold splitA splitF
  rw [if_pos h]
theorem splitA_bad {s : ByteArray} {i j : Nat} (hj : skipN s false i = j) (h : j < s.size) (he : ¬ (nx (s.extract j s.size)).1 = 0) : splitA s i = ⟨[], j, (nx (s.extract j s.size)).1⟩ := by
  subst hj
  unfold splitA splitF
  rw [if_neg (by omega), if_neg he]
theorem splitA_ok {s : ByteArray} {i j : Nat} (hj : skipN s false i = j) (h : j < s.size) (he : (nx (s.extract j s.size)).1 = 0) : splitA s i = accO [((nx (s.extract j s.size)).2.1, (j : Int))] (splitA s (j + (nx (s.extract j s.size)).2.2)) := by
  subst hj
  have hge := skip_ge s false i
  have hs : (s.extract (skipN s false i) s.size).size = s.size - skipN s false i := size_extract (by omega) (Nat.le_refl _)
  have hp := nx_pos (s := s.extract (skipN s false i) s.size) (by omega) he
  conv => lhs; unfold splitA splitF
  rw [if_neg (by omega), if_pos he]
  unfold splitA
  rw [splitF_enough s _ (s.size - (skipN s false i + (nx (s.extract (skipN s false i) s.size)).2.2) + 1) _ (by omega) (by omega)]
theorem splitA_skip {s : ByteArray} {i j : Nat} (h : skipN s false i = skipN s false j) (hi : i ≤ s.size) (hj : j ≤ s.size) : splitA s i = splitA s j := by
  unfold splitA
  rw [splitF_enough s _ (s.size + 1) i (by omega) (by omega), splitF_enough s _ (s.size + 1) j (by omega) (by omega)]
  unfold splitF
  rw [h]

/-- The tokens of a text. -/
def splitP (s : ByteArray) : Out := if 65536 < s.size then ⟨[], 0, 2⟩ else splitA s 0

end Wh
