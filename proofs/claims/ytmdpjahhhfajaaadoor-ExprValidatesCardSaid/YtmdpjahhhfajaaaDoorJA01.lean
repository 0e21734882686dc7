/-
  For every layer: a string's bytes; its index and its pieces, in a form · For every layer: equal results make equal endings; a pair of an intege · Pieces of a text, plainly: how far a kind of byte goes; blanks and com · Plain functions on integers: leap years, lengths of months, day number · What the small functions of layer 3 and of its reference return. · Days, of civil and of its reference. · What hasForm and number of civil, and digits of its reference, return. · Parse, of civil and of its reference. · Parse of the reference. · For every layer: boxes of the call's own, and what lies in them while  · For every layer: texts in memory (what came in, what lies in a row); t · From a walk of a law ('it returns true, and nothing that was there has · Slices of integers that came in.
-/
import Derived.Test.YtmdpjahhhfajaaaDoorRows
import Derived.WalkKit
import Derived.WalkSpells
import Derived.Lib.Hide
import Derived.Laws.IdiomStrings
import Derived.Deep.QuietTactic
import Derived.OwnWalk
import Derived.Lib.Replace
import Derived.Lib.ReplaceLaws
import Derived.Laws.Entries
import Derived.WalkLawsBesides
import Derived.Outline
import Derived.BigQuiet
import Derived.IntWalk
import Derived.Below
import Derived.LoopTactic
import Derived.Deep.RegionWith
import Derived.Laws.OwnMore
import Derived.Deep.Draws
import Derived.Lib.Bytealg
import Derived.ProofKit
import Derived.OpenShut
import Derived.ShutString
import Derived.ChangeOld
import Derived.Carry
import Derived.Lib.SmallJoins
import Derived.Deep.Slices
set_option linter.unusedVariables false
set_option maxRecDepth 100000
namespace Wh
open Go
def bts (s : ByteArray) : List UInt8 := s.data.toList
def btN (s : ByteArray) (i : Nat) : Nat := ((bts s).getD i 0).toNat
theorem bts_length (s : ByteArray) : (bts s).length = s.size := Array.length_toList
theorem btN_lt (s : ByteArray) (i : Nat) : btN s i < 256 := ((bts s).getD i 0).toNat_lt
theorem btN_of {s : ByteArray} {i : Nat} {x : UInt8} (h : (bts s)[i]? = some x) : btN s i = x.toNat := by simp [btN, List.getD, h]
theorem bts_at {s : ByteArray} {i : Nat} (h : i < s.size) : ∃ x, (bts s)[i]? = some x := ⟨_, List.getElem?_eq_getElem (by rw [bts_length]; exact h)⟩
end Wh
namespace Go.Proofs.YtmdpjahhhfajaaaDoor
open Go.RowKit Wh
theorem index_str (s : ByteArray) (i : Nat) (h : i < s.size) (W : World) : (Instr.index 9 (.string s) (.int .i64 i)).run Tryd.prog W = .ok (.int .u8 (btN s i)) W := by
  rw [run_index_string W 9 s .i64 i Tryd.underlying9, dif_pos (by omega)]
  have e : (s[((i : Int)).toNat]'(by omega)).toNat = btN s i := by
    rw [btN_of (x := s[((i : Int)).toNat]'(by omega))]
    show s.data.toList[i]? = _
    rw [Array.getElem?_toList]
    exact Array.getElem?_eq_getElem (show i < s.data.size from h)
  rw [e]
theorem slice_str_from (s : ByteArray) (a : Nat) (h : a ≤ s.size) (W : World) :
    (Instr.slice 9 (.string s) (some (.int .i64 a)) none none).run Tryd.prog W = .ok (.string (s.extract a s.size)) W := by
  rw [run_slice_string_from_if W 9 s .i64 a Tryd.underlying9, if_pos (by omega)]
  rfl
theorem slice_str_to (s : ByteArray) (b : Nat) (hb : b ≤ s.size) (W : World) :
    (Instr.slice 9 (.string s) none (some (.int .i64 b)) none).run Tryd.prog W = .ok (.string (s.extract 0 b)) W := by
  rw [run_slice_string_to_if W 9 s .i64 b Tryd.underlying9, if_pos (by omega)]
  rfl
end Go.Proofs.YtmdpjahhhfajaaaDoor
namespace Go.Proofs.YtmdpjahhhfajaaaDoor
theorem ret_bool {a b : Bool} (h : a = b) : Ending.returned (.bool a) = .returned (.bool b) := by rw [h]
theorem ret_int {k : IntKind} {a b : Int} (h : a = b) : Ending.returned (.int k a) = .returned (.int k b) := by rw [h]
end Go.Proofs.YtmdpjahhhfajaaaDoor
namespace Wh
open Go
end Wh
namespace Go.Proofs.YtmdpjahhhfajaaaDoor
open Go.RowKit Wh
end Go.Proofs.YtmdpjahhhfajaaaDoor
namespace Wh
end Wh
namespace Go.Proofs.YtmdpjahhhfajaaaDoor
open Go.RowKit Wh
end Go.Proofs.YtmdpjahhhfajaaaDoor
namespace Wh
end Wh
namespace Go.Proofs.YtmdpjahhhfajaaaDoor
open Go.RowKit Wh
end Go.Proofs.YtmdpjahhhfajaaaDoor
namespace Wh
def twoL (i : Nat) : ByteArray := [⟨#[43, 43]⟩, ⟨#[60, 61]⟩, ⟨#[62, 61]⟩, ⟨#[33, 61]⟩].getD i ⟨#[]⟩
end Wh
namespace Wh
open Go
end Wh
namespace Wh
def leapB (y : Int) : Bool := (decide (y % 4 = 0) && !decide (y % 100 = 0)) || decide (y % 400 = 0)
def leapZ (y : Int) : Int := if leapB y = true then 1 else 0
theorem leapZ_bd (y : Int) : 0 ≤ leapZ y ∧ leapZ y ≤ 1 := by unfold leapZ; split <;> omega
def lenZ (y m : Int) : Int := if m = 2 then 28 + leapZ y else if m = 4 ∨ m = 6 ∨ m = 9 ∨ m = 11 then 30 else 31
theorem lenZ_bd (y m : Int) : 28 ≤ lenZ y m ∧ lenZ y m ≤ 31 := by
  have := leapZ_bd y
  unfold lenZ
  split
  · omega
  · split <;> omega
def lyZ (y : Int) : Int := y / 4 - y / 100 + y / 400
def yzZ (y : Int) : Int := (y - 1970) * 365 + lyZ (y - 1) - 477
theorem yzZ_low {y : Int} (h : 1970 ≤ y) : (y - 1970) * 365 ≤ yzZ y := by
  unfold yzZ lyZ
  omega
def msZ (y : Int) : Nat → Int
  | 0 => 0
  | k + 1 => msZ y k + lenZ y ((k : Int) + 1)
theorem msZ_low (y : Int) : ∀ k : Nat, 28 * (k : Int) ≤ msZ y k
  | 0 => by simp [msZ]
  | k + 1 => by
    have := msZ_low y k
    have := lenZ_bd y ((k : Int) + 1)
    simp only [msZ, Int.natCast_add]
    omega
def dayZ (y : Int) (k : Nat) (d : Int) : Int := yzZ y + msZ y k + d - 1
structure Dt (y : Int) (k : Nat) (d : Int) : Prop where
  y0 : 1970 ≤ y
  k1 : k < 12
  d0 : 1 ≤ d
  d1 : d ≤ lenZ y ((k : Int) + 1)
  n1 : dayZ y k d ≤ 400000
theorem Dt.n0 {y : Int} {k : Nat} {d : Int} (h : Dt y k d) : 0 ≤ dayZ y k d := by
  unfold dayZ
  have := yzZ_low h.y0
  have := h.y0
  have := msZ_low y k
  have := h.d0
  omega
end Wh
namespace Go.Proofs.YtmdpjahhhfajaaaDoor
open Go.RowKit Wh
end Go.Proofs.YtmdpjahhhfajaaaDoor
namespace Go.Proofs.YtmdpjahhhfajaaaDoor
open Go.RowKit Wh
end Go.Proofs.YtmdpjahhhfajaaaDoor
namespace Wh
end Wh
namespace Go.Proofs.YtmdpjahhhfajaaaDoor
open Go.RowKit Wh
end Go.Proofs.YtmdpjahhhfajaaaDoor
namespace Wh
end Wh
namespace Go.Proofs.YtmdpjahhhfajaaaDoor
open Go.RowKit Wh
end Go.Proofs.YtmdpjahhhfajaaaDoor
namespace Wh
end Wh
namespace Go.Proofs.YtmdpjahhhfajaaaDoor
open Go.RowKit Wh
end Go.Proofs.YtmdpjahhhfajaaaDoor
namespace Go.Proofs.YtmdpjahhhfajaaaDoor
open Go.RowKit
theorem bcell {W w1 : World} (hb : Below W.heap.size W w1) : (∀ b o, b < W.heap.size → w1.cell? ⟨b, o, none⟩ = W.cell? ⟨b, o, none⟩) ∧ (∀ b o, b < W.heap.size → w1.frozen? ⟨b, o, none⟩ = W.frozen? ⟨b, o, none⟩) :=
  ⟨fun b o h => hb.cell (p := ⟨b, o, none⟩) h, fun b o h => hb.frozen (p := ⟨b, o, none⟩) h⟩
theorem Below.drewN' {B : Nat} {a w : World} (h : Below B a w) (n : Nat) : Below B a (w.drewN n) := ⟨h.os, h.tape, h.output, h.size, h.block⟩
theorem box_cells {w wr : World} {v0 v1 v2 : Value} {t : TypeId} (h : Below (w.heap.size + 1) (w.alloc (.cells #[v0, v1, v2] t)) wr) :
    wr.cell? ⟨w.heap.size, 0, none⟩ = some v0 ∧ wr.cell? ⟨w.heap.size, 1, none⟩ = some v1 ∧ wr.cell? ⟨w.heap.size, 2, none⟩ = some v2 ∧ w.heap.size + 1 ≤ wr.heap.size ∧ Below w.heap.size w wr := by
  have e : (w.alloc (.cells #[v0, v1, v2] t)).heap[w.heap.size]? = some (.cells #[v0, v1, v2] t) := heap_alloc_new w _
  have hs := h.size
  simp only [World.size_alloc] at hs
  refine ⟨?_, ?_, ?_, hs, ((Below.refl _ _).alloc (Nat.le_refl _) _).trans (h.mono (by omega))⟩
  · rw [h.cell (p := ⟨w.heap.size, 0, none⟩) (by show w.heap.size < _; omega)]
    exact cell_of_row _ _ 0 _ _ _ e
  · rw [h.cell (p := ⟨w.heap.size, 1, none⟩) (by show w.heap.size < _; omega)]
    exact cell_of_row _ _ 1 _ _ _ e
  · rw [h.cell (p := ⟨w.heap.size, 2, none⟩) (by show w.heap.size < _; omega)]
    exact cell_of_row _ _ 2 _ _ _ e
theorem own_mono {w : World} {base base' E sz n : Nat} {v : Value} {xs : List Value} (h : w.ownsRow base E sz v n xs) (hb : base' ≤ base) : w.ownsRow base' E sz v n xs := by
  refine ⟨h.1, ?_⟩
  rcases h.2 with h | ⟨g, cap, cur, e, hg, rest⟩
  · exact .inl h
  · exact .inr ⟨g, cap, cur, e, by omega, rest⟩
structure Box3 (w : World) (b : Nat) (x y z : Value) (t : TypeId) : Prop where
  block : w.heap[b]? = some (.cells #[x, y, z] t (0, 0))
theorem Box3.c0 {w : World} {b : Nat} {x y z : Value} {t : TypeId} (h : Box3 w b x y z t) : w.cell? ⟨b, 0, none⟩ = some x := cell_of_row _ _ 0 _ _ _ h.block
theorem Box3.c1 {w : World} {b : Nat} {x y z : Value} {t : TypeId} (h : Box3 w b x y z t) : w.cell? ⟨b, 1, none⟩ = some y := cell_of_row _ _ 1 _ _ _ h.block
theorem Box3.c2 {w : World} {b : Nat} {x y z : Value} {t : TypeId} (h : Box3 w b x y z t) : w.cell? ⟨b, 2, none⟩ = some z := cell_of_row _ _ 2 _ _ _ h.block
theorem Box3.free {w : World} {b : Nat} {x y z : Value} {t : TypeId} (h : Box3 w b x y z t) (j : Nat) : w.frozen? ⟨b, j, none⟩ = false := by simp [World.frozen?, h.block]
theorem Box3.lt {w : World} {b : Nat} {x y z : Value} {t : TypeId} (h : Box3 w b x y z t) : b < w.heap.size := (Array.getElem?_eq_some_iff.1 h.block).1
theorem Box3.set2 {w : World} {b : Nat} {x y z u : Value} {t : TypeId} (h : Box3 w b x y z t) : Box3 (w.setCell ⟨b, 2, none⟩ u) b x y u t := by
  refine ⟨?_⟩
  have hb := h.block
  simp only [World.setCell, Array.getElem?_modify, if_pos]
  rw [hb]
  rfl
theorem Box3.far {w : World} {b : Nat} {x y z u : Value} {t : TypeId} (h : Box3 w b x y z t) {a : Addr} (ha : b ≠ a.block) : Box3 (w.setCell a u) b x y z t := ⟨by rw [Below.heap_setCell _ _ _ _ ha]; exact h.block⟩
theorem Box3.alloc {w : World} {b : Nat} {x y z : Value} {t : TypeId} (h : Box3 w b x y z t) (o : Obj) : Box3 (w.alloc o) b x y z t := ⟨by rw [Below.heap_alloc _ _ _ h.lt]; exact h.block⟩
theorem Box3.drew {w : World} {b : Nat} {x y z : Value} {t : TypeId} (h : Box3 w b x y z t) : Box3 w.drew b x y z t := ⟨h.block⟩
theorem Box3.grown {w w' : World} {b : Nat} {x y z : Value} {t : TypeId} {row : Option Nat} (h : Box3 w b x y z t) (hg : w.grownBy w' row) (hne : some b ≠ row) : Box3 w' b x y z t := ⟨by rw [hg.block b h.lt hne]; exact h.block⟩
theorem choose_list {α : Type} (P : Nat → α → Prop) : ∀ n : Nat, (∀ i, i < n → ∃ v, P i v) → ∃ vs : List α, vs.length = n ∧ ∀ i v, vs[i]? = some v → P i v
  | 0, _ => ⟨[], rfl, by simp⟩
  | n + 1, h => by
    obtain ⟨vs, hl, hv⟩ := choose_list P n fun i hi => h i (by omega)
    obtain ⟨v, hp⟩ := h n (by omega)
    refine ⟨vs ++ [v], by simp [hl], fun i u hu => ?_⟩
    by_cases hi : i < n
    · rw [List.getElem?_append_left (by omega)] at hu
      exact hv i u hu
    · have hlt := (List.getElem?_eq_some_iff.1 hu).1
      simp only [List.length_append, List.length_cons, List.length_nil] at hlt
      obtain rfl : i = n := by omega
      rw [List.getElem?_append_right (by omega), hl] at hu
      simp at hu
      subst hu
      exact hp
end Go.Proofs.YtmdpjahhhfajaaaDoor
namespace Wh
open Go
def eqS (s t : ByteArray) : Bool := s.toList == t.toList
theorem toList_bts (s : ByteArray) : s.toList = bts s := Lib.toList_data s
theorem eqS_iff {s t : ByteArray} : eqS s t = true ↔ s = t := by
  unfold eqS
  rw [toList_bts, toList_bts, beq_iff_eq]
  constructor
  · intro h
    apply ByteArray.ext
    exact Array.toList_inj.1 h
  · rintro rfl; rfl
theorem eqS_refl (s : ByteArray) : eqS s s = true := eqS_iff.2 rfl
end Wh
namespace Go.Proofs.YtmdpjahhhfajaaaDoor
open Go.RowKit Wh
theorem info_str : (Tryd.prog.info? 9).map (fun i => (i.zero, i.size, i.bytes)) = some (some (.string ⟨#[]⟩), 1, 16) := by kernel_rfl
def IsStrs (w : World) (a : Option Addr) (len : Nat) (ss : List ByteArray) : Prop :=
  ss.length = len ∧ (ss = [] ∨ ∃ b off, a = some ⟨b, off, none⟩ ∧ b < w.heap.size ∧ ∀ i s, ss[i]? = some s → w.cell? ⟨b, off + i, none⟩ = some (.string s))
theorem IsStrs.below {w w' : World} {a : Option Addr} {len B : Nat} {cs : List ByteArray} (h : IsStrs w a len cs) (hb : Below B w w') (hB : w.heap.size ≤ B) : IsStrs w' a len cs := by
  obtain ⟨h1, h2⟩ := h
  refine ⟨h1, ?_⟩
  rcases h2 with h2 | ⟨b, off, ha, hlt, hc⟩
  · exact .inl h2
  · refine .inr ⟨b, off, ha, by have := hb.size; omega, fun i s hs => ?_⟩
    rw [hb.cell (p := ⟨b, off + i, none⟩) (by show b < B; omega)]
    exact hc i s hs
theorem IsStrs.at {w : World} {a : Option Addr} {len : Nat} {ss : List ByteArray} (h : IsStrs w a len ss) {k : Nat} (hk : k < len) :
    ∃ s b off, ss[k]? = some s ∧ a = some ⟨b, off, none⟩ ∧ b < w.heap.size ∧ w.cell? ⟨b, off + k, none⟩ = some (.string s) := by
  obtain ⟨h1, h2⟩ := h
  obtain ⟨s, hs⟩ : ∃ s, ss[k]? = some s := ⟨_, List.getElem?_eq_getElem (by omega)⟩
  rcases h2 with rfl | ⟨b, off, ha, hlt, hc⟩
  · simp at hs
  · exact ⟨s, b, off, hs, ha, hlt, hc k _ hs⟩
theorem IsStrs.take {w : World} {a : Option Addr} {len : Nat} {cs : List ByteArray} (h : IsStrs w a len cs) {k : Nat} (hk : k ≤ len) : IsStrs w a k (cs.take k) := by
  obtain ⟨h1, h2⟩ := h
  refine ⟨by rw [List.length_take]; omega, ?_⟩
  rcases h2 with rfl | ⟨b, off, ha, hlt, hc⟩
  · exact .inl (by simp)
  · refine .inr ⟨b, off, ha, hlt, fun i c hi => hc i c ?_⟩
    have hlt := (List.getElem?_eq_some_iff.1 hi).1
    rw [List.length_take] at hlt
    rw [List.getElem?_take_of_lt (by omega)] at hi
    exact hi
def letB (c : Int) : Bool := decide (97 ≤ c) && decide (c ≤ 122)
def digB (c : Int) : Bool := decide (48 ≤ c) && decide (c ≤ 57)
theorem isLetter_any (c : Int) (w : World) : Calls Tryd.prog 73 #[.int .i32 c] w fun e w' => e = .returned (.bool (letB c)) ∧ w = w' := by
  go_enter Tryd.func73, Tryd.ntmps73
  go_wp2
  all_goals
    go_ret
    refine ⟨ret_bool ?_, rfl⟩
    unfold letB
    first | (rw [decide_eq_true (p := 97 ≤ c) (by assumption), Bool.true_and]) | (rw [decide_eq_false (p := 97 ≤ c) (by assumption), Bool.false_and]) | (rw [decide_eq_false (p := 97 ≤ c) (by omega), Bool.false_and])
theorem isDigit_any (c : Int) (w : World) : Calls Tryd.prog 74 #[.int .i32 c] w fun e w' => e = .returned (.bool (digB c)) ∧ w = w' := by
  go_enter Tryd.func74, Tryd.ntmps74
  go_wp2
  all_goals
    go_ret
    refine ⟨ret_bool ?_, rfl⟩
    unfold digB
    first | (rw [decide_eq_true (p := 48 ≤ c) (by assumption), Bool.true_and]) | (rw [decide_eq_false (p := 48 ≤ c) (by assumption), Bool.false_and]) | (rw [decide_eq_false (p := 48 ≤ c) (by omega), Bool.false_and])
end Go.Proofs.YtmdpjahhhfajaaaDoor
namespace Go.Proofs.YtmdpjahhhfajaaaDoor
open Go.ChangeShapes Go.WideShapes Go.ChangeAt Go.RowKit Go.Joins
theorem own : ownKnob Tryd.prog.godebug = none := by kernel_rfl
theorem laidOut : laidOutB Tryd.prog = true := by kernel_rfl
theorem trod_low {H : Type} {enc : TypeId × Value → H} {W : World} {t : TypeId} {v : Value} {d : DataW H} {p : List MemPlace} (h : DataW.Trod enc Tryd.prog W 0 (fun _ => true) true t v d p) : ∀ x ∈ p, x.block < W.heap.size := by
  obtain ⟨m, hm⟩ := h
  exact DataW.trod_lt m _ _ _ hm
theorem trod_back {H : Type} {enc : TypeId × Value → H} {W W' : World} {t : TypeId} {v : Value} {d : DataW H} {p : List MemPlace} (hr : Tryd.prog.readableRec t = true) (ht : t < Tryd.prog.types.size)
    (h : DataW.Trod enc Tryd.prog W 0 (fun _ => true) true t v d p) (hb : Below W.heap.size W W') : DataW.Trod enc Tryd.prog W' 0 (fun b => decide (b < W.heap.size)) true t v d p :=
  Below.trod laidOut hr ht h hb (trod_low h)
end Go.Proofs.YtmdpjahhhfajaaaDoor
namespace Go.Proofs.YtmdpjahhhfajaaaDoor
open Go.ChangeShapes Go.WideShapes Go.ChangeAt Go.RowKit Go.Deep
def IsInts (w : World) (a : Option Addr) (len : Nat) (zs : List Int) : Prop :=
  zs.length = len ∧ (zs = [] ∨ ∃ b off, a = some ⟨b, off, none⟩ ∧ b < w.heap.size ∧ ∀ i z, zs[i]? = some z → w.cell? ⟨b, off + i, none⟩ = some (.int .i64 z))
theorem open_intlist {H : Type} {enc : TypeId × Value → H} {W : World} {base : Nat} {v : Value} {d : DataW H} {p : List MemPlace} (hv : Value.okWide Tryd.prog W .any base 27 v)
    (h : DataW.Trod enc Tryd.prog W 0 (fun _ => true) true 27 v d p) :
    ∃ (a : Option Addr) (len cap : Nat) (zs : List Int), v = .slice a len cap ∧ IsInts W a len zs ∧ len ≤ cap ∧ cap ≤ maxLen ∧ ∀ z ∈ zs, -9223372036854775808 ≤ z ∧ z ≤ 9223372036854775807 := by
  obtain ⟨a, len, cap, rfl⟩ := okWide_slice Tryd.underlying27 hv
  obtain ⟨fuel, hf⟩ := h
  rcases open_ints Tryd.underlying27 Tryd.underlying3 (by kernel_rfl) hf with ⟨hcs, _⟩ | ⟨x, l, c, zs, hcs, _, hl, hm, hz, _, hcell, hwz⟩
  · simp [Value.cells] at hcs
    obtain ⟨rfl, rfl, rfl⟩ := hcs
    exact ⟨none, 0, 0, [], rfl, ⟨rfl, .inl rfl⟩, Nat.le_refl _, Nat.zero_le _, by simp⟩
  · simp [Value.cells] at hcs
    obtain ⟨rfl, rfl, rfl⟩ := hcs
    simp only [if_true] at hz
    refine ⟨_, _, _, zs.take len, rfl, ⟨by rw [List.length_take]; omega, ?_⟩, hl, hm, fun z hzz => bounds_i64 (hwz z (List.mem_of_mem_take hzz))⟩
    by_cases h0 : len = 0
    · subst h0
      exact .inl rfl
    · obtain ⟨b, off, spot⟩ := x
      have hc0 := hcell 0 (by omega)
      have hspot : spot = none := by simpa [Addr.add] using World.cell?_spot hc0
      subst hspot
      have hadd : ∀ o j, (⟨b, o, none⟩ : Addr).add j = ⟨b, o + j, none⟩ := fun o j => by unfold Addr.add; split <;> simp_all
      refine .inr ⟨b, off, rfl, World.block_lt_of_cell? W _ hc0, fun i z hzz => ?_⟩
      have hlt := (List.getElem?_eq_some_iff.1 hzz).1
      rw [List.length_take] at hlt
      have hi := hcell i (by omega)
      rw [hadd] at hi
      rw [hi]
      rw [List.getElem?_take_of_lt (by omega)] at hzz
      simp [List.getD, hzz]
end Go.Proofs.YtmdpjahhhfajaaaDoor
