/-
  The reference's types: fits, common, unary, difference, binary.
-/
import Derived.Test.YtmdpjahhhfajaaaDoorJA15
import Derived.Deep.RegionHeld3
import Derived.BigQuiet
import Derived.Deep.QuietTactic
set_option linter.unusedVariables false
set_option linter.unusedSimpArgs false
set_option maxRecDepth 100000
namespace Wh
open Go Go.Proofs.YtmdpjahhhfajaaaDoor
abbrev KT := Int × Bool
def fitB (x : KT) (k : Int) : Bool := decide (x.1 = k) || decide (x.1 = 0)
def comT (x y : KT) : Int × Bool := if x.1 = 0 then (y.1, true) else (x.1, fitB y x.1)
def unaT (op : Int) (x : KT) : KT × Bool :=
  if op = 2 then ((1, x.2), fitB x 1) else if op = 3 then ((2, x.2), fitB x 2) else if op = 16 then ((1, false), true) else if op = 19 then ((2, x.2), fitB x 3) else ((2, x.2), fitB x 4)
def difT (x y : KT) : KT × Bool :=
  if (x.1 = 4 ∧ y.1 = 4) ∨ (x.1 = 0 ∧ y.1 = 4) then ((2, x.2 || y.2), true) else if x.1 = 4 then ((4, true), fitB y 2) else ((2, true), fitB x 2 && fitB y 2)
def binT (op : Int) (x y : KT) : KT × Bool :=
  if op = 4 then (if x.1 = 4 then ((4, true), fitB y 2) else ((2, true), fitB x 2 && fitB y 2))
  else if op = 5 then difT x y
  else if op = 6 ∨ op = 7 ∨ op = 8 then ((2, true), fitB x 2 && fitB y 2)
  else if op = 9 then ((3, true), fitB x 3 && fitB y 3)
  else if op = 14 ∨ op = 15 then ((1, x.2 || y.2), fitB x 1 && fitB y 1)
  else if op = 18 then (((comT x y).1, x.2 && y.2), (comT x y).2)
  else ((1, x.2 || y.2), (comT x y).2)
end Wh
namespace Go.Proofs.YtmdpjahhhfajaaaDoor
open Go.RowKit Wh
abbrev ktV (x : KT) : Value := .agg #[.int .i64 x.1, .bool x.2]
theorem fits_any (x : KT) (k : Int) (w : World) : Calls Tryd.prog 86 #[ktV x, .int .i64 k] w fun e w' => e = .returned (.bool (fitB x k)) ∧ Below w.heap.size w w' := by
  obtain ⟨a, b⟩ := x
  unfold fitB
  simp only
  by_cases h : a = k
  · have hb : (a == k) = true := by simpa using h
    rw [decide_eq_true h]
    go_enter Tryd.func86, Tryd.ntmps86
    go_wp2_with fail
    go_ret
    exact ⟨rfl, (Below.refl _ _).alloc (Nat.le_refl _) _⟩
  · have hb : (a == k) = false := by simpa using h
    rw [decide_eq_false h]
    by_cases h0 : a = 0
    · have hb0 : (a == 0) = true := by simpa using h0
      rw [decide_eq_true h0]
      go_enter Tryd.func86, Tryd.ntmps86
      go_wp2_with fail
      go_ret
      exact ⟨rfl, (Below.refl _ _).alloc (Nat.le_refl _) _⟩
    · have hb0 : (a == 0) = false := by simpa using h0
      rw [decide_eq_false h0]
      go_enter Tryd.func86, Tryd.ntmps86
      go_wp2_with fail
      go_ret
      exact ⟨rfl, (Below.refl _ _).alloc (Nat.le_refl _) _⟩
structure Box2 (w : World) (b : Nat) (x y : Value) (t : TypeId) : Prop where
  block : w.heap[b]? = some (.cells #[x, y] t (0, 0))
theorem Box2.c0 {w : World} {b : Nat} {x y : Value} {t : TypeId} (h : Box2 w b x y t) : w.cell? ⟨b, 0, none⟩ = some x := cell_of_row _ _ 0 _ _ _ h.block
theorem Box2.c1 {w : World} {b : Nat} {x y : Value} {t : TypeId} (h : Box2 w b x y t) : w.cell? ⟨b, 1, none⟩ = some y := cell_of_row _ _ 1 _ _ _ h.block
theorem Box2.free {w : World} {b : Nat} {x y : Value} {t : TypeId} (h : Box2 w b x y t) (j : Nat) : w.frozen? ⟨b, j, none⟩ = false := by simp [World.frozen?, h.block]
theorem Box2.lt {w : World} {b : Nat} {x y : Value} {t : TypeId} (h : Box2 w b x y t) : b < w.heap.size := (Array.getElem?_eq_some_iff.1 h.block).1
theorem Box2.keep {w w' : World} {b B : Nat} {x y : Value} {t : TypeId} (h : Box2 w b x y t) (hb : Below B w w') (hB : b < B) : Box2 w' b x y t := ⟨by rw [hb.block b hB]; exact h.block⟩
theorem Box2.store {w : World} {b : Nat} {x y x' y' : Value} {t : TypeId} (h : Box2 w b x y t) : Box2 ((w.setCell ⟨b, 0, none⟩ x').setCell ⟨b, 1, none⟩ y') b x' y' t := by
  refine ⟨?_⟩
  have hb := h.block
  simp only [World.setCell, Array.getElem?_modify, if_pos]
  rw [hb]
  rfl
theorem box_kt {w : World} {B : Nat} {x y : Value} (h : w.heap[B]? = some (.cells #[x, y] 97 (0, 0))) : (loadVar 97 ⟨B, 0, none⟩).run Tryd.prog w = .ok (.agg #[x, y]) w := by
  refine run_loadVar_mid w B 0 _ [x, y] _ (fun j q hv => ?_) Tryd.underlying97 rfl (by kernel_rfl)
  rw [Nat.zero_add]
  exact (cell_of_row _ _ j _ _ _ h).trans (by rw [← Array.getElem?_toList]; exact hv)
theorem keepCom {w W0 w1 w2 : World} {a c : Int} {d : Bool} (h0 : w.heap.size + 2 ≤ w1.heap.size) (h : w1.cell? ⟨w.heap.size, 0, none⟩ = some (.int .i64 a) ∧ w1.cell? ⟨w.heap.size + 1, 0, none⟩ = some (.int .i64 c) ∧ w1.cell? ⟨w.heap.size + 1, 1, none⟩ = some (.bool d) ∧ Below (w.heap.size + 2) W0 w1) (hb : Below w1.heap.size w1 w2) :
    w2.cell? ⟨w.heap.size, 0, none⟩ = some (.int .i64 a) ∧ w2.cell? ⟨w.heap.size + 1, 0, none⟩ = some (.int .i64 c) ∧ w2.cell? ⟨w.heap.size + 1, 1, none⟩ = some (.bool d) ∧ Below (w.heap.size + 2) W0 w2 := by
  obtain ⟨a0, a1, a2, hB⟩ := h
  have e : ∀ B o, B < w1.heap.size → w2.cell? ⟨B, o, none⟩ = w1.cell? ⟨B, o, none⟩ := fun B o h => hb.cell (p := ⟨B, o, none⟩) h
  exact ⟨(e _ _ (by omega)).trans a0, (e _ _ (by omega)).trans a1, (e _ _ (by omega)).trans a2, hB.trans (hb.mono h0)⟩
set_option maxHeartbeats 4000000 in
theorem common_any (x y : KT) (w : World) : Calls Tryd.prog 85 #[ktV x, ktV y] w fun e w' => e = .returned (.tuple #[.int .i64 (comT x y).1, .bool (comT x y).2]) ∧ Below w.heap.size w w' := by
  have CF := Lib.hid (fun k W => fits_any y k W)
  obtain ⟨a, b⟩ := x
  obtain ⟨c, d⟩ := y
  unfold comT
  simp only
  have k0 : ((w.alloc (.cells #[.int .i64 a, .bool b] 97)).alloc (.cells #[.int .i64 c, .bool d] 97)).heap[w.heap.size]? = some (.cells #[.int .i64 a, .bool b] 97 (0, 0)) := by
    rw [Below.heap_alloc _ _ _ (by simp)]
    exact heap_alloc_new w _
  have k1 := heap_alloc_new (w.alloc (.cells #[.int .i64 a, .bool b] 97)) (.cells #[.int .i64 c, .bool d] 97)
  simp only [World.size_alloc] at k1
  have hb0 : Below w.heap.size w ((w.alloc (.cells #[.int .i64 a, .bool b] 97)).alloc (.cells #[.int .i64 c, .bool d] 97)) := ((Below.refl _ _).alloc (Nat.le_refl _) _).alloc (by simp) _
  have hsz : ((w.alloc (.cells #[.int .i64 a, .bool b] 97)).alloc (.cells #[.int .i64 c, .bool d] 97)).heap.size = w.heap.size + 2 := by simp
  by_cases h : a = 0
  · subst h
    rw [if_pos rfl]
    clear CF k0 k1
    go_enter Tryd.func85, Tryd.ntmps85
    go_wp2_with fail
    go_ret2
    exact ⟨rfl, hb0⟩
  · rw [if_neg h]
    have hb : (a == 0) = false := by simpa using h
    have CF1 := Lib.hid (CF.out a)
    generalize fitB (c, d) a = q at *
    have HS := Lib.hid (show ((w.alloc (.cells #[.int .i64 a, .bool b] 97)).alloc (.cells #[.int .i64 c, .bool d] 97)).drew.cell? ⟨w.heap.size, 0, none⟩ = some (.int .i64 a) ∧ ((w.alloc (.cells #[.int .i64 a, .bool b] 97)).alloc (.cells #[.int .i64 c, .bool d] 97)).drew.cell? ⟨w.heap.size + 1, 0, none⟩ = some (.int .i64 c) ∧ ((w.alloc (.cells #[.int .i64 a, .bool b] 97)).alloc (.cells #[.int .i64 c, .bool d] 97)).drew.cell? ⟨w.heap.size + 1, 1, none⟩ = some (.bool d) ∧ Below (w.heap.size + 2) ((w.alloc (.cells #[.int .i64 a, .bool b] 97)).alloc (.cells #[.int .i64 c, .bool d] 97)) ((w.alloc (.cells #[.int .i64 a, .bool b] 97)).alloc (.cells #[.int .i64 c, .bool d] 97)).drew from ⟨(cell_of_row _ _ 0 _ _ _ k0).trans rfl, (cell_of_row _ _ 0 _ _ _ k1).trans rfl, (cell_of_row _ _ 1 _ _ _ k1).trans rfl, (Below.refl _ _).drew⟩)
    have HB0 := Lib.hid hb0
    have HSZ := Lib.hid hsz
    clear CF k0 k1 hb0 hsz h
    go_enter Tryd.func85, Tryd.ntmps85
    go_wp2_with fail
    generalize ((w.alloc (.cells #[.int .i64 a, .bool b] 97)).alloc (.cells #[.int .i64 c, .bool d] 97)) = W0 at *
    have hS0 := HS.out
    have hsz2 : w.heap.size + 2 ≤ W0.drew.heap.size := by show _ ≤ W0.heap.size; rw [HSZ.out]; exact Nat.le_refl _
    go_region_held3 (fun w' => w'.cell? ⟨w.heap.size, 0, none⟩ = some (.int .i64 a) ∧ w'.cell? ⟨w.heap.size + 1, 0, none⟩ = some (.int .i64 c) ∧ w'.cell? ⟨w.heap.size + 1, 1, none⟩ = some (.bool d) ∧ Below (w.heap.size + 2) W0 w')
      (first | with_reducible exact hS0 | exact keepCom (by assumption) (by assumption) hcall)
      (first | (go_at_call 86; refine (CF1.out _).mono ?_; rintro e w' ⟨rfl, hcall⟩))
    all_goals
      obtain ⟨_, _, _, hB⟩ := ‹_ ∧ _ ∧ _ ∧ Below _ _ _›
      have HF := Lib.hid (HB0.out.trans (hB.mono (by omega)))
      clear hB
      go_wp2_with fail
      go_ret2
      exact ⟨rfl, HF.out⟩
end Go.Proofs.YtmdpjahhhfajaaaDoor
