/-
  For every layer that holds tokens: tokens in memory, what came in and what the call makes; a block of four cells.
-/
import Derived.Test.YtloccocengegnaaDoorNLeaf
import Derived.Test.YtloccocengegnaaDoorGOwn
set_option linter.unusedVariables false
namespace Wh
open Go

/-- A token but for its place. -/
structure Tk where
  k : Int
  tx : ByteArray
  nm : Int

def noT : Tk := ⟨0, ⟨#[]⟩, 0⟩

end Wh
namespace Go.Proofs.YtloccocengegnaaDoor
open Go.RowKit Wh

/-- A token and its place. -/
abbrev TA := Tk × Int
abbrev T4 := Value × Value × Value × Value
def flat4 (l : List T4) : List Value := l.flatMap fun t => [t.1, t.2.1, t.2.2.1, t.2.2.2]
def cT (t : TA) : T4 := (.int .i64 t.1.k, .string t.1.tx, .int .i64 t.1.nm, .int .i64 t.2)
def tokV (t : TA) : Value := .agg #[.int .i64 t.1.k, .string t.1.tx, .int .i64 t.1.nm, .int .i64 t.2]
def toksL (l : List TA) : List Value := flat4 (l.map cT)

theorem info_tok : (Tryd.prog.info? 41).map (fun i => (i.zero, i.size, i.bytes)) = some (some (.agg #[.int .i64 0, .string ⟨#[]⟩, .int .i64 0, .int .i64 0]), 4, 40) := by kernel_rfl
theorem size_tok (W : World) : (sizeOf 41).run Tryd.prog W = .ok 4 W := by
  obtain ⟨i0, hi, _, h1, _⟩ := info_parts info_tok
  simp [sizeOf, typeInfo, hi, h1]

theorem flat4_length (l : List T4) : (flat4 l).length = l.length * 4 := by
  unfold flat4
  induction l with
  | nil => rfl
  | cons v vs ih => simp only [List.flatMap_cons, List.length_append, ih, List.length_cons, List.length_nil]; omega
theorem flat4_at (l : List T4) (i : Nat) (t : T4) (h : l[i]? = some t) : (flat4 l)[i * 4]? = some t.1 ∧ (flat4 l)[i * 4 + 1]? = some t.2.1 ∧ (flat4 l)[i * 4 + 2]? = some t.2.2.1 ∧ (flat4 l)[i * 4 + 3]? = some t.2.2.2 := by
  unfold flat4
  induction l generalizing i with
  | nil => simp at h
  | cons u l ih =>
    cases i with
    | zero => simp at h; subst h; simp
    | succ i =>
      simp only [List.getElem?_cons_succ] at h
      have := ih i h
      rw [show (i + 1) * 4 = i * 4 + 1 + 1 + 1 + 1 from by omega]
      simpa [List.flatMap_cons] using this
theorem toksL_length (l : List TA) : (toksL l).length = l.length * 4 := by unfold toksL; rw [flat4_length, List.length_map]
theorem toksL_nil : toksL [] = [] := rfl
theorem toksL_push (l : List TA) (t : TA) : toksL l ++ [.int .i64 t.1.k, .string t.1.tx, .int .i64 t.1.nm, .int .i64 t.2] = toksL (l ++ [t]) := by
  unfold toksL flat4
  simp [cT]

/-- The slice (a, len) has the tokens ts. -/
def IsToks (w : World) (a : Option Addr) (len : Nat) (ts : List TA) : Prop :=
  ts.length = len ∧ (ts = [] ∨ ∃ b off, a = some ⟨b, off, none⟩ ∧ b < w.heap.size ∧ ∀ i t, ts[i]? = some t →
    w.cell? ⟨b, off + i * 4, none⟩ = some (.int .i64 t.1.k) ∧ w.cell? ⟨b, off + i * 4 + 1, none⟩ = some (.string t.1.tx) ∧ w.cell? ⟨b, off + i * 4 + 2, none⟩ = some (.int .i64 t.1.nm) ∧ w.cell? ⟨b, off + i * 4 + 3, none⟩ = some (.int .i64 t.2))

theorem IsToks.below {w w' : World} {a : Option Addr} {len B : Nat} {ts : List TA} (h : IsToks w a len ts) (hb : Below B w w') (hB : w.heap.size ≤ B) : IsToks w' a len ts := by
  obtain ⟨h1, h2⟩ := h
  refine ⟨h1, ?_⟩
  rcases h2 with h2 | ⟨b, off, ha, hlt, hc⟩
  · exact .inl h2
  · have e : ∀ o, w'.cell? ⟨b, o, none⟩ = w.cell? ⟨b, o, none⟩ := fun o => hb.cell (p := ⟨b, o, none⟩) (by show b < B; omega)
    refine .inr ⟨b, off, ha, by have := hb.size; omega, fun i s hs => ?_⟩
    rw [e, e, e, e]
    exact hc i s hs
theorem IsToks.at {w : World} {a : Option Addr} {len : Nat} {ts : List TA} (h : IsToks w a len ts) {k : Nat} (hk : k < len) :
    ∃ kd tx nm p b off, ts[k]? = some (⟨kd, tx, nm⟩, p) ∧ a = some ⟨b, off, none⟩ ∧ b < w.heap.size ∧ w.cell? ⟨b, off + k * 4, none⟩ = some (.int .i64 kd) ∧ w.cell? ⟨b, off + k * 4 + 1, none⟩ = some (.string tx) ∧ w.cell? ⟨b, off + k * 4 + 2, none⟩ = some (.int .i64 nm) ∧ w.cell? ⟨b, off + k * 4 + 3, none⟩ = some (.int .i64 p) := by
  obtain ⟨h1, h2⟩ := h
  obtain ⟨⟨⟨kd, tx, nm⟩, p⟩, hs⟩ : ∃ s, ts[k]? = some s := ⟨_, List.getElem?_eq_getElem (by omega)⟩
  rcases h2 with rfl | ⟨b, off, ha, hlt, hc⟩
  · simp at hs
  · exact ⟨kd, tx, nm, p, b, off, hs, ha, hlt, (hc k _ hs).1, (hc k _ hs).2.1, (hc k _ hs).2.2.1, (hc k _ hs).2.2.2⟩
theorem IsToks.take {w : World} {a : Option Addr} {len : Nat} {ts : List TA} (h : IsToks w a len ts) {k : Nat} (hk : k ≤ len) : IsToks w a k (ts.take k) := by
  obtain ⟨h1, h2⟩ := h
  refine ⟨by rw [List.length_take]; omega, ?_⟩
  rcases h2 with rfl | ⟨b, off, ha, hlt, hc⟩
  · exact .inl (by simp)
  · refine .inr ⟨b, off, ha, hlt, fun i c hi => hc i c ?_⟩
    have hlt := (List.getElem?_eq_some_iff.1 hi).1
    rw [List.length_take] at hlt
    rw [List.getElem?_take_of_lt (by omega)] at hi
    exact hi

/-- 'x[:k]' of tokens. -/
theorem slice_to_toks (a : Option Addr) (len cap k : Nat) (hk : k ≤ cap) (hm : cap ≤ maxLen) (hn : a = none → cap = 0) (hs : ∀ x, a = some x → x.spot = none) (W : World) :
    (Instr.slice 26 (.slice a len cap) none (some (.int .i64 k)) none).run Tryd.prog W = .ok (.slice a k cap) W := by
  have ht : Tryd.prog.underlying 26 = some (.slice (Tryd.prog.elem 26)) := by simp [Program.elem, Tryd.underlying26]
  have he : Tryd.prog.elem 26 = 41 := by simp [Program.elem, Tryd.underlying26]
  rw [run_slice_h W _ _ _ _ ht .i64 _ (by omega) (by omega), he, size_tok]
  by_cases hc : cap = 0
  · simp [Result.andThen, sliced, hc]
  · cases a with
    | none => exact absurd (hn rfl) hc
    | some x =>
      obtain ⟨b, off, spot⟩ := x
      have := hs _ rfl
      simp only at this
      subst this
      have hadd : (⟨b, off, none⟩ : Addr).add 0 = ⟨b, off, none⟩ := by unfold Addr.add; split <;> simp_all
      simp [Result.andThen, sliced, hc, hadd]

/-- What an owned row of tokens reads as. -/
theorem own_toks {w : World} {base n : Nat} {v : Value} {ts : List TA} (h : w.ownsRow base 41 4 v n (toksL ts)) (hn : ts.length = n) :
    ∃ (a : Option Addr) (cap : Nat), v = .slice a n cap ∧ IsToks w a n ts ∧ n ≤ cap ∧ cap ≤ maxLen ∧ (a = none → cap = 0) ∧ (∀ x, a = some x → ∃ g, x = ⟨g, 0, none⟩ ∧ base ≤ g ∧ g < w.heap.size) := by
  rcases h.2 with ⟨rfl, rfl⟩ | ⟨g, cap, cur, rfl, hg, hh, hnc, hmc, _, ht⟩
  · exact ⟨none, 0, rfl, ⟨hn, .inl (List.eq_nil_of_length_eq_zero hn)⟩, Nat.le_refl _, Nat.zero_le _, fun _ => rfl, fun x hx => by cases hx⟩
  · have hlt : g < w.heap.size := (Array.getElem?_eq_some_iff.1 hh).1
    refine ⟨_, cap, rfl, ⟨hn, .inr ⟨g, 0, rfl, hlt, fun i t hi => ?_⟩⟩, hnc, hmc, fun hx => (by cases hx), by rintro x ⟨⟩; exact ⟨g, rfl, hg, hlt⟩⟩
    obtain ⟨f0, f1, f2, f3⟩ := flat4_at (ts.map cT) i (cT t) (by rw [List.getElem?_map, hi]; rfl)
    have hk := (List.getElem?_eq_some_iff.1 hi).1
    simp only [Nat.zero_add]
    exact ⟨(h.cellAt (i * 4) (by omega)).trans f0, (h.cellAt (i * 4 + 1) (by omega)).trans f1, (h.cellAt (i * 4 + 2) (by omega)).trans f2, (h.cellAt (i * 4 + 3) (by omega)).trans f3⟩

/-- A block of four cells. -/
structure Box4 (w : World) (b : Nat) (x y z u : Value) (t : TypeId) : Prop where
  block : w.heap[b]? = some (.cells #[x, y, z, u] t (0, 0))

theorem Box4.new (w : World) (x y z u : Value) (t : TypeId) : Box4 (w.alloc (.cells #[x, y, z, u] t)) w.heap.size x y z u t := ⟨heap_alloc_new w _⟩
theorem Box4.c0 {w : World} {b : Nat} {x y z u : Value} {t : TypeId} (h : Box4 w b x y z u t) : w.cell? ⟨b, 0, none⟩ = some x := cell_of_row _ _ 0 _ _ _ h.block
theorem Box4.c1 {w : World} {b : Nat} {x y z u : Value} {t : TypeId} (h : Box4 w b x y z u t) : w.cell? ⟨b, 1, none⟩ = some y := cell_of_row _ _ 1 _ _ _ h.block
theorem Box4.c2 {w : World} {b : Nat} {x y z u : Value} {t : TypeId} (h : Box4 w b x y z u t) : w.cell? ⟨b, 2, none⟩ = some z := cell_of_row _ _ 2 _ _ _ h.block
theorem Box4.c3 {w : World} {b : Nat} {x y z u : Value} {t : TypeId} (h : Box4 w b x y z u t) : w.cell? ⟨b, 3, none⟩ = some u := cell_of_row _ _ 3 _ _ _ h.block
theorem Box4.free {w : World} {b : Nat} {x y z u : Value} {t : TypeId} (h : Box4 w b x y z u t) (j : Nat) : w.frozen? ⟨b, j, none⟩ = false := by simp [World.frozen?, h.block]
theorem Box4.lt {w : World} {b : Nat} {x y z u : Value} {t : TypeId} (h : Box4 w b x y z u t) : b < w.heap.size := (Array.getElem?_eq_some_iff.1 h.block).1
theorem Box4.below {w w' : World} {b B : Nat} {x y z u : Value} {t : TypeId} (h : Box4 w b x y z u t) (hb : Below B w w') (hB : b < B) : Box4 w' b x y z u t := ⟨by rw [hb.block b hB]; exact h.block⟩
theorem Box4.far {w : World} {b : Nat} {x y z u v : Value} {t : TypeId} (h : Box4 w b x y z u t) {a : Addr} (ha : b ≠ a.block) : Box4 (w.setCell a v) b x y z u t := ⟨by rw [Below.heap_setCell _ _ _ _ ha]; exact h.block⟩
theorem Box4.alloc {w : World} {b : Nat} {x y z u : Value} {t : TypeId} (h : Box4 w b x y z u t) (o : Obj) : Box4 (w.alloc o) b x y z u t := ⟨by rw [Below.heap_alloc _ _ _ h.lt]; exact h.block⟩
theorem Box4.drew {w : World} {b : Nat} {x y z u : Value} {t : TypeId} (h : Box4 w b x y z u t) : Box4 w.drew b x y z u t := ⟨h.block⟩
theorem Box4.grown {w w' : World} {b : Nat} {x y z u : Value} {t : TypeId} {row : Option Nat} (h : Box4 w b x y z u t) (hg : w.grownBy w' row) (hne : some b ≠ row) : Box4 w' b x y z u t := ⟨by rw [hg.block b h.lt hne]; exact h.block⟩
/-- All four cells stored. -/
theorem Box4.store {w : World} {b : Nat} {x y z u x' y' z' u' : Value} {t : TypeId} (h : Box4 w b x y z u t) :
    Box4 ((((w.setCell ⟨b, 0, none⟩ x').setCell ⟨b, 1, none⟩ y').setCell ⟨b, 2, none⟩ z').setCell ⟨b, 3, none⟩ u') b x' y' z' u' t := by
  refine ⟨?_⟩
  have hb := h.block
  simp only [World.setCell, Array.getElem?_modify, if_pos]
  rw [hb]
  rfl
theorem Box4.set3 {w : World} {b : Nat} {x y z u v : Value} {t : TypeId} (h : Box4 w b x y z u t) : Box4 (w.setCell ⟨b, 3, none⟩ v) b x y z v t := by
  refine ⟨?_⟩
  have hb := h.block
  simp only [World.setCell, Array.getElem?_modify, if_pos]
  rw [hb]
  rfl

end Go.Proofs.YtloccocengegnaaDoor

