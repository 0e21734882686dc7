/-
  Plain functions on numbers and lists of bytes: what the value layer computes. No program is imported. · For every layer that holds nodes of expressions: nodes in memory, what came in and what the call makes. · Which texts are symbols, plainly.
-/
import Derived.Lib.Bytealg
import Derived.Test.YtmdpjahhhfajaaaGreatDoorJA05
import Derived.Test.YtmdpjahhhfajaaaGreatDoorJA06
import Derived.Deep.Slices
import Derived.Deep.Strs
import Derived.ChangeMaps5
import Derived.Test.YtmdpjahhhfajaaaGreatDoorJA02
namespace Wh
open Go

/-- A value: kind, number, text. -/
structure V where
  k : Int
  n : Int
  s : ByteArray

def bytes (v : V) : List UInt8 := v.s.data.toList

/-- Is it a value? -/
def validB (k n : Int) (s : ByteArray) : Bool :=
  (decide (k = 0) && decide (n = 0) && s.toList.isEmpty) || (decide (k = 1) && (decide (n = 0) || decide (n = 1)) && s.toList.isEmpty) ||
  (decide (k = 2) && decide (-1073741824 ≤ n) && decide (n ≤ 1073741824) && s.toList.isEmpty) || (decide (k = 3) && decide (n = 0) && decide (s.size ≤ 64)) ||
  (decide (k = 4) && decide (0 ≤ n) && decide (n ≤ 575999999) && s.toList.isEmpty)

/-- The truth of a value: 1, 0 or -1. -/
def truthZ (k n : Int) (s : ByteArray) : Int :=
  if k = 1 ∧ (n = 0 ∨ n = 1) ∧ s.toList.isEmpty = true then n else -1

/-- -1, 0 or 1. -/
def cmpI (a b : Int) : Int := if a < b then -1 else if b < a then 1 else 0

/-- Two texts, by their bytes. -/
def cmpS (a b : ByteArray) : Int := Lib.compareBytes a.data.toList b.data.toList

/-- Two structs: by kind, number and text. -/
def cmpV (a b : V) : Int :=
  if (cmpI a.k b.k == 0) = false then cmpI a.k b.k else if (cmpI a.n b.n == 0) = false then cmpI a.n b.n else cmpS a.s b.s

theorem less_iff : ∀ a b : List UInt8, Op.bytesLess a b = true ↔ Lib.compareBytes a b = -1
  | [], [] => by simp [Op.bytesLess, Lib.compareBytes]
  | [], _ :: _ => by simp [Op.bytesLess, Lib.compareBytes]
  | _ :: _, [] => by simp [Op.bytesLess, Lib.compareBytes]
  | x :: a, y :: b => by
    have ih := less_iff a b
    unfold Op.bytesLess Lib.compareBytes
    by_cases h : x < y
    · simp [h]
    · by_cases e : x = y
      · subst e; simp [h, ih]
      · have h2 : y < x := UInt8.lt_of_le_of_ne (UInt8.not_lt.1 h) (Ne.symm e)
        simp [h, e, h2]

theorem cmpB_zero : ∀ a b : List UInt8, Lib.compareBytes a b = 0 ↔ a = b
  | [], [] => by simp [Lib.compareBytes]
  | [], _ :: _ => by simp [Lib.compareBytes]
  | _ :: _, [] => by simp [Lib.compareBytes]
  | x :: a, y :: b => by
    have ih := cmpB_zero a b
    unfold Lib.compareBytes
    by_cases h : x < y
    · have hne : x ≠ y := UInt8.ne_of_lt h
      simp [h, hne]
    · by_cases e : x = y
      · subst e; simp [h, ih]
      · have h2 : y < x := UInt8.lt_of_le_of_ne (UInt8.not_lt.1 h) (Ne.symm e)
        simp [h, e, h2]

theorem cmpB_neg : ∀ a b : List UInt8, Lib.compareBytes b a = - Lib.compareBytes a b
  | [], [] => by simp [Lib.compareBytes]
  | [], _ :: _ => by simp [Lib.compareBytes]
  | _ :: _, [] => by simp [Lib.compareBytes]
  | x :: a, y :: b => by
    have ih := cmpB_neg a b
    unfold Lib.compareBytes
    by_cases h : x < y
    · have h2 : ¬ y < x := UInt8.lt_asymm h
      simp [h, h2]
    · by_cases e : x = y
      · subst e; simp [h, ih]
      · have h2 : y < x := UInt8.lt_of_le_of_ne (UInt8.not_lt.1 h) (Ne.symm e)
        simp [h, h2]

theorem cmpB_vals : ∀ a b : List UInt8, Lib.compareBytes a b = -1 ∨ Lib.compareBytes a b = 0 ∨ Lib.compareBytes a b = 1
  | [], [] => by simp [Lib.compareBytes]
  | [], _ :: _ => by simp [Lib.compareBytes]
  | _ :: _, [] => by simp [Lib.compareBytes]
  | x :: a, y :: b => by
    have ih := cmpB_vals a b
    unfold Lib.compareBytes
    split
    · simp
    · split
      · simp
      · exact ih

theorem cmpB_trans : ∀ a b c : List UInt8, Lib.compareBytes a b = -1 → Lib.compareBytes b c = -1 → Lib.compareBytes a c = -1
  | _, [], _ => by intro h; rename_i a _; cases a <;> simp [Lib.compareBytes] at h
  | [], _ :: _, [] => by simp [Lib.compareBytes]
  | [], _ :: _, _ :: _ => by simp [Lib.compareBytes]
  | _ :: _, _ :: _, [] => by simp [Lib.compareBytes]
  | x :: a, y :: b, z :: c => by
    have ih := cmpB_trans a b c
    unfold Lib.compareBytes
    intro h1 h2
    by_cases xy : x < y
    · by_cases yz : y < z
      · have xz : x < z := UInt8.lt_trans xy yz
        simp [xz]
      · by_cases e : y = z
        · subst e; simp [xy]
        · have zy : z < y := UInt8.lt_of_le_of_ne (UInt8.not_lt.1 yz) (Ne.symm e)
          simp [yz, zy] at h2
    · by_cases e : x = y
      · subst e
        simp [xy] at h1
        by_cases xz : x < z
        · simp [xz]
        · by_cases e : x = z
          · subst e; simp [xz] at h2 ⊢; exact ih h1 h2
          · have zx : z < x := UInt8.lt_of_le_of_ne (UInt8.not_lt.1 xz) (Ne.symm e)
            simp [xz, zx] at h2
      · have yx : y < x := UInt8.lt_of_le_of_ne (UInt8.not_lt.1 xy) (Ne.symm e)
        simp [xy, yx] at h1

/-- The four bytes of a number, the most significant one first. -/
def four (x : Int) : List UInt8 := [UInt8.ofNat (x / 16777216).toNat, UInt8.ofNat (x / 65536).toNat, UInt8.ofNat (x / 256).toNat, UInt8.ofNat x.toNat]

/-- The encoding of a value. -/
def encV (v : V) : List UInt8 :=
  UInt8.ofNat v.k.toNat ::
    (if v.k = 1 then [UInt8.ofNat v.n.toNat] else if v.k = 2 then four (v.n + 1073741824) else if v.k = 3 then UInt8.ofNat v.s.size :: v.s.data.toList else if v.k = 4 then four v.n else [])

theorem valid_cases {k n : Int} {s : ByteArray} (h : validB k n s = true) :
    (k = 0 ∧ n = 0 ∧ s.toList.isEmpty = true) ∨ (k = 1 ∧ n = 0 ∧ s.toList.isEmpty = true) ∨ (k = 1 ∧ n = 1 ∧ s.toList.isEmpty = true) ∨
    (k = 2 ∧ -1073741824 ≤ n ∧ n ≤ 1073741824 ∧ s.toList.isEmpty = true) ∨ (k = 3 ∧ n = 0 ∧ s.size ≤ 64) ∨ (k = 4 ∧ 0 ≤ n ∧ n ≤ 575999999 ∧ s.toList.isEmpty = true) := by
  simp only [validB, Bool.or_eq_true, Bool.and_eq_true, decide_eq_true_eq] at h
  rcases h with (((⟨⟨a, b⟩, c⟩ | ⟨⟨a, b | b⟩, c⟩) | ⟨⟨⟨a, b⟩, b'⟩, c⟩) | ⟨⟨a, b⟩, c⟩) | ⟨⟨⟨a, b⟩, b'⟩, c⟩
  · exact .inl ⟨a, b, c⟩
  · exact .inr (.inl ⟨a, b, c⟩)
  · exact .inr (.inr (.inl ⟨a, b, c⟩))
  · exact .inr (.inr (.inr (.inl ⟨a, b, b', c⟩)))
  · exact .inr (.inr (.inr (.inr (.inl ⟨a, b, c⟩))))
  · exact .inr (.inr (.inr (.inr (.inr ⟨a, b, b', c⟩))))

/-- The encoding of a row of values. -/
def encR (vs : List V) : List UInt8 := UInt8.ofNat vs.length :: vs.flatMap encV

theorem enc_len {v : V} (h : validB v.k v.n v.s = true) : 1 ≤ (encV v).length ∧ (encV v).length ≤ 66 := by
  obtain ⟨k, n, s⟩ := v
  rcases valid_cases h with ⟨rfl, _⟩ | ⟨rfl, _⟩ | ⟨rfl, _⟩ | ⟨rfl, _⟩ | ⟨rfl, _, h1⟩ | ⟨rfl, _⟩ <;> simp [encV, four]
  exact h1

theorem flat_len : ∀ {l : List V}, (∀ v, v ∈ l → validB v.k v.n v.s = true) → (l.flatMap encV).length ≤ 66 * l.length
  | [], _ => by simp
  | v :: l, h => by
    have h1 := (enc_len (h v (by simp))).2
    have h2 := flat_len (l := l) fun x hx => h x (by simp [hx])
    simp only [List.flatMap_cons, List.length_append, List.length_cons]
    omega

theorem take_next {vs : List V} {k : Nat} {v : V} (h : vs[k]? = some v) : vs.take (k + 1) = vs.take k ++ [v] := by
  rw [List.take_add_one, h]
  rfl

/-- A byte as the program holds it. -/
def B (b : UInt8) : Value := .int .u8 b.toNat

end Wh
set_option linter.unusedVariables false
set_option maxRecDepth 100000
namespace Wh
open Go

/-- A node of an expression. -/
structure Nd where
  op : Int
  v : V
  nm : ByteArray
  ar : Int

end Wh
namespace Go.Proofs.YtmdpjahhhfajaaaGreatDoor
open Go.ChangeShapes Go.WideShapes Go.ChangeAt Go.RowKit Go.Deep Go.Joins Wh

/-- The cells of a node. -/
def c6 (t : Nd) : List Value := [.int .i64 t.op, .int .i64 t.v.k, .int .i64 t.v.n, .string t.v.s, .string t.nm, .int .i64 t.ar]
def nodesL (l : List Nd) : List Value := l.flatMap c6
def ndV (t : Nd) : Value := .agg #[.int .i64 t.op, .int .i64 t.v.k, .int .i64 t.v.n, .string t.v.s, .string t.nm, .int .i64 t.ar]

theorem info_node : (Tryz.prog.info? 53).map (fun i => (i.zero, i.size, i.bytes)) = some (some (.agg #[.int .i64 0, .int .i64 0, .int .i64 0, .string ⟨#[]⟩, .string ⟨#[]⟩, .int .i64 0]), 6, 64) := by kernel_rfl
theorem size_node (W : World) : (sizeOf 53).run Tryz.prog W = .ok 6 W := by
  obtain ⟨i0, hi, _, h1, _⟩ := info_parts info_node
  simp [sizeOf, typeInfo, hi, h1]

theorem nodesL_length (l : List Nd) : (nodesL l).length = l.length * 6 := by
  unfold nodesL
  induction l with
  | nil => rfl
  | cons v vs ih => simp only [List.flatMap_cons, List.length_append, ih, List.length_cons, c6, List.length_nil]; omega
theorem nodesL_at (l : List Nd) (i : Nat) (t : Nd) (h : l[i]? = some t) : (nodesL l)[i * 6]? = some (.int .i64 t.op) ∧ (nodesL l)[i * 6 + 1]? = some (.int .i64 t.v.k) ∧ (nodesL l)[i * 6 + 2]? = some (.int .i64 t.v.n) ∧ (nodesL l)[i * 6 + 3]? = some (.string t.v.s) ∧ (nodesL l)[i * 6 + 4]? = some (.string t.nm) ∧ (nodesL l)[i * 6 + 5]? = some (.int .i64 t.ar) := by
  unfold nodesL
  induction l generalizing i with
  | nil => simp at h
  | cons u l ih =>
    cases i with
    | zero => simp at h; subst h; simp [c6]
    | succ i =>
      simp only [List.getElem?_cons_succ] at h
      have := ih i h
      rw [show (i + 1) * 6 = i * 6 + 1 + 1 + 1 + 1 + 1 + 1 from by omega]
      simpa [List.flatMap_cons, c6] using this
theorem nodesL_nil : nodesL [] = [] := rfl
theorem nodesL_app (l m : List Nd) : nodesL (l ++ m) = nodesL l ++ nodesL m := by unfold nodesL; simp
theorem nodesL_push (l : List Nd) (t : Nd) : nodesL l ++ [.int .i64 t.op, .int .i64 t.v.k, .int .i64 t.v.n, .string t.v.s, .string t.nm, .int .i64 t.ar] = nodesL (l ++ [t]) := by
  rw [nodesL_app]
  simp [nodesL, c6]

/-- From the cell (b, off) on lies the node t. -/
def NodeAt (w : World) (b off : Nat) (t : Nd) : Prop :=
  w.cell? ⟨b, off, none⟩ = some (.int .i64 t.op) ∧ w.cell? ⟨b, off + 1, none⟩ = some (.int .i64 t.v.k) ∧ w.cell? ⟨b, off + 2, none⟩ = some (.int .i64 t.v.n) ∧ w.cell? ⟨b, off + 3, none⟩ = some (.string t.v.s) ∧ w.cell? ⟨b, off + 4, none⟩ = some (.string t.nm) ∧ w.cell? ⟨b, off + 5, none⟩ = some (.int .i64 t.ar)
theorem NodeAt.below {w w' : World} {b off B : Nat} {t : Nd} (h : NodeAt w b off t) (hb : Below B w w') (hB : b < B) : NodeAt w' b off t := by
  have e : ∀ o, w'.cell? ⟨b, o, none⟩ = w.cell? ⟨b, o, none⟩ := fun o => hb.cell (p := ⟨b, o, none⟩) hB
  unfold NodeAt
  rw [e, e, e, e, e, e]
  exact h

/-- The slice (a, len) has the nodes ts. -/
def IsNodes (w : World) (a : Option Addr) (len : Nat) (ts : List Nd) : Prop :=
  ts.length = len ∧ (ts = [] ∨ ∃ b off, a = some ⟨b, off, none⟩ ∧ b < w.heap.size ∧ ∀ i t, ts[i]? = some t → NodeAt w b (off + i * 6) t)

theorem IsNodes.below {w w' : World} {a : Option Addr} {len B : Nat} {ts : List Nd} (h : IsNodes w a len ts) (hb : Below B w w') (hB : w.heap.size ≤ B) : IsNodes w' a len ts := by
  obtain ⟨h1, h2⟩ := h
  refine ⟨h1, ?_⟩
  rcases h2 with h2 | ⟨b, off, ha, hlt, hc⟩
  · exact .inl h2
  · exact .inr ⟨b, off, ha, by have := hb.size; omega, fun i s hs => (hc i s hs).below hb (by omega)⟩
theorem IsNodes.at {w : World} {a : Option Addr} {len : Nat} {ts : List Nd} (h : IsNodes w a len ts) {k : Nat} (hk : k < len) :
    ∃ t b off, ts[k]? = some t ∧ a = some ⟨b, off, none⟩ ∧ b < w.heap.size ∧ NodeAt w b (off + k * 6) t := by
  obtain ⟨h1, h2⟩ := h
  obtain ⟨t, hs⟩ : ∃ s, ts[k]? = some s := ⟨_, List.getElem?_eq_getElem (by omega)⟩
  rcases h2 with rfl | ⟨b, off, ha, hlt, hc⟩
  · simp at hs
  · exact ⟨t, b, off, hs, ha, hlt, hc k _ hs⟩
theorem IsNodes.take {w : World} {a : Option Addr} {len : Nat} {ts : List Nd} (h : IsNodes w a len ts) {k : Nat} (hk : k ≤ len) : IsNodes w a k (ts.take k) := by
  obtain ⟨h1, h2⟩ := h
  refine ⟨by rw [List.length_take]; omega, ?_⟩
  rcases h2 with rfl | ⟨b, off, ha, hlt, hc⟩
  · exact .inl (by simp)
  · refine .inr ⟨b, off, ha, hlt, fun i c hi => hc i c ?_⟩
    have hlt := (List.getElem?_eq_some_iff.1 hi).1
    rw [List.length_take] at hlt
    rw [List.getElem?_take_of_lt (by omega)] at hi
    exact hi

/-- What an owned row of nodes reads as. -/
theorem own_nodes {w : World} {base n : Nat} {v : Value} {ts : List Nd} (h : w.ownsRow base 53 6 v n (nodesL ts)) (hn : ts.length = n) :
    ∃ (a : Option Addr) (cap : Nat), v = .slice a n cap ∧ IsNodes w a n ts ∧ n ≤ cap ∧ cap ≤ maxLen ∧ (a = none → cap = 0) ∧ (∀ x, a = some x → ∃ g, x = ⟨g, 0, none⟩ ∧ base ≤ g ∧ g < w.heap.size) := by
  rcases h.2 with ⟨rfl, rfl⟩ | ⟨g, cap, cur, rfl, hg, hh, hnc, hmc, _, ht⟩
  · exact ⟨none, 0, rfl, ⟨hn, .inl (List.eq_nil_of_length_eq_zero hn)⟩, Nat.le_refl _, Nat.zero_le _, fun _ => rfl, fun x hx => by cases hx⟩
  · have hlt : g < w.heap.size := (Array.getElem?_eq_some_iff.1 hh).1
    refine ⟨_, cap, rfl, ⟨hn, .inr ⟨g, 0, rfl, hlt, fun i t hi => ?_⟩⟩, hnc, hmc, fun hx => (by cases hx), by rintro x ⟨⟩; exact ⟨g, rfl, hg, hlt⟩⟩
    obtain ⟨f0, f1, f2, f3, f4, f5⟩ := nodesL_at ts i t hi
    have hk := (List.getElem?_eq_some_iff.1 hi).1
    unfold NodeAt
    simp only [Nat.zero_add]
    exact ⟨(h.cellAt (i * 6) (by omega)).trans f0, (h.cellAt (i * 6 + 1) (by omega)).trans f1, (h.cellAt (i * 6 + 2) (by omega)).trans f2, (h.cellAt (i * 6 + 3) (by omega)).trans f3, (h.cellAt (i * 6 + 4) (by omega)).trans f4, (h.cellAt (i * 6 + 5) (by omega)).trans f5⟩

/-- The beginning of an owned row. -/
theorem own_take {w : World} {base e size n cap : Nat} {a : Option Addr} {xs : List Value} (h : w.ownsRow base e size (.slice a n cap) n xs) {k : Nat} (hk : k ≤ n) : w.ownsRow base e size (.slice a k cap) k (xs.take (k * size)) := by
  have hl := h.1
  have hle : k * size ≤ n * size := Nat.mul_le_mul_right _ hk
  refine ⟨by rw [List.length_take]; omega, ?_⟩
  rcases h.2 with ⟨hv, rfl⟩ | ⟨g, c, cur, hv, hg, hh, hnc, hmc, hsz, ht⟩
  · cases hv
    obtain rfl : k = 0 := by omega
    exact .inl ⟨rfl, rfl⟩
  · cases hv
    refine .inr ⟨g, _, cur, rfl, hg, hh, by omega, hmc, hsz, ?_⟩
    rw [← ht, List.take_take, Nat.min_eq_left hle]

theorem cellsNode : Tryz.prog.cellsOf 53 = 6 := by kernel_rfl

/-- Nodes that came in, with: a nil slice has no capacity; no text is beyond the machine's reach. -/
theorem open_nodes {H : Type} {enc : TypeId × Value → H} {W : World} {base : Nat} {v : Value} {d : DataW H} {p : List MemPlace} (hv : Value.okWide Tryz.prog W .any base 30 v)
    (h : DataW.Trod enc Tryz.prog W 0 (fun _ => true) true 30 v d p) :
    ∃ (a : Option Addr) (len cap : Nat) (ts : List Nd), v = .slice a len cap ∧ IsNodes W a len ts ∧ len ≤ cap ∧ cap ≤ maxLen ∧ (a = none → cap = 0) ∧ ∀ t ∈ ts, t.nm.size ≤ maxLen ∧ t.v.s.size ≤ maxLen := by
  obtain ⟨a, len, cap, rfl⟩ := okWide_slice Tryz.underlying30 hv
  obtain ⟨fuel, hf⟩ := h
  rcases open_slice Tryz.underlying30 hf with ⟨hcs, _⟩ | ⟨x, l, c, m, n, D, Pl, hcs, _, hl, hm, hmm, hD, hi⟩
  · simp [Value.cells] at hcs
    obtain ⟨rfl, rfl, rfl⟩ := hcs
    exact ⟨none, 0, 0, [], rfl, ⟨rfl, .inl rfl⟩, Nat.le_refl _, Nat.zero_le _, fun _ => rfl, by simp⟩
  · simp [Value.cells] at hcs
    obtain ⟨rfl, rfl, rfl⟩ := hcs
    simp only [if_true] at hmm
    subst hmm
    rw [cellsNode] at hi
    suffices hs : ∃ ts, IsNodes W (some x) len ts ∧ ∀ t ∈ ts, t.nm.size ≤ maxLen ∧ t.v.s.size ≤ maxLen by
      obtain ⟨vs, h, h'⟩ := hs
      exact ⟨_, _, _, vs, rfl, h, hl, hm, (fun h => by cases h), h'⟩
    by_cases h0 : len = 0
    · subst h0
      exact ⟨[], ⟨rfl, .inl rfl⟩, by simp⟩
    · have hone : ∀ i, i < len → ∃ v : Nd, (v.nm.size ≤ maxLen ∧ v.v.s.size ≤ maxLen) ∧ W.cell? ((x.add (i * 6)).add 0) = some (.int .i64 v.op) ∧ W.cell? ((x.add (i * 6)).add 1) = some (.int .i64 v.v.k) ∧ W.cell? ((x.add (i * 6)).add 2) = some (.int .i64 v.v.n) ∧ W.cell? ((x.add (i * 6)).add 3) = some (.string v.v.s) ∧ W.cell? ((x.add (i * 6)).add 4) = some (.string v.nm) ∧ W.cell? ((x.add (i * 6)).add 5) = some (.int .i64 v.ar) := by
        intro i hil
        obtain ⟨cs', hc, ht⟩ := hi i (by omega)
        obtain ⟨_, hcl, hat⟩ := World.cells?_some hc
        obtain ⟨y0, y1, y2, y3, k, hDi, _, t0, t1, t2, t3⟩ := trod_struct4 Tryz.underlying53 ht
        obtain ⟨z0, z1, z2, k', _, _, u0, u1, u2⟩ := trod_struct3 Tryz.underlying51 t1
        match cs', hcl with
        | [d0, d1, d2, d3, d4, d5], _ =>
          obtain ⟨o, e0, _, _⟩ := DataW.trod_int Tryz.underlying3 t0
          obtain ⟨kk, e1, _, _⟩ := DataW.trod_int Tryz.underlying3 u0
          obtain ⟨nn, e2, _, _⟩ := DataW.trod_int Tryz.underlying3 u1
          obtain ⟨ss, e3, _, sz3⟩ := DataW.trod_string Tryz.underlying9 u2
          obtain ⟨nm, e4, _, sz4⟩ := DataW.trod_string Tryz.underlying9 t2
          obtain ⟨ar, e5, _, _⟩ := DataW.trod_int Tryz.underlying3 t3
          have q1c : Tryz.prog.cellsOf 3 = 1 := by kernel_rfl
          have q2c : Tryz.prog.cellsOf 9 = 1 := by kernel_rfl
          have q3c : Tryz.prog.cellsOf 51 = 3 := by kernel_rfl
          have q0 : d0 = .int .i64 o := by simpa [q1c] using e0
          have q1 : d1 = .int .i64 kk := by simpa [q1c, q3c] using e1
          have q2 : d2 = .int .i64 nn := by simpa [q1c, q3c] using e2
          have q3 : d3 = .string ss := by simpa [q2c, q3c] using e3
          have q4 : d4 = .string nm := by simpa [q2c] using e4
          have q5 : d5 = .int .i64 ar := by simpa [q1c] using e5
          subst q0 q1 q2 q3 q4 q5
          exact ⟨⟨o, ⟨kk, nn, ss⟩, nm, ar⟩, ⟨sz4, sz3⟩, hat 0 (by omega), hat 1 (by omega), hat 2 (by omega), hat 3 (by omega), hat 4 (by omega), hat 5 (by omega)⟩
      obtain ⟨b, off, spot⟩ := x
      obtain ⟨v0, _, hz, _⟩ := hone 0 (by omega)
      have hspot : spot = none := by simpa [Addr.add] using World.cell?_spot hz
      subst hspot
      have hadd : ∀ o j, (⟨b, o, none⟩ : Addr).add j = ⟨b, o + j, none⟩ := fun o j => by unfold Addr.add; split <;> simp_all
      obtain ⟨vs, hvl, hvs⟩ := choose_list _ len hone
      refine ⟨vs, ⟨hvl, .inr ⟨b, off, rfl, World.block_lt_of_cell? W _ hz, fun i v hv => ?_⟩⟩, fun t ht => ?_⟩
      · have := (hvs i v hv).2
        unfold NodeAt
        simpa only [hadd, Nat.add_zero] using this
      · obtain ⟨i, hi, rfl⟩ := List.getElem_of_mem ht
        exact (hvs i _ (List.getElem?_eq_getElem hi)).1

end Go.Proofs.YtmdpjahhhfajaaaGreatDoor
set_option linter.unusedVariables false
set_option maxRecDepth 100000
namespace Wh
open Go.Proofs.YtmdpjahhhfajaaaGreatDoor

/-- Is it one of the symbols? -/
def symB (s : ByteArray) : Bool :=
  (decide (s.size = 2) && (List.range 4).any fun i => s.toList == (twoL i).toList) || (decide (s.size = 1) && (List.range 14).any (isOne s))

theorem extract_self (s : ByteArray) : s.extract 0 s.size = s := by
  apply ByteArray.ext
  apply Array.toList_inj.1
  have := bts_extract s 0 s.size
  show bts (s.extract 0 s.size) = bts s
  rw [this, Nat.sub_zero, List.drop_zero, List.take_of_length_le (by rw [bts_length]; exact Nat.le_refl _)]
theorem isOne_extract (s : ByteArray) (h : 1 ≤ s.size) (i : Nat) : isOne (s.extract 0 1) i = isOne s i := by
  unfold isOne
  rw [size_extract (by omega) h, btN_extract s 0 1 0 (by omega), decide_eq_true (by omega : 1 ≤ 1 - 0), decide_eq_true h]
theorem symB_two {s : ByteArray} (h : 2 ≤ s.size) : symB (s.extract 0 2) = (List.range 4).any (isTwo s) := by
  unfold symB
  rw [size_extract (by omega) h]
  have e : (fun i => (s.extract 0 2).toList == (twoL i).toList) = isTwo s := by
    funext i
    unfold isTwo
    rw [decide_eq_true h]
    rfl
  rw [e]
  simp
theorem symB_one {s : ByteArray} (h : 1 ≤ s.size) : symB (s.extract 0 1) = (List.range 14).any (isOne s) := by
  unfold symB
  rw [size_extract (by omega) h]
  have e : isOne (s.extract 0 1) = isOne s := by
    funext i
    exact isOne_extract s h i
  rw [e]
  simp
theorem twoL_size : ∀ i, i < 4 → (twoL i).size = 2 := by decide
/-- The longest symbol: two bytes, .. -/
theorem symS_at2 {s : ByteArray} (h : 2 ≤ s.size) (hb : symB (s.extract 0 2) = true) : symS s = s.extract 0 2 := by
  rw [symB_two h, List.any_eq_true] at hb
  unfold symS
  cases hf : (List.range 4).find? (isTwo s) with
  | some i =>
    have h1 := List.find?_some hf
    unfold isTwo at h1
    rw [Bool.and_eq_true] at h1
    exact (eqS_iff.1 h1.2).symm
  | none =>
    obtain ⟨i, hi, ht⟩ := hb
    have := List.find?_eq_none.1 hf i hi
    exact absurd ht this
theorem no_two {s : ByteArray} (h : s.size < 2 ∨ symB (s.extract 0 2) = false) : ∀ j, j < 4 → isTwo s j = false := by
  intro j hj
  by_cases h2 : 2 ≤ s.size
  · rcases h with h | h
    · omega
    · rw [symB_two h2, List.any_eq_false] at h
      have := h j (List.mem_range.2 hj)
      simpa using this
  · unfold isTwo
    rw [decide_eq_false h2]
    rfl
/-- .. or one .. -/
theorem symS_at1 {s : ByteArray} (h2 : s.size < 2 ∨ symB (s.extract 0 2) = false) (h : 1 ≤ s.size) (hb : symB (s.extract 0 1) = true) : symS s = s.extract 0 1 := by
  rw [symS_one (no_two h2), ← symB_one h, if_pos hb]
/-- .. or none. -/
theorem symS_at0 {s : ByteArray} (h2 : s.size < 2 ∨ symB (s.extract 0 2) = false) (h1 : s.size < 1 ∨ symB (s.extract 0 1) = false) : symS s = ⟨#[]⟩ := by
  rw [symS_one (no_two h2)]
  by_cases h : 1 ≤ s.size
  · rcases h1 with h1 | h1
    · omega
    · rw [← symB_one h, h1, if_neg (by simp)]
  · rw [if_neg]
    intro ha
    rw [List.any_eq_true] at ha
    obtain ⟨i, _, hi⟩ := ha
    unfold isOne at hi
    rw [decide_eq_false h] at hi
    cases hi

theorem symS_self (s : ByteArray) : symB s = (decide (0 < s.size) && eqS (symS s) s) := by
  by_cases h0 : 0 < s.size
  · rw [decide_eq_true h0, Bool.true_and]
    by_cases h1 : s.size = 1
    · have hx : s.extract 0 1 = s := by rw [← h1]; exact extract_self s
      cases hb : symB s with
      | true => rw [symS_at1 (.inl (by omega)) (by omega) (by rw [hx]; exact hb), hx, eqS_refl]
      | false =>
        rw [symS_at0 (.inl (by omega)) (.inr (by rw [hx]; exact hb))]
        cases he : eqS ⟨#[]⟩ s with
        | false => rfl
        | true => rw [← eqS_iff.1 he] at h0; exact absurd h0 (by decide)
    · by_cases h2 : s.size = 2
      · have hx : s.extract 0 2 = s := by rw [← h2]; exact extract_self s
        cases hb : symB s with
        | true => rw [symS_at2 (by omega) (by rw [hx]; exact hb), hx, eqS_refl]
        | false =>
          cases he : eqS (symS s) s with
          | false => rfl
          | true =>
            have h3 := eqS_iff.1 he
            have h4 : symS s = if (List.range 14).any (isOne s) = true then s.extract 0 1 else ⟨#[]⟩ := symS_one (no_two (.inr (by rw [hx]; exact hb)))
            have h5 : (symS s).size < 2 := by
              rw [h4]
              split
              · rw [size_extract (by omega) (by omega)]; omega
              · exact Nat.lt_of_lt_of_le Nat.zero_lt_one (by omega)
            rw [h3] at h5
            omega
      · have hb : symB s = false := by
          unfold symB
          rw [decide_eq_false h2, decide_eq_false h1]
          rfl
        rw [hb]
        cases he : eqS (symS s) s with
        | false => rfl
        | true =>
          have h3 := eqS_iff.1 he
          have h4 : (symS s).size ≤ 2 := by
            by_cases hs2 : symB (s.extract 0 2) = true
            · rw [symS_at2 (by omega) hs2, size_extract (by omega) (by omega)]; omega
            · rw [symS_one (no_two (.inr (by simpa using hs2)))]
              split
              · rw [size_extract (by omega) (by omega)]; omega
              · exact Nat.zero_le _
          rw [h3] at h4
          omega
  · rw [decide_eq_false h0, Bool.false_and]
    unfold symB
    rw [decide_eq_false (by omega : ¬ s.size = 2), decide_eq_false (by omega : ¬ s.size = 1)]
    rfl

/-- The symbols. -/
def symL : List ByteArray := [⟨#[40]⟩, ⟨#[41]⟩, ⟨#[44]⟩, ⟨#[59]⟩, ⟨#[58]⟩, ⟨#[124]⟩, ⟨#[61]⟩, ⟨#[43]⟩, ⟨#[43, 43]⟩, ⟨#[45]⟩, ⟨#[42]⟩, ⟨#[47]⟩, ⟨#[37]⟩, ⟨#[60]⟩, ⟨#[60, 61]⟩, ⟨#[62]⟩, ⟨#[62, 61]⟩, ⟨#[33, 61]⟩]
theorem symL_all : ∀ s ∈ symL, symB s = true := by decide +kernel
theorem one_byte_of {s : ByteArray} {x : UInt8} (h1 : s.size = 1) (h : btN s 0 = x.toNat) : s = ⟨#[x]⟩ := by
  obtain ⟨y, hy⟩ := bts_at (s := s) (i := 0) (by omega)
  rw [btN_of hy] at h
  obtain rfl := UInt8.toNat_inj.1 h
  apply ByteArray.ext
  apply Array.toList_inj.1
  show bts s = [y]
  have hl := bts_length s
  cases hb : bts s with
  | nil => rw [hb] at hy; cases hy
  | cons a l =>
    rw [hb] at hy hl
    cases hy
    cases l with
    | nil => rfl
    | cons b l => simp at hl; omega
theorem symB_mem {s : ByteArray} (h : symB s = true) : s ∈ symL := by
  unfold symB at h
  rcases Bool.or_eq_true_iff.1 h with h | h
  · rw [Bool.and_eq_true, List.any_eq_true] at h
    obtain ⟨_, i, hi, he⟩ := h
    have hi := List.mem_range.1 hi
    have := eqS_iff.1 he
    subst this
    rcases (show i = 0 ∨ i = 1 ∨ i = 2 ∨ i = 3 by omega) with rfl | rfl | rfl | rfl
    · simp [symL, twoL]
    · simp [symL, twoL]
    · simp [symL, twoL]
    · simp [symL, twoL]
  · rw [Bool.and_eq_true, decide_eq_true_eq, List.any_eq_true] at h
    obtain ⟨h1, i, hi, he⟩ := h
    have hi := List.mem_range.1 hi
    unfold isOne at he
    rw [Bool.and_eq_true, decide_eq_true_eq, decide_eq_true_eq] at he
    have hall : ∀ i, i < 14 → ∃ x : UInt8, btN oneL i = x.toNat ∧ (⟨#[x]⟩ : ByteArray) ∈ symL := by
      intro i hi
      have hx : ∃ x, (bts oneL)[i]? = some x := bts_at (s := oneL) (by show i < 14; exact hi)
      rcases (show i = 0 ∨ i = 1 ∨ i = 2 ∨ i = 3 ∨ i = 4 ∨ i = 5 ∨ i = 6 ∨ i = 7 ∨ i = 8 ∨ i = 9 ∨ i = 10 ∨ i = 11 ∨ i = 12 ∨ i = 13 by omega) with rfl | rfl | rfl | rfl | rfl | rfl | rfl | rfl | rfl | rfl | rfl | rfl | rfl | rfl
      · exact ⟨40, by decide, by simp [symL]⟩
      · exact ⟨41, by decide, by simp [symL]⟩
      · exact ⟨44, by decide, by simp [symL]⟩
      · exact ⟨59, by decide, by simp [symL]⟩
      · exact ⟨58, by decide, by simp [symL]⟩
      · exact ⟨124, by decide, by simp [symL]⟩
      · exact ⟨61, by decide, by simp [symL]⟩
      · exact ⟨43, by decide, by simp [symL]⟩
      · exact ⟨45, by decide, by simp [symL]⟩
      · exact ⟨42, by decide, by simp [symL]⟩
      · exact ⟨47, by decide, by simp [symL]⟩
      · exact ⟨37, by decide, by simp [symL]⟩
      · exact ⟨60, by decide, by simp [symL]⟩
      · exact ⟨62, by decide, by simp [symL]⟩
    obtain ⟨x, hx, hm⟩ := hall i hi
    rw [one_byte_of h1 (by rw [he.2, hx])]
    exact hm

end Wh
