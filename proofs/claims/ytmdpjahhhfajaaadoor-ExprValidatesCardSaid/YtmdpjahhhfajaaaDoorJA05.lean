/-
  For every layer that holds nodes of expressions: nodes in memory, what · Which texts are symbols, plainly. · isLetter, isDigit, wordSize, commentSize, isSymbol, Reserved, of packa · Which tokens, and which lists of tokens, are well-formed, plainly. No  · For every layer: is a text in a list (Has of the reference)? · Nodes, plainly: arity, form; the error of a list of nodes. · The syntax of expressions, plainly: what a text's tokens are read as,  · What is read, plainly: bounds of the places and of the nodes; too deep · The syntax, plainly: operands too deep; what a word's text tells. No p · The reference's parser: fail, peek, is, word, take, deep. Its state li · The reference's parser: take, deep.
-/
import Derived.Test.YtmdpjahhhfajaaaDoorJA01
import Derived.Test.YtmdpjahhhfajaaaDoorJA02
import Derived.Test.YtmdpjahhhfajaaaDoorJA04
import Derived.Deep.Slices
import Derived.Deep.Strs
import Derived.ChangeMaps5
import Derived.Lib.IndexLaws
import Derived.BigQuiet
import Derived.Maps.AppendAt
set_option linter.unusedVariables false
set_option maxRecDepth 100000
set_option linter.unusedSimpArgs false
namespace Wh
open Go
structure Nd where
  op : Int
  v : V
  nm : ByteArray
  ar : Int
end Wh
namespace Go.Proofs.YtmdpjahhhfajaaaDoor
open Go.ChangeShapes Go.WideShapes Go.ChangeAt Go.RowKit Go.Deep Go.Joins Wh
def c6 (t : Nd) : List Value := [.int .i64 t.op, .int .i64 t.v.k, .int .i64 t.v.n, .string t.v.s, .string t.nm, .int .i64 t.ar]
def nodesL (l : List Nd) : List Value := l.flatMap c6
def ndV (t : Nd) : Value := .agg #[.int .i64 t.op, .int .i64 t.v.k, .int .i64 t.v.n, .string t.v.s, .string t.nm, .int .i64 t.ar]
theorem info_node : (Tryd.prog.info? 26).map (fun i => (i.zero, i.size, i.bytes)) = some (some (.agg #[.int .i64 0, .int .i64 0, .int .i64 0, .string ⟨#[]⟩, .string ⟨#[]⟩, .int .i64 0]), 6, 64) := by kernel_rfl
theorem nodesL_length (l : List Nd) : (nodesL l).length = l.length * 6 := by
  unfold nodesL
  induction l with
  | nil => rfl
  | cons v vs ih => simp only [List.flatMap_cons, List.length_append, ih, List.length_cons, c6, List.length_nil]; omega
theorem nodesL_at (l : List Nd) (i : Nat) (t : Nd) (h : l[i]? = some t) : (nodesL l)[i * 6]? = some (.int .i64 t.op) ∧ (nodesL l)[i * 6 + 1]? = some (.int .i64 t.v.k) ∧ (nodesL l)[i * 6 + 2]? = some (.int .i64 t.v.n) ∧ (nodesL l)[i * 6 + 3]? = some (.string t.v.s) ∧ (nodesL l)[i * 6 + 4]? = some (.string t.nm) ∧ (nodesL l)[i * 6 + 5]? = some (.int .i64 t.ar) := by
  unfold nodesL
  induction l generalizing i with
  | nil => simp at h
  | cons u l ih =>
    cases i with
    | zero => simp at h; subst h; simp [c6]
    | succ i =>
      simp only [List.getElem?_cons_succ] at h
      have := ih i h
      rw [show (i + 1) * 6 = i * 6 + 1 + 1 + 1 + 1 + 1 + 1 from by omega]
      simpa [List.flatMap_cons, c6] using this
theorem nodesL_app (l m : List Nd) : nodesL (l ++ m) = nodesL l ++ nodesL m := by unfold nodesL; simp
theorem nodesL_push (l : List Nd) (t : Nd) : nodesL l ++ [.int .i64 t.op, .int .i64 t.v.k, .int .i64 t.v.n, .string t.v.s, .string t.nm, .int .i64 t.ar] = nodesL (l ++ [t]) := by
  rw [nodesL_app]
  simp [nodesL, c6]
def NodeAt (w : World) (b off : Nat) (t : Nd) : Prop :=
  w.cell? ⟨b, off, none⟩ = some (.int .i64 t.op) ∧ w.cell? ⟨b, off + 1, none⟩ = some (.int .i64 t.v.k) ∧ w.cell? ⟨b, off + 2, none⟩ = some (.int .i64 t.v.n) ∧ w.cell? ⟨b, off + 3, none⟩ = some (.string t.v.s) ∧ w.cell? ⟨b, off + 4, none⟩ = some (.string t.nm) ∧ w.cell? ⟨b, off + 5, none⟩ = some (.int .i64 t.ar)
theorem NodeAt.below {w w' : World} {b off B : Nat} {t : Nd} (h : NodeAt w b off t) (hb : Below B w w') (hB : b < B) : NodeAt w' b off t := by
  have e : ∀ o, w'.cell? ⟨b, o, none⟩ = w.cell? ⟨b, o, none⟩ := fun o => hb.cell (p := ⟨b, o, none⟩) hB
  unfold NodeAt
  rw [e, e, e, e, e, e]
  exact h
def IsNodes (w : World) (a : Option Addr) (len : Nat) (ts : List Nd) : Prop :=
  ts.length = len ∧ (ts = [] ∨ ∃ b off, a = some ⟨b, off, none⟩ ∧ b < w.heap.size ∧ ∀ i t, ts[i]? = some t → NodeAt w b (off + i * 6) t)
theorem IsNodes.below {w w' : World} {a : Option Addr} {len B : Nat} {ts : List Nd} (h : IsNodes w a len ts) (hb : Below B w w') (hB : w.heap.size ≤ B) : IsNodes w' a len ts := by
  obtain ⟨h1, h2⟩ := h
  refine ⟨h1, ?_⟩
  rcases h2 with h2 | ⟨b, off, ha, hlt, hc⟩
  · exact .inl h2
  · exact .inr ⟨b, off, ha, by have := hb.size; omega, fun i s hs => (hc i s hs).below hb (by omega)⟩
theorem IsNodes.at {w : World} {a : Option Addr} {len : Nat} {ts : List Nd} (h : IsNodes w a len ts) {k : Nat} (hk : k < len) :
    ∃ t b off, ts[k]? = some t ∧ a = some ⟨b, off, none⟩ ∧ b < w.heap.size ∧ NodeAt w b (off + k * 6) t := by
  obtain ⟨h1, h2⟩ := h
  obtain ⟨t, hs⟩ : ∃ s, ts[k]? = some s := ⟨_, List.getElem?_eq_getElem (by omega)⟩
  rcases h2 with rfl | ⟨b, off, ha, hlt, hc⟩
  · simp at hs
  · exact ⟨t, b, off, hs, ha, hlt, hc k _ hs⟩
theorem IsNodes.take {w : World} {a : Option Addr} {len : Nat} {ts : List Nd} (h : IsNodes w a len ts) {k : Nat} (hk : k ≤ len) : IsNodes w a k (ts.take k) := by
  obtain ⟨h1, h2⟩ := h
  refine ⟨by rw [List.length_take]; omega, ?_⟩
  rcases h2 with rfl | ⟨b, off, ha, hlt, hc⟩
  · exact .inl (by simp)
  · refine .inr ⟨b, off, ha, hlt, fun i c hi => hc i c ?_⟩
    have hlt := (List.getElem?_eq_some_iff.1 hi).1
    rw [List.length_take] at hlt
    rw [List.getElem?_take_of_lt (by omega)] at hi
    exact hi
theorem own_nodes {w : World} {base n : Nat} {v : Value} {ts : List Nd} (h : w.ownsRow base 26 6 v n (nodesL ts)) (hn : ts.length = n) :
    ∃ (a : Option Addr) (cap : Nat), v = .slice a n cap ∧ IsNodes w a n ts ∧ n ≤ cap ∧ cap ≤ maxLen ∧ (a = none → cap = 0) ∧ (∀ x, a = some x → ∃ g, x = ⟨g, 0, none⟩ ∧ base ≤ g ∧ g < w.heap.size) := by
  rcases h.2 with ⟨rfl, rfl⟩ | ⟨g, cap, cur, rfl, hg, hh, hnc, hmc, _, ht⟩
  · exact ⟨none, 0, rfl, ⟨hn, .inl (List.eq_nil_of_length_eq_zero hn)⟩, Nat.le_refl _, Nat.zero_le _, fun _ => rfl, fun x hx => by cases hx⟩
  · have hlt : g < w.heap.size := (Array.getElem?_eq_some_iff.1 hh).1
    refine ⟨_, cap, rfl, ⟨hn, .inr ⟨g, 0, rfl, hlt, fun i t hi => ?_⟩⟩, hnc, hmc, fun hx => (by cases hx), by rintro x ⟨⟩; exact ⟨g, rfl, hg, hlt⟩⟩
    obtain ⟨f0, f1, f2, f3, f4, f5⟩ := nodesL_at ts i t hi
    have hk := (List.getElem?_eq_some_iff.1 hi).1
    unfold NodeAt
    simp only [Nat.zero_add]
    exact ⟨(h.cellAt (i * 6) (by omega)).trans f0, (h.cellAt (i * 6 + 1) (by omega)).trans f1, (h.cellAt (i * 6 + 2) (by omega)).trans f2, (h.cellAt (i * 6 + 3) (by omega)).trans f3, (h.cellAt (i * 6 + 4) (by omega)).trans f4, (h.cellAt (i * 6 + 5) (by omega)).trans f5⟩
theorem own_take {w : World} {base e size n cap : Nat} {a : Option Addr} {xs : List Value} (h : w.ownsRow base e size (.slice a n cap) n xs) {k : Nat} (hk : k ≤ n) : w.ownsRow base e size (.slice a k cap) k (xs.take (k * size)) := by
  have hl := h.1
  have hle : k * size ≤ n * size := Nat.mul_le_mul_right _ hk
  refine ⟨by rw [List.length_take]; omega, ?_⟩
  rcases h.2 with ⟨hv, rfl⟩ | ⟨g, c, cur, hv, hg, hh, hnc, hmc, hsz, ht⟩
  · cases hv
    obtain rfl : k = 0 := by omega
    exact .inl ⟨rfl, rfl⟩
  · cases hv
    refine .inr ⟨g, _, cur, rfl, hg, hh, by omega, hmc, hsz, ?_⟩
    rw [← ht, List.take_take, Nat.min_eq_left hle]
theorem cellsNode : Tryd.prog.cellsOf 26 = 6 := by kernel_rfl
end Go.Proofs.YtmdpjahhhfajaaaDoor
namespace Wh
open Go.Proofs.YtmdpjahhhfajaaaDoor
end Wh
namespace Wh
open Go Go.Proofs.YtmdpjahhhfajaaaDoor
def resL : List ByteArray := [⟨#[97, 110, 100]⟩, ⟨#[111, 114]⟩, ⟨#[110, 111, 116]⟩, ⟨#[110, 117, 108, 108]⟩, ⟨#[116, 114, 117, 101]⟩, ⟨#[102, 97, 108, 115, 101]⟩, ⟨#[98, 121]⟩, ⟨#[115, 101, 108, 102]⟩]
def resB (s : ByteArray) : Bool := resL.any fun x => eqS x s
theorem resB_mem {s : ByteArray} (h : resB s = true) : s ∈ resL := by
  unfold resB at h
  rw [List.any_eq_true] at h
  obtain ⟨x, hx, he⟩ := h
  rw [← eqS_iff.1 he]
  exact hx
theorem resL_all : ∀ s ∈ resL, resB s = true := fun s hs => by
  unfold resB
  rw [List.any_eq_true]
  exact ⟨s, hs, eqS_refl s⟩
theorem ne_lit {s t : ByteArray} {p : ByteArray → Bool} (ht : p t = true) (h : p s = false) : (s.toList == t.toList) = false := by
  cases he : (s.toList == t.toList) with
  | false => rfl
  | true =>
    rw [eqS_iff.1 (show eqS s t = true from he), ht] at h
    cases h
end Wh
namespace Go.Proofs.YtmdpjahhhfajaaaDoor
open Go.RowKit Wh
end Go.Proofs.YtmdpjahhhfajaaaDoor
namespace Wh
open Go Go.Proofs.YtmdpjahhhfajaaaDoor
def empB (s : ByteArray) : Bool := decide (s.size = 0)
end Wh
namespace Wh
open Go
def hasB (ss : List ByteArray) (s : ByteArray) : Bool := ss.any fun t => eqS t s
theorem hasB_no {ss : List ByteArray} {s : ByteArray} (h : ∀ (i : Nat) (t : ByteArray), ss[i]? = some t → eqS t s = false) : hasB ss s = false := by
  unfold hasB
  rw [List.any_eq_false]
  intro t ht
  obtain ⟨i, hi⟩ := List.mem_iff_getElem?.1 ht
  simp [h i t hi]
theorem hasB_yes {ss : List ByteArray} {s t : ByteArray} {i : Nat} (h : ss[i]? = some t) (he : eqS t s = true) : hasB ss s = true := by
  unfold hasB
  rw [List.any_eq_true]
  exact ⟨t, List.mem_of_getElem? h, he⟩
end Wh
namespace Go.Proofs.YtmdpjahhhfajaaaDoor
open Go.RowKit Wh
theorem has_any (a : Option Addr) (len cap : Nat) (ss : List ByteArray) (s : ByteArray) (w : World) (hs : IsStrs w a len ss) (hl : len ≤ 9223372036854775807) :
    Calls Tryd.prog 58 #[.slice a len cap, .string s] w fun e w' => e = .returned (.bool (hasB ss s)) ∧ w = w' := by
  have NO := Lib.hid (fun h => hasB_no (ss := ss) (s := s) h)
  have YE := Lib.hid (fun (i : Nat) (t : ByteArray) h he => hasB_yes (ss := ss) (s := s) (t := t) (i := i) h he)
  have HS := Lib.hid hs
  generalize hasB ss s = E at *
  clear hs
  go_enter Tryd.func58, Tryd.ntmps58
  go_wp2_with fail
  go_loop [5] (fun iv => ∃ k : Nat, k ≤ len ∧ iv = .int .i64 k ∧ Hid (∀ (i : Nat) (t : ByteArray), i < k → ss[i]? = some t → eqS t s = false)) (fun i => len - (intOf i).toNat)
  case atStart => exact ⟨0, Nat.zero_le _, rfl, fun i s hi => absurd hi (by omega)⟩
  case round =>
    obtain ⟨k, hk, rfl, HI⟩ := hrel
    by_cases hlt : k < len
    · obtain ⟨t, b, off, hx, rfl, hbl, hc0⟩ := HS.out.at hlt
      have HX := Lib.hid hx
      clear hx
      cases he : eqS t s with
      | true =>
        obtain rfl := YE.out k t HX.out he
        have he2 : (t.toList == s.toList) = true := he
        clear he HI NO YE
        go_wp2_with fail
        go_ret
        exact ⟨rfl, rfl⟩
      | false =>
        have HI2 : Hid (∀ (i : Nat) (u : ByteArray), i < k + 1 → ss[i]? = some u → eqS u s = false) := fun i u hi hu => by
          by_cases e : i = k
          · subst e
            have := HX.out
            rw [hu] at this
            cases this
            exact he
          · exact HI.out i u (by omega) hu
        have he2 : (t.toList == s.toList) = false := he
        clear he HI NO YE
        go_wp2_with fail
        go_round
        case rel => exact ⟨k + 1, by omega, by go_num, HI2⟩
        case measure => simp [intOf]; omega
    · obtain rfl := NO.out fun i s hi => HI.out i s (by have := (List.getElem?_eq_some_iff.1 hi).1; have := HS.out.1; omega) hi
      clear NO YE HI
      go_wp2_with fail
      go_ret
      exact ⟨rfl, rfl⟩
end Go.Proofs.YtmdpjahhhfajaaaDoor
namespace Wh
open Go Go.Proofs.YtmdpjahhhfajaaaDoor
def bltL : List ByteArray := [⟨#[105, 102]⟩, ⟨#[99, 111, 97, 108, 101, 115, 99, 101]⟩, ⟨#[105, 115, 110, 117, 108, 108]⟩, ⟨#[108, 101, 110, 103, 116, 104]⟩, ⟨#[100, 97, 121]⟩]
def bltB (s : ByteArray) : Bool := hasB bltL s
def colB (s : ByteArray) : Bool := nameB s && !resB s
def refB (s : ByteArray) : Bool := qualB s && !resB s
def arN (t : Nd) : Int :=
  if t.op = 21 then t.ar
  else if t.op = 0 ∨ t.op = 1 then 0
  else if t.op = 2 ∨ t.op = 3 ∨ t.op = 16 ∨ t.op = 19 ∨ t.op = 20 then 1
  else if t.op = 17 then 3
  else if 4 ≤ t.op ∧ t.op ≤ 18 then 2
  else -1
def zeroV (v : V) : Bool := decide (v.k = 0) && (decide (v.n = 0) && empB v.s)
def nodB (t : Nd) : Bool :=
  if t.op = 0 then validB t.v.k t.v.n t.v.s && (empB t.nm && decide (t.ar = 0))
  else if t.op = 1 then zeroV t.v && (decide (t.ar = 0) && colB t.nm)
  else if t.op = 20 then zeroV t.v && (decide (t.ar = 0) && refB t.nm)
  else if t.op = 21 then zeroV t.v && (decide (0 ≤ t.ar) && (decide (t.ar ≤ 8) && (refB t.nm && !bltB t.nm)))
  else decide (0 ≤ arN t) && (zeroV t.v && (empB t.nm && decide (t.ar = 0)))
theorem nodB_ar {t : Nd} (h : nodB t = true) : 0 ≤ arN t ∧ arN t ≤ 8 := by
  unfold nodB at h
  unfold arN
  by_cases h0 : t.op = 0
  · simp [h0]
  · rw [if_neg h0] at h
    by_cases h1 : t.op = 1
    · simp [h1]
    · rw [if_neg h1] at h
      by_cases h20 : t.op = 20
      · simp [h20]
      · rw [if_neg h20] at h
        by_cases h21 : t.op = 21
        · rw [if_pos h21] at h ⊢
          simp only [Bool.and_eq_true, decide_eq_true_eq] at h
          omega
        · rw [if_neg h21] at h ⊢
          simp only [Bool.and_eq_true, decide_eq_true_eq] at h
          have h2 := h.1
          unfold arN at h2
          rw [if_neg h21] at h2
          revert h2
          split
          · omega
          · split
            · omega
            · split
              · omega
              · split <;> omega
def maxL (l : List Int) : Int := l.foldl max 0
def valS : List Nd → List Int → Int
  | [], st => if st.length = 1 then 0 else 8
  | t :: l, st =>
    if nodB t = false ∨ (st.length : Int) < arN t then 8
    else
      if 64 < maxL (st.drop (st.length - (arN t).toNat)) + 1 then 2
      else valS l (st.take (st.length - (arN t).toNat) ++ [maxL (st.drop (st.length - (arN t).toNat)) + 1])
def valN (l : List Nd) : Int := if 256 < l.length then 2 else valS l []
theorem maxL_take (l : List Int) (i : Nat) (x : Int) (h : l[i]? = some x) : maxL (l.take (i + 1)) = max (maxL (l.take i)) x := by
  unfold maxL
  have hlt := (List.getElem?_eq_some_iff.1 h).1
  rw [List.take_add_one, h]
  simp
theorem maxL_nonneg (l : List Int) : 0 ≤ maxL l := by
  unfold maxL
  have : ∀ (l : List Int) (a : Int), 0 ≤ a → 0 ≤ l.foldl max a := by
    intro l
    induction l with
    | nil => intro a h; exact h
    | cons x l ih => intro a h; exact ih _ (by omega)
  exact this l 0 (Int.le_refl _)
end Wh
namespace Wh
open Go Go.Proofs.YtmdpjahhhfajaaaDoor
abbrev opNd (op : Int) : Nd := ⟨op, ⟨0, 0, ⟨#[]⟩⟩, ⟨#[]⟩, 0⟩
inductive PO where
  | ok (e : List Nd) (i : Nat)
  | bad (c : Int) (i : Nat)
def tkA (ts : List TA) (i : Nat) : TA := ts.getD (min i (ts.length - 1)) (⟨0, ⟨#[]⟩, 0⟩, 0)
end Wh
namespace Wh
open Go Go.Proofs.YtmdpjahhhfajaaaDoor
def EndT (ts : List TA) : Prop := 1 ≤ ts.length ∧ ∀ i, i < ts.length → ((tkA ts i).1.k = 0 ↔ i + 1 = ts.length)
theorem tkA_get {ts : List TA} (h : 1 ≤ ts.length) (i : Nat) : ts[min i (ts.length - 1)]? = some (tkA ts i) := by
  unfold tkA
  rw [List.getD_eq_getElem?_getD, List.getElem?_eq_getElem (by omega)]
  rfl
def Gd (ts : List TA) (i : Nat) (b : Prop) : PO → Prop
  | .ok e j => i < j ∧ j < ts.length ∧ 1 ≤ e.length ∧ e.length ≤ j - i ∧ b
  | .bad c j => (c = 2 ∨ c = 3) ∧ i ≤ j ∧ j < ts.length
theorem Gd.mono {ts : List TA} {i i' : Nat} {b b' : Prop} {P : PO} (h : Gd ts i b P) (hi : i' ≤ i) (hb : b → b') : Gd ts i' b' P := by
  cases P with
  | ok e j => exact ⟨by have := h.1; omega, h.2.1, h.2.2.1, by have := h.2.2.2.1; have := h.1; omega, hb h.2.2.2.2⟩
  | bad c j => exact ⟨h.1, by have := h.2.1; omega, h.2.2⟩
end Wh
namespace Wh
open Go Go.Proofs.YtmdpjahhhfajaaaDoor
end Wh
namespace Go.Proofs.YtmdpjahhhfajaaaDoor
open Go.RowKit Wh
theorem grown_below {w w' : World} (h : Below w.heap.size w w') (row : Option Nat) : w.grownBy w' row := ⟨h.os, h.tape, h.output, h.size, fun k hk _ => h.block k hk⟩
theorem IsToks.grown {w w' : World} {a : Option Addr} {len b : Nat} {ts : List TA} (h : IsToks w a len ts) (hg : w.grownBy w' (some b)) (hf : ∀ x, a = some x → x.block ≠ b) : IsToks w' a len ts := by
  obtain ⟨h1, h2⟩ := h
  refine ⟨h1, ?_⟩
  rcases h2 with h2 | ⟨g, off, ha, hlt, hc⟩
  · exact .inl h2
  · have e : ∀ o, w'.cell? ⟨g, o, none⟩ = w.cell? ⟨g, o, none⟩ := fun o => hg.cell_far ⟨g, o, none⟩ hlt (by have := hf _ ha; simpa using this)
    refine .inr ⟨g, off, ha, Nat.lt_of_lt_of_le hlt hg.size, fun i s hs => ?_⟩
    rw [e, e, e, e]
    exact hc i s hs
end Go.Proofs.YtmdpjahhhfajaaaDoor
namespace Go.Proofs.YtmdpjahhhfajaaaDoor
open Go.RowKit Wh
end Go.Proofs.YtmdpjahhhfajaaaDoor
