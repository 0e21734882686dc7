/-
  The program's parser: the stack of expressions, each in a row of its o · The program's parser: apply of a node without operands. · Digits; what padded of the reference returns. · Date and Weekday, of civil and of its reference. · Format of the reference. · For every layer: rows of bytes that the call makes, and texts out of t · Number, Quote, Moment and written, of the reference. · The texts of expressions, plainly. No program's functions. · The texts of times: Parse reads them again; they are ordered as the ti · What was written is read: the token with which a text begins whose beg · What a valid expression's nodes find on the stack. No program's functi · The texts of expressions, plainly: how long they are; what a valid exp · The program's parser: apply of a node with operands. · What is read, plainly: names are short; ParseAt, Parse. No program's f · The program's parser: isCall, beginsPrimary, begins. · The program's parser: what a function that reads leaves; apply, nested · The program's parser: prefix, group. · The program's parser: not, unary; what a primary leaves. · The program's parser: binary. · The program's parser: binary reads what is to be read; read. · The program's parser: day. · The program's parser: operands. · Calls, plainly: what the table of built-in functions says of a call; a · The program's parser: call. · The program's parser: name, primary; all levels. · For every layer: the number at a place of a slice that came in.
-/
import Derived.Test.YtmdpjahhhfajaaaDoorJA08
import Derived.Deep.AppendLies
import Derived.RegionTactic
import Derived.Deep.RegionLaw
import Derived.Deep.RegionLawGrows
import Derived.BigRegion
import Derived.Test.YtmdpjahhhfajaaaDoorJA01
import Derived.WalkMore
import Derived.Test.YtmdpjahhhfajaaaDoorJA02
import Derived.Laws.BytesArg
import Derived.Test.YtmdpjahhhfajaaaDoorJA04
import Derived.Test.YtmdpjahhhfajaaaDoorJA05
import Derived.Deep.RegionHeld3
import Derived.LoopTactic
import Derived.BigQuiet
set_option linter.unusedVariables false
set_option linter.unusedSimpArgs false
set_option maxRecDepth 100000
namespace Go.Proofs.YtmdpjahhhfajaaaDoor
open Go.RowKit Wh
structure Sk (w : World) (b : Nat) (rs : List (List Nd)) (sv : Value) (vs : List Value) : Prop where
  len : vs.length = rs.length
  own : w.ownsRow b 22 1 sv vs.length vs
  nb : sv.ownBlock ≠ some b
  row : ∀ (k : Nat) (v : Value) (r : List Nd), vs[k]? = some v → rs[k]? = some r → w.ownsRow b 26 6 v r.length (nodesL r) ∧ 1 ≤ r.length ∧ r.length ≤ 257
  far : ∀ (k : Nat) (v : Value), vs[k]? = some v → v.ownBlock ≠ some b ∧ (∀ g, sv.ownBlock = some g → v.ownBlock ≠ some g)
  apart : ∀ (k k' : Nat) (v v' : Value), k ≠ k' → vs[k]? = some v → vs[k']? = some v' → ∀ g, v.ownBlock = some g → v'.ownBlock ≠ some g
theorem Sk.nil (w : World) (b : Nat) : Sk w b [] (.slice none 0 0) [] := ⟨rfl, World.ownsRow_nil _ _ _ _, by simp [Value.ownBlock], fun k v r h => by simp at h, fun k v h => by simp at h, fun k k' v v' _ h => by simp at h⟩
theorem Sk.keep {w w' : World} {b : Nat} {rs : List (List Nd)} {sv : Value} {vs : List Value} (h : Sk w b rs sv vs) (hg : w.grownBy w' (some b)) : Sk w' b rs sv vs := by
  have hne : ∀ v : Value, v.ownBlock ≠ some b → v.ownBlock = none ∨ v.ownBlock ≠ some b := fun v hv => .inr hv
  exact ⟨h.len, h.own.kept hg (hne _ h.nb), h.nb, fun k v r hv hr => ⟨(h.row k v r hv hr).1.kept hg (hne _ (h.far k v hv).1), (h.row k v r hv hr).2⟩, h.far, h.apart⟩
theorem Sk.below {w w' : World} {b : Nat} {rs : List (List Nd)} {sv : Value} {vs : List Value} (h : Sk w b rs sv vs) (hb : Below w.heap.size w w') : Sk w' b rs sv vs := h.keep (grown_below hb _)
theorem Sk.get {w : World} {b : Nat} {rs : List (List Nd)} {sv : Value} {vs : List Value} (h : Sk w b rs sv vs) {k : Nat} (hk : k < rs.length) :
    ∃ (g c : Nat) (r : List Nd), vs[k]? = some (.slice (some ⟨g, 0, none⟩) r.length c) ∧ rs[k]? = some r ∧ w.ownsRow b 26 6 (.slice (some ⟨g, 0, none⟩) r.length c) r.length (nodesL r) ∧ 1 ≤ r.length ∧ r.length ≤ 257 ∧ g ≠ b ∧ b ≤ g ∧ g < w.heap.size := by
  obtain ⟨v, hv⟩ : ∃ v, vs[k]? = some v := ⟨_, List.getElem?_eq_getElem (by rw [h.len]; exact hk)⟩
  obtain ⟨r, hr⟩ : ∃ r, rs[k]? = some r := ⟨_, List.getElem?_eq_getElem hk⟩
  obtain ⟨h1, h2, h3⟩ := h.row k v r hv hr
  obtain ⟨g, c, rfl, hb, hlt⟩ := h1.form (by omega)
  exact ⟨g, c, r, hv, hr, h1, h2, h3, fun hc => (h.far k _ hv).1 (by rw [hc]; rfl), hb, hlt⟩
theorem Sk.form {w : World} {b : Nat} {rs : List (List Nd)} {sv : Value} {vs : List Value} (h : Sk w b rs sv vs) :
    ∃ a cap, sv = .slice a rs.length cap ∧ rs.length ≤ cap ∧ cap ≤ maxLen ∧ (a = none → cap = 0) ∧ (∀ x, a = some x → ∃ g, x = ⟨g, 0, none⟩ ∧ b ≤ g ∧ g < w.heap.size ∧ ∀ k v, vs[k]? = some v → w.cell? ⟨g, k, none⟩ = some v) := by
  have hl := h.len
  rcases h.own.2 with ⟨hv, h0⟩ | ⟨g, cap, cur, hv, hb, hh, hnc, hmc, _, ht⟩
  · exact ⟨none, 0, by rw [hv, ← hl, h0], by omega, Nat.zero_le _, fun _ => rfl, fun x hx => by cases hx⟩
  · have hlt : g < w.heap.size := (Array.getElem?_eq_some_iff.1 hh).1
    refine ⟨some ⟨g, 0, none⟩, cap, by rw [hv, hl], by omega, hmc, (fun hx => by cases hx), ?_⟩
    rintro x ⟨⟩
    refine ⟨g, rfl, hb, hlt, fun k v hk => ?_⟩
    have hkl := (List.getElem?_eq_some_iff.1 hk).1
    have ho := h.own
    rw [hv] at ho
    rw [ho.cellAt k (by omega)]
    exact hk
theorem Sk.take {w : World} {b : Nat} {rs : List (List Nd)} {a : Option Addr} {n cap : Nat} {vs : List Value} (h : Sk w b rs (.slice a n cap) vs) {k : Nat} (hk : k ≤ rs.length) : Sk w b (rs.take k) (.slice a k cap) (vs.take k) := by
  have hl := h.len
  have ho := h.own
  have hn : n = vs.length := by
    rcases ho.2 with ⟨hv, h0⟩ | ⟨g, c, cur, hv, _⟩
    · cases hv; omega
    · cases hv; rfl
  subst hn
  have hlen : (vs.take k).length = k := by rw [List.length_take]; omega
  have e : (vs.take (k * 1)) = vs.take k := by rw [Nat.mul_one]
  have h1 := own_take ho (k := k) (by omega)
  rw [e] at h1
  have hb : ∀ x : Nat, (Value.slice a k cap).ownBlock = some x ↔ (Value.slice a vs.length cap).ownBlock = some x := fun x => by cases a <;> simp [Value.ownBlock]
  have get : ∀ (m : Nat) (v : Value), (vs.take k)[m]? = some v → vs[m]? = some v := fun m v hv => by
    have := (List.getElem?_eq_some_iff.1 hv).1
    rw [hlen] at this
    rwa [List.getElem?_take_of_lt this] at hv
  have get2 : ∀ (m : Nat) (r : List Nd), (rs.take k)[m]? = some r → rs[m]? = some r := fun m v hv => by
    have := (List.getElem?_eq_some_iff.1 hv).1
    rw [List.length_take] at this
    rwa [List.getElem?_take_of_lt (by omega)] at hv
  refine ⟨by rw [hlen, List.length_take]; omega, by rw [hlen]; exact h1, fun hc => h.nb ((hb b).1 hc), fun m v r hv hr => h.row m v r (get m v hv) (get2 m r hr), fun m v hv => ⟨(h.far m v (get m v hv)).1, fun g hg => (h.far m v (get m v hv)).2 g ((hb g).1 hg)⟩, fun m m' v v' hm hv hv' => h.apart m m' v v' hm (get m v hv) (get m' v' hv')⟩
def OutQ (w : World) (b : Nat) (sv : Value) (vs : List Value) (k : Nat) : Prop := k < w.heap.size ∧ k ≠ b ∧ sv.ownBlock ≠ some k ∧ ∀ v ∈ vs, v.ownBlock ≠ some k
theorem OutQ.grown {w w' : World} {b k : Nat} {sv : Value} {vs : List Value} {row : Option Nat} (h : OutQ w b sv vs k) (hg : w.grownBy w' row) (hr : row ≠ some k) : w'.heap[k]? = w.heap[k]? ∧ OutQ w' b sv vs k :=
  ⟨hg.block k h.1 (fun hc => hr hc.symm), Nat.lt_of_lt_of_le h.1 hg.size, h.2⟩
theorem OutQ.below {w w' : World} {b k : Nat} {sv : Value} {vs : List Value} (h : OutQ w b sv vs k) (hb : Below w.heap.size w w') : w'.heap[k]? = w.heap[k]? ∧ OutQ w' b sv vs k :=
  ⟨hb.block k h.1, Nat.lt_of_lt_of_le h.1 hb.size, h.2⟩
structure Fb (w : World) (b : Nat) (sv : Value) (vs : List Value) (w' : World) (sv' : Value) (vs' : List Value) : Prop where
  bel : Below b w w'
  fr : ∀ k, OutQ w b sv vs k → w'.heap[k]? = w.heap[k]? ∧ OutQ w' b sv' vs' k
theorem Fb.trans {w w1 w2 : World} {b : Nat} {sv sv1 sv2 : Value} {vs vs1 vs2 : List Value} (h : Fb w b sv vs w1 sv1 vs1) (h' : Fb w1 b sv1 vs1 w2 sv2 vs2) : Fb w b sv vs w2 sv2 vs2 :=
  ⟨h.bel.trans h'.bel, fun k hk => ⟨((h'.fr k (h.fr k hk).2).1).trans (h.fr k hk).1, (h'.fr k (h.fr k hk).2).2⟩⟩
theorem Fb.grown {w w' : World} {b : Nat} {sv : Value} {vs : List Value} (h : w.grownBy w' (some b)) (hb : b < w.heap.size) : Fb w b sv vs w' sv vs :=
  ⟨(Below.refl b w).grown h (Nat.le_of_lt hb) (fun z hz => by cases hz; exact Nat.le_refl _), fun k hk => hk.grown h (fun hc => hk.2.1 (Option.some.inj hc).symm)⟩
theorem Fb.below {w w' : World} {b : Nat} {sv : Value} {vs : List Value} (h : Below w.heap.size w w') (hb : b < w.heap.size) : Fb w b sv vs w' sv vs := Fb.grown (grown_below h _) hb
end Go.Proofs.YtmdpjahhhfajaaaDoor
namespace Go.Proofs.YtmdpjahhhfajaaaDoor
open Go.RowKit Wh
end Go.Proofs.YtmdpjahhhfajaaaDoor
namespace Wh
end Wh
namespace Go.Proofs.YtmdpjahhhfajaaaDoor
open Go.RowKit Wh
end Go.Proofs.YtmdpjahhhfajaaaDoor
namespace Go.Proofs.YtmdpjahhhfajaaaDoor
open Go.RowKit Wh
end Go.Proofs.YtmdpjahhhfajaaaDoor
namespace Wh
end Wh
namespace Go.Proofs.YtmdpjahhhfajaaaDoor
open Go.RowKit Wh
end Go.Proofs.YtmdpjahhhfajaaaDoor
namespace Go.Proofs.YtmdpjahhhfajaaaDoor
open Go.RowKit Wh
end Go.Proofs.YtmdpjahhhfajaaaDoor
namespace Wh
open Go Go.Proofs.YtmdpjahhhfajaaaDoor
end Wh
namespace Go.Proofs.YtmdpjahhhfajaaaDoor
open Go.RowKit Wh
end Go.Proofs.YtmdpjahhhfajaaaDoor
namespace Wh
open Go Go.Proofs.YtmdpjahhhfajaaaDoor
end Wh
namespace Wh
open Go
end Wh
namespace Wh
open Go Go.Proofs.YtmdpjahhhfajaaaDoor
end Wh
namespace Wh
open Go Go.Proofs.YtmdpjahhhfajaaaDoor
theorem valS_step {t : Nd} {l : List Nd} {hs : List Int} (h : valS (t :: l) hs = 0) :
    nodB t = true ∧ ∃ p : Nat, arN t = (p : Int) ∧ p ≤ hs.length ∧ p ≤ 8 ∧ ¬ 64 < maxL (hs.drop (hs.length - p)) + 1 ∧ valS l (hs.take (hs.length - p) ++ [maxL (hs.drop (hs.length - p)) + 1]) = 0 := by
  unfold valS at h
  by_cases c1 : nodB t = false ∨ (hs.length : Int) < arN t
  · rw [if_pos c1] at h; cases h
  · rw [if_neg c1] at h
    have hf : nodB t = true := by
      cases hb : nodB t with
      | true => rfl
      | false => exact absurd (.inl hb) c1
    obtain ⟨q0, q8⟩ := nodB_ar hf
    have hp : arN t = ((arN t).toNat : Int) := by omega
    by_cases c2 : 64 < maxL (hs.drop (hs.length - (arN t).toNat)) + 1
    · rw [if_pos c2] at h; cases h
    · rw [if_neg c2] at h
      refine ⟨hf, (arN t).toNat, hp, ?_, by omega, c2, h⟩
      have : ¬ (hs.length : Int) < arN t := fun hh => c1 (.inr hh)
      omega
theorem valS_end {hs : List Int} (h : valS [] hs = 0) : hs.length = 1 := by
  unfold valS at h
  by_cases c : hs.length = 1
  · exact c
  · rw [if_neg c] at h; cases h
theorem valN_zero {l : List Nd} (h : valN l = 0) : l.length ≤ 256 ∧ valS l [] = 0 := by
  unfold valN at h
  by_cases c : 256 < l.length
  · rw [if_pos c] at h; cases h
  · rw [if_neg c] at h; exact ⟨by omega, h⟩
end Wh
namespace Wh
open Go Go.Proofs.YtmdpjahhhfajaaaDoor
end Wh
namespace Go.Proofs.YtmdpjahhhfajaaaDoor
open Go.RowKit Wh
end Go.Proofs.YtmdpjahhhfajaaaDoor
namespace Wh
open Go Go.Proofs.YtmdpjahhhfajaaaDoor
def NmL (e : List Nd) : Prop := ∀ t ∈ e, t.nm.size ≤ 49
theorem NmL.one {t : Nd} (h : t.nm.size ≤ 49) : NmL [t] := fun u hu => by
  rw [List.mem_singleton] at hu
  subst hu
  exact h
end Wh
namespace Wh
open Go Go.Proofs.YtmdpjahhhfajaaaDoor
end Wh
namespace Go.Proofs.YtmdpjahhhfajaaaDoor
open Go.RowKit Wh
end Go.Proofs.YtmdpjahhhfajaaaDoor
namespace Go.Proofs.YtmdpjahhhfajaaaDoor
open Go.RowKit Wh
end Go.Proofs.YtmdpjahhhfajaaaDoor
namespace Go.Proofs.YtmdpjahhhfajaaaDoor
open Go.RowKit Wh
end Go.Proofs.YtmdpjahhhfajaaaDoor
namespace Go.Proofs.YtmdpjahhhfajaaaDoor
open Go.RowKit Wh
end Go.Proofs.YtmdpjahhhfajaaaDoor
namespace Wh
end Wh
namespace Go.Proofs.YtmdpjahhhfajaaaDoor
open Go.RowKit Wh
theorem Sk.out {w w' : World} {b k : Nat} {rs : List (List Nd)} {sv : Value} {vs : List Value} (h : Sk w b rs sv vs) (hb : b < w.heap.size) (hk : w.heap.size ≤ k) (hk2 : k < w'.heap.size) : OutQ w' b sv vs k := by
  refine ⟨hk2, by omega, fun hc => ?_, fun v hv hc => ?_⟩
  · have := (h.own.lt k hc).2
    omega
  · obtain ⟨m, hm⟩ := List.getElem?_of_mem hv
    obtain ⟨q, hq⟩ : ∃ q, rs[m]? = some q := ⟨_, List.getElem?_eq_getElem (by rw [← h.len]; exact (List.getElem?_eq_some_iff.1 hm).1)⟩
    have := ((h.row m v q hm hq).1.lt k hc).2
    omega
end Go.Proofs.YtmdpjahhhfajaaaDoor
namespace Go.Proofs.YtmdpjahhhfajaaaDoor
open Go.RowKit Wh
end Go.Proofs.YtmdpjahhhfajaaaDoor
namespace Go.Proofs.YtmdpjahhhfajaaaDoor
open Go.RowKit Wh
end Go.Proofs.YtmdpjahhhfajaaaDoor
namespace Go.Proofs.YtmdpjahhhfajaaaDoor
open Go.RowKit Wh
end Go.Proofs.YtmdpjahhhfajaaaDoor
namespace Wh
open Go Go.Proofs.YtmdpjahhhfajaaaDoor
end Wh
namespace Go.Proofs.YtmdpjahhhfajaaaDoor
open Go.RowKit Wh
end Go.Proofs.YtmdpjahhhfajaaaDoor
namespace Go.Proofs.YtmdpjahhhfajaaaDoor
open Go.RowKit Wh
end Go.Proofs.YtmdpjahhhfajaaaDoor
namespace Go.Proofs.YtmdpjahhhfajaaaDoor
open Go.RowKit
theorem IsInts.at {w : World} {a : Option Addr} {len : Nat} {zs : List Int} (h : IsInts w a len zs) {k : Nat} (hk : k < len) :
    ∃ z b off, zs[k]? = some z ∧ a = some ⟨b, off, none⟩ ∧ b < w.heap.size ∧ w.cell? ⟨b, off + k, none⟩ = some (.int .i64 z) := by
  obtain ⟨h1, h2⟩ := h
  obtain ⟨z, hs⟩ : ∃ s, zs[k]? = some s := ⟨_, List.getElem?_eq_getElem (by omega)⟩
  rcases h2 with rfl | ⟨b, off, ha, hlt, hc⟩
  · simp at hs
  · exact ⟨z, b, off, hs, ha, hlt, hc k _ hs⟩
end Go.Proofs.YtmdpjahhhfajaaaDoor
