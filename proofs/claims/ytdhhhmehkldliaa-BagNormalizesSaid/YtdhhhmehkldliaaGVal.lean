/-
  For every layer: values and rows of values in memory; value.Valid and its reference.
-/
import Derived.Test.YtdhhhmehkldliaaRows
import Derived.Test.YtdhhhmehkldliaaPlain
import Derived.Test.YtdhhhmehkldliaaGRet
import Derived.Test.YtdhhhmehkldliaaGBox
import Derived.WalkKit
import Derived.WalkLawsBesides
import Derived.WalkSpells
import Derived.BigQuiet
import Derived.Below
import Derived.Lib.Hide
import Derived.Lib.Bytealg
import Derived.LoopTactic
import Derived.OwnWalk
import Derived.Deep.QuietTactic
set_option linter.unusedVariables false
namespace Go.Proofs.Ytdhhhmehkldliaa
open Go.RowKit Wh

abbrev agg (k n : Int) (s : ByteArray) : Value := .agg #[.int .i64 k, .int .i64 n, .string s]

theorem valid_any (k n : Int) (s : ByteArray) (w : World) :
    Calls Try.prog 74 #[agg k n s] w fun e w' => e = .returned (.bool (validB k n s)) ∧ Below w.heap.size w w' := by
  go_enter Try.func74, Try.ntmps74
  go_wp2
  all_goals
    go_ret
    refine ⟨ret_bool ?_, (Below.refl _ _).alloc (Nat.le_refl _) _⟩
    simp_all [validB]
    try omega

theorem rvalid_any (k n : Int) (s : ByteArray) (w : World) :
    Calls Try.prog 76 #[agg k n s] w fun e w' => e = .returned (.bool (validB k n s)) ∧ Below w.heap.size w w' := by
  go_enter Try.func76, Try.ntmps76
  go_wp2
  all_goals
    go_ret
    refine ⟨ret_bool ?_, (Below.refl _ _).alloc (Nat.le_refl _) _⟩
    simp_all [validB]
    try omega

/-- From the cell (b, off) on lie the values vs. -/
def ValsAt (w : World) (b off : Nat) (vs : List V) : Prop :=
  ∀ i v, vs[i]? = some v → w.cell? ⟨b, off + i * 3, none⟩ = some (.int .i64 v.k) ∧ w.cell? ⟨b, off + i * 3 + 1, none⟩ = some (.int .i64 v.n) ∧ w.cell? ⟨b, off + i * 3 + 2, none⟩ = some (.string v.s)

/-- The slice (a, len) has the values vs. -/
def IsVals (w : World) (a : Option Addr) (len : Nat) (vs : List V) : Prop :=
  vs.length = len ∧ (vs = [] ∨ ∃ b off, a = some ⟨b, off, none⟩ ∧ b < w.heap.size ∧ ValsAt w b off vs)

theorem ValsAt.below {w w' : World} {b off B : Nat} {vs : List V} (h : ValsAt w b off vs) (hb : Below B w w') (hB : b < B) : ValsAt w' b off vs := by
  intro i v hv
  have e : ∀ o, w'.cell? ⟨b, o, none⟩ = w.cell? ⟨b, o, none⟩ := fun o => hb.cell (p := ⟨b, o, none⟩) hB
  rw [e, e, e]
  exact h i v hv

theorem IsVals.below {w w' : World} {a : Option Addr} {len B : Nat} {vs : List V} (h : IsVals w a len vs) (hb : Below B w w') (hB : w.heap.size ≤ B) : IsVals w' a len vs := by
  obtain ⟨h1, h2⟩ := h
  refine ⟨h1, ?_⟩
  rcases h2 with h2 | ⟨b, off, ha, hlt, hc⟩
  · exact .inl h2
  · exact .inr ⟨b, off, ha, by have := hb.size; omega, hc.below hb (by omega)⟩

theorem IsVals.at {w : World} {a : Option Addr} {len : Nat} {vs : List V} (h : IsVals w a len vs) {k : Nat} (hk : k < len) :
    ∃ kd n s b off, vs[k]? = some ⟨kd, n, s⟩ ∧ a = some ⟨b, off, none⟩ ∧ b < w.heap.size ∧ w.cell? ⟨b, off + k * 3, none⟩ = some (.int .i64 kd) ∧ w.cell? ⟨b, off + k * 3 + 1, none⟩ = some (.int .i64 n) ∧ w.cell? ⟨b, off + k * 3 + 2, none⟩ = some (.string s) := by
  obtain ⟨h1, h2⟩ := h
  obtain ⟨⟨kd, n, s⟩, hs⟩ : ∃ s, vs[k]? = some s := ⟨_, List.getElem?_eq_getElem (by omega)⟩
  rcases h2 with rfl | ⟨b, off, ha, hlt, hc⟩
  · simp at hs
  · exact ⟨kd, n, s, b, off, hs, ha, hlt, (hc k _ hs).1, (hc k _ hs).2.1, (hc k _ hs).2.2⟩

/-- The cells of a value, and of a row of values. -/
def cl (v : V) : List Value := [.int .i64 v.k, .int .i64 v.n, .string v.s]

def flat (vs : List V) : List Value := vs.flatMap cl

theorem info_val : (Try.prog.info? 38).map (fun i => (i.zero, i.size, i.bytes)) = some (some (.agg #[.int .i64 0, .int .i64 0, .string ⟨#[]⟩]), 3, 32) := by kernel_rfl

theorem flat_length (vs : List V) : (flat vs).length = vs.length * 3 := by
  unfold flat
  induction vs with
  | nil => rfl
  | cons v vs ih => simp only [List.flatMap_cons, List.length_append, ih, List.length_cons]; simp [cl]; omega

theorem flat_at (vs : List V) (i : Nat) (v : V) (h : vs[i]? = some v) : (flat vs)[i * 3]? = some (.int .i64 v.k) ∧ (flat vs)[i * 3 + 1]? = some (.int .i64 v.n) ∧ (flat vs)[i * 3 + 2]? = some (.string v.s) := by
  unfold flat
  induction vs generalizing i with
  | nil => simp at h
  | cons u vs ih =>
    cases i with
    | zero => simp at h; subst h; simp [cl]
    | succ i =>
      simp only [List.getElem?_cons_succ] at h
      have := ih i h
      rw [show (i + 1) * 3 = i * 3 + 1 + 1 + 1 from by omega]
      simpa [cl, List.flatMap_cons] using this

/-- A slice that owns the cells of a row has the values of the row. -/
theorem own_vals {w : World} {base n : Nat} {sv : Value} {vs : List V} (h : w.ownsRow base 38 3 sv n (flat vs)) (hn : vs.length = n) :
    ∃ (a : Option Addr) (cap : Nat), sv = .slice a n cap ∧ IsVals w a n vs ∧ (∀ x, a = some x → base ≤ x.block) := by
  rcases h.2 with ⟨rfl, rfl⟩ | ⟨g, cap, cur, rfl, hg, hh, _, _, _, ht⟩
  · exact ⟨none, 0, rfl, ⟨hn, .inl (List.eq_nil_of_length_eq_zero hn)⟩, by simp⟩
  · have hlt : g < w.heap.size := (Array.getElem?_eq_some_iff.1 hh).1
    refine ⟨_, cap, rfl, ⟨hn, .inr ⟨g, 0, rfl, hlt, fun i v hv => ?_⟩⟩, by rintro x ⟨⟩; exact hg⟩
    have hadd : ∀ o j, (⟨g, o, none⟩ : Addr).add j = ⟨g, o + j, none⟩ := fun o j => by unfold Addr.add; split <;> simp_all
    obtain ⟨h0, h1, h2⟩ := flat_at vs i v hv
    have c := h.cells (g := g) rfl
    have c0 := c _ _ h0
    have c1 := c _ _ h1
    have c2 := c _ _ h2
    simp only [hadd] at c0 c1 c2
    refine ⟨c0, ?_, ?_⟩
    · rw [Nat.add_assoc]; exact c1
    · rw [Nat.add_assoc]; exact c2

end Go.Proofs.Ytdhhhmehkldliaa
