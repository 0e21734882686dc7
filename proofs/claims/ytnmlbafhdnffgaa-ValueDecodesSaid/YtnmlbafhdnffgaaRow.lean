/-
  The law's own function row: a row of values that it builds from a list of numbers.
-/
import Derived.Test.YtnmlbafhdnffgaaAt
set_option linter.unusedVariables false
namespace Go.Proofs.Ytnmlbafhdnffgaa
open Go.RowKit Wh

/-- The cells of a value, and of a row of values. -/
def cl (v : V) : List Value := [.int .i64 v.k, .int .i64 v.n, .string v.s]
def flat (vs : List V) : List Value := vs.flatMap cl

theorem info_val : (Try.prog.info? 23).map (fun i => (i.zero, i.size, i.bytes)) = some (some (.agg #[.int .i64 0, .int .i64 0, .string ⟨#[]⟩]), 3, 32) := by kernel_rfl

theorem flat_length (vs : List V) : (flat vs).length = vs.length * 3 := by
  unfold flat
  induction vs with
  | nil => rfl
  | cons v vs ih => simp only [List.flatMap_cons, List.length_append, ih, List.length_cons]; simp [cl]; omega

theorem flat_at (vs : List V) (i : Nat) (v : V) (h : vs[i]? = some v) : (flat vs)[i * 3]? = some (.int .i64 v.k) ∧ (flat vs)[i * 3 + 1]? = some (.int .i64 v.n) ∧ (flat vs)[i * 3 + 2]? = some (.string v.s) := by
  unfold flat
  induction vs generalizing i with
  | nil => simp at h
  | cons u vs ih =>
    cases i with
    | zero => simp at h; subst h; simp [cl]
    | succ i =>
      simp only [List.getElem?_cons_succ] at h
      have := ih i h
      rw [show (i + 1) * 3 = i * 3 + 1 + 1 + 1 from by omega]
      simpa [cl, List.flatMap_cons] using this

/-- A slice that owns the cells of a row has the values of the row. -/
theorem own_vals {w : World} {base n : Nat} {sv : Value} {vs : List V} (h : w.ownsRow base 23 3 sv n (flat vs)) (hn : vs.length = n) :
    ∃ (a : Option Addr) (cap : Nat), sv = .slice a n cap ∧ IsVals w a n vs ∧ (∀ x, a = some x → base ≤ x.block) := by
  rcases h.2 with ⟨rfl, rfl⟩ | ⟨g, cap, cur, rfl, hg, hh, _, _, _, ht⟩
  · exact ⟨none, 0, rfl, ⟨hn, .inl (List.eq_nil_of_length_eq_zero hn)⟩, by simp⟩
  · have hlt : g < w.heap.size := (Array.getElem?_eq_some_iff.1 hh).1
    refine ⟨_, cap, rfl, ⟨hn, .inr ⟨g, 0, rfl, hlt, fun i v hv => ?_⟩⟩, by rintro x ⟨⟩; exact hg⟩
    have hadd : ∀ o j, (⟨g, o, none⟩ : Addr).add j = ⟨g, o + j, none⟩ := fun o j => by unfold Addr.add; split <;> simp_all
    obtain ⟨h0, h1, h2⟩ := flat_at vs i v hv
    have c := h.cells (g := g) rfl
    have c0 := c _ _ h0
    have c1 := c _ _ h1
    have c2 := c _ _ h2
    simp only [hadd] at c0 c1 c2
    refine ⟨c0, ?_, ?_⟩
    · rw [Nat.add_assoc]; exact c1
    · rw [Nat.add_assoc]; exact c2

theorem rowV_next (zs : List Int) (k : Nat) : rowV zs (k + 1) = rowV zs k ++ [anyV (atZ zs (k : Int))] := by
  unfold rowV
  rw [List.range_succ, List.map_append]
  rfl

theorem rowV_length (zs : List Int) (n : Nat) : (rowV zs n).length = n := by simp [rowV]

theorem rowV_valid (zs : List Int) (n : Nat) : allValid (rowV zs n) = true := by
  apply allValid_of
  intro v hv
  simp only [rowV, List.mem_map] at hv
  obtain ⟨i, _, rfl⟩ := hv
  exact anyV_valid _

theorem IsInts.below {w w' : World} {a : Option Addr} {len B : Nat} {zs : List Int} (h : IsInts w a len zs) (hb : Below B w w') (hB : w.heap.size ≤ B) : IsInts w' a len zs := by
  obtain ⟨h1, h2⟩ := h
  refine ⟨h1, ?_⟩
  rcases h2 with h2 | ⟨b, off, ha, hlt, hc⟩
  · exact .inl h2
  · refine .inr ⟨b, off, ha, by have := hb.size; omega, fun i z hz => ?_⟩
    rw [hb.cell (p := ⟨b, off + i, none⟩) (by show b < B; omega)]
    exact hc i z hz

def RowPost (w : World) (n : Nat) (vs : List V) (e : Ending) (w' : World) : Prop :=
  ∃ sv : Value, e = .returned sv ∧ w'.ownsRow w.heap.size 23 3 sv n (flat vs) ∧ Below w.heap.size w w'

set_option maxHeartbeats 400000 in
theorem row_any (a : Option Addr) (len cap : Nat) (zs : List Int) (n : Nat) (hn : n ≤ 100) (w : World) (hz : IsInts w a len zs) (hl : len ≤ 9223372036854775807) :
    Calls Try.prog 23 #[.slice a len cap, .int .i64 n] w (RowPost w n (rowV zs n)) := by
  obtain ⟨i0, hi, hz0, hz1, hz2⟩ := info_parts info_val
  have HZ := Lib.hid hz
  clear hz
  go_enter Try.func23, Try.ntmps23
  go_wp2_with fail
  go_loopw [5, 6] (fun ov iv wr => ∃ k : Nat, k ≤ n ∧ iv = .int .i64 k ∧ wr.ownsRow w.heap.size 23 3 ov k (flat (rowV zs k)) ∧ Below w.heap.size w wr)
    (fun _ i _ => n - (intOf i).toNat)
  case atStart => exact ⟨0, Nat.zero_le _, rfl, World.ownsRow_nil _ _ _ _, Below.refl _ _⟩
  case round =>
    obtain ⟨k, hk, rfl, hown, hbel⟩ := hrel
    by_cases hlt : k < n
    · have hs := hbel.size
      go_wp2_with fail
      refine (at_any _ _ _ zs _ _ (HZ.out.below hbel (Nat.le_refl _)) hl).mono ?_
      rintro e w1 ⟨rfl, hb1⟩
      have hab := atZ_bounds zs (k : Int)
      have hown1 := own_below hown hb1
      have hs1 := hb1.size
      go_wp2_with fail
      refine (any_any _ (by omega) (by omega) _).mono ?_
      rintro e w2 ⟨rfl, hb2⟩
      have hown2 := own_below hown1 hb2
      have hs2 := hb2.size
      have HN := Lib.hid (rowV_next zs k)
      generalize anyV (atZ zs (k : Int)) = x at HN ⊢
      go_wp2_with (at_builtin; refine wpList_append_own _ rfl _ _ 31 rfl w.heap.size 23 i0 _ 3 32 Try.underlying31 hi hz0 hz1 hz2 rfl (by decide) _ _ _ rfl (hown2.alloc _) ⟨w2.heap.size, 0, none⟩ 1 1 (cl x) rfl rfl ?c1 ?c2 ?c3 ?c4 ?c5 ?_)
      case c1 => exact World.news_of_block (cs := #[.int .i64 x.k, .int .i64 x.n, .string x.s]) (t := 23) (fr := (0, 0)) (heap_alloc_new w2 _)
      case c2 => simp [Value.oneCell', cl]
      case c3 => simp [maxLen]; omega
      case c4 => omega
      case c5 => simp; omega
      intro v3 w3 hown3 hgrow _
      have hB : Below w.heap.size w w3 := (((hbel.trans (hb1.mono (by omega))).trans (hb2.mono (by omega))).alloc (by omega) _).grown hgrow (by simp; omega) (fun j hj => (hown2.lt j hj).1)
      have hown4 : w3.ownsRow w.heap.size 23 3 v3 (k + 1) (flat (rowV zs (k + 1))) := by
        have e : flat (rowV zs (k + 1)) = flat (rowV zs k) ++ cl x := by rw [HN.out]; simp [flat]
        rw [e]
        exact hown3
      clear hown hown1 hown2 hown3 hb1 hb2 hgrow hbel
      go_wp2_with fail
      go_roundw
      case rel => exact ⟨k + 1, by omega, by go_num, hown4, hB⟩
      case measure => simp [intOf]; omega
    · obtain rfl : k = n := by omega
      go_wp2_with fail
      go_ret
      exact ⟨_, rfl, hown, hbel⟩

end Go.Proofs.Ytnmlbafhdnffgaa
