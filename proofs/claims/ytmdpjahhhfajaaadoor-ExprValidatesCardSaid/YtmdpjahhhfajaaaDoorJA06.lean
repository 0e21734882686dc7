/-
  Reserved, of the reference. · The reference's parser: begins. · For every layer that holds nodes: append of nodes that lie somewhere t · join and constant of the reference. · The reference's parser: what a function that reads leaves. · For every layer: values and rows of values in memory; value.Valid and 
-/
import Derived.Test.YtmdpjahhhfajaaaDoorJA05
import Derived.Test.YtmdpjahhhfajaaaDoorJA03
import Derived.Maps.AppendAt
import Derived.Laws.OwnMore
import Derived.Maps.Range
import Derived.Test.YtmdpjahhhfajaaaDoorRows
import Derived.Test.YtmdpjahhhfajaaaDoorJA04
import Derived.Test.YtmdpjahhhfajaaaDoorJA01
import Derived.WalkKit
import Derived.WalkLawsBesides
import Derived.WalkSpells
import Derived.BigQuiet
import Derived.Below
import Derived.Lib.Hide
import Derived.Lib.Bytealg
import Derived.LoopTactic
import Derived.OwnWalk
import Derived.Deep.QuietTactic
set_option linter.unusedVariables false
set_option maxRecDepth 100000
set_option linter.unusedSimpArgs false
namespace Go.Proofs.YtmdpjahhhfajaaaDoor
open Go.RowKit Wh
theorem hasB_res (s : ByteArray) : hasB resL s = resB s := rfl
set_option maxHeartbeats 1000000 in
theorem rreserved_any (s : ByteArray) (w : World) : Calls Tryd.prog 56 #[.string s] w fun e w' => e = .returned (.bool (resB s)) ∧ Below w.heap.size w w' := by
  go_enter Tryd.func56, Tryd.ntmps56
  go_wp2_with fail
  have HS : IsStrs (w.alloc (.cells #[.string ⟨#[97, 110, 100]⟩, .string ⟨#[111, 114]⟩, .string ⟨#[110, 111, 116]⟩, .string ⟨#[110, 117, 108, 108]⟩, .string ⟨#[116, 114, 117, 101]⟩, .string ⟨#[102, 97, 108, 115, 101]⟩, .string ⟨#[98, 121]⟩, .string ⟨#[115, 101, 108, 102]⟩] 9)) (some ⟨w.heap.size, 0, none⟩) 8 resL := by
    refine ⟨rfl, .inr ⟨w.heap.size, 0, rfl, by simp, fun i x hx => ?_⟩⟩
    have h1 : (resL.map Value.string)[i]? = some (.string x) := by rw [List.getElem?_map, hx]; rfl
    rw [Nat.zero_add]
    exact (cell_of_row _ _ i _ _ _ (heap_alloc_new w _)).trans (by rw [← Array.getElem?_toList]; exact h1)
  refine (has_any _ 8 8 resL s _ HS (by decide)).mono ?_
  rintro e w1 ⟨rfl, rfl⟩
  go_wp2_with fail
  go_ret
  exact ⟨by rw [hasB_res]; rfl, (Below.refl _ _).alloc (Nat.le_refl _) _⟩
end Go.Proofs.YtmdpjahhhfajaaaDoor
namespace Wh
open Go Go.Proofs.YtmdpjahhhfajaaaDoor
end Wh
namespace Go.Proofs.YtmdpjahhhfajaaaDoor
open Go.RowKit Wh
end Go.Proofs.YtmdpjahhhfajaaaDoor
namespace Go.Proofs.YtmdpjahhhfajaaaDoor
open Go.RowKit Wh
theorem nodes_news {w : World} {b off len : Nat} {ts : List Nd} (h : IsNodes w (some ⟨b, off, none⟩) len ts) : ∀ j u, (nodesL ts)[j]? = some u → w.cell? ((⟨b, off, none⟩ : Addr).add j) = some u := by
  intro j u hu
  have hadd : (⟨b, off, none⟩ : Addr).add j = ⟨b, off + j, none⟩ := by unfold Addr.add; split <;> simp_all
  rw [hadd]
  have hlt := (List.getElem?_eq_some_iff.1 hu).1
  rw [nodesL_length] at hlt
  obtain ⟨t, ht⟩ : ∃ t, ts[j / 6]? = some t := ⟨_, List.getElem?_eq_getElem (by omega)⟩
  obtain ⟨f0, f1, f2, f3, f4, f5⟩ := nodesL_at ts (j / 6) t ht
  rcases h.2 with h0 | ⟨b', off', ha, _, hat⟩
  · rw [h0] at ht; simp at ht
  · cases ha
    obtain ⟨e0, e1, e2, e3, e4, e5⟩ := hat _ _ ht
    have h6 : j % 6 = 0 ∨ j % 6 = 1 ∨ j % 6 = 2 ∨ j % 6 = 3 ∨ j % 6 = 4 ∨ j % 6 = 5 := by omega
    rcases h6 with h6 | h6 | h6 | h6 | h6 | h6
    · rw [show j = j / 6 * 6 by omega] at hu ⊢
      rw [f0] at hu; cases hu; exact e0
    · rw [show j = j / 6 * 6 + 1 by omega] at hu ⊢
      rw [f1] at hu; cases hu; exact e1
    · rw [show j = j / 6 * 6 + 2 by omega] at hu ⊢
      rw [f2] at hu; cases hu; exact e2
    · rw [show j = j / 6 * 6 + 3 by omega] at hu ⊢
      rw [f3] at hu; cases hu; exact e3
    · rw [show j = j / 6 * 6 + 4 by omega] at hu ⊢
      rw [f4] at hu; cases hu; exact e4
    · rw [show j = j / 6 * 6 + 5 by omega] at hu ⊢
      rw [f5] at hu; cases hu; exact e5
theorem nodes_one (ts : List Nd) : ∀ u ∈ nodesL ts, u.oneCell' = true := by
  intro u hu
  unfold nodesL at hu
  rw [List.mem_flatMap] at hu
  obtain ⟨t, ht, hu⟩ := hu
  simp only [c6, List.mem_cons, List.not_mem_nil, or_false] at hu
  rcases hu with rfl | rfl | rfl | rfl | rfl | rfl <;> rfl
theorem run_app_nodes {w : World} {base n : Nat} {v : Value} {l : List Nd} {ra : Option Addr} {rl rc : Nat} {r : List Nd} (ty : TypeId) (hown : w.ownsRow base 26 6 v n (nodesL l)) (hb : base ≤ w.heap.size) (h : IsNodes w ra rl r) (hn : ra = none → rc = 0) (hl : rl ≤ 1000000) (hnn : n ≤ 1000000) :
    ∃ v' w', (Builtin.append_ #[22, 22] ty #[v, .slice ra rl rc]).run Tryd.prog w = .ok v' w' ∧ w'.ownsRow base 26 6 v' (n + rl) (nodesL (l ++ r)) ∧ w.grownBy w' v.ownBlock := by
  obtain ⟨i0, hi, hz0, hz1, hz2⟩ := info_parts info_node
  have hrl := h.1
  cases ra with
  | none =>
    obtain rfl := hn rfl
    obtain rfl : r = [] := by
      rcases h.2 with h | ⟨b, off, h, _⟩
      · exact h
      · cases h
    obtain rfl : rl = 0 := by simpa using hrl.symm
    refine ⟨v, w, run_append_owned_none (P := Tryd.prog) w base 22 ty 26 i0 6 Tryd.underlying22 hi v n _ hown, ?_, ⟨rfl, rfl, rfl, Nat.le_refl _, fun _ _ _ => rfl⟩⟩
    simpa using hown
  | some ad =>
    have hnews : ∀ j u, (nodesL r)[j]? = some u → w.cell? (ad.add j) = some u := by
      rcases h.2 with h0 | ⟨b, off, h0, _⟩
      · intro j u hu; rw [h0] at hu; simp [nodesL] at hu
      · cases h0; exact nodes_news h
    obtain ⟨v', w', hr, h2, h3, _, _⟩ := run_append_own_at (P := Tryd.prog) w base 22 ty 26 i0 _ 6 64 Tryd.underlying22 hi hz0 hz1 hz2 rfl (by decide) v n (nodesL l) hown ad rl rc (nodesL r) (by rw [nodesL_length, hrl]) hnews (nodes_one r) (by unfold maxLen; omega) (by omega) hb
    refine ⟨v', w', hr, ?_, h3⟩
    rw [nodesL_app]
    exact h2
theorem wpList_app {w : World} {ops : Array Oper} {rest : List Oper} {o : Oper} {a : Act} {Q : Exit → Act → World → Prop} (hgd : o.guard = none) (s x : Operand)
    (ho : o.op = .call { callee := .builtin .append, args := #[s, x], argTypes := #[22, 22] }) {base n : Nat} {v : Value} {l : List Nd} (hs : a.eval s = v)
    {ra : Option Addr} {rl rc : Nat} {r : List Nd} (hx : a.eval x = .slice ra rl rc) (hown : w.ownsRow base 26 6 v n (nodesL l)) (hb : base ≤ w.heap.size) (hv : IsNodes w ra rl r) (hn : ra = none → rc = 0) (hl : rl ≤ 1000000) (hnn : n ≤ 1000000)
    (h : ∀ v' w', w'.ownsRow base 26 6 v' (n + rl) (nodesL (l ++ r)) → w.grownBy w' v.ownBlock → wpList Tryd.prog ops Q rest (a.put o.dst v') w') :
    wpList Tryd.prog ops Q (o :: rest) a w := by
  refine wpList_plain hgd fun K hK => ?_
  obtain ⟨v', w', hr, h2, h3⟩ := run_app_nodes o.type hown hb hv hn hl hnn
  unfold Oper.wp execOp
  simp only [ho, resolve, invoke, builtin, Sem.run_bind, Sem.run_pure, Result.andThen_ok, List.map_toArray, List.map_cons, List.map_nil, hs, hx, hr]
  exact hK _ _ (h v' w' h2 h3)
end Go.Proofs.YtmdpjahhhfajaaaDoor
namespace Go.Proofs.YtmdpjahhhfajaaaDoor
open Go.RowKit Wh
end Go.Proofs.YtmdpjahhhfajaaaDoor
namespace Go.Proofs.YtmdpjahhhfajaaaDoor
open Go.RowKit Wh
structure TkH (ts : List TA) (a : Option Addr) (len : Nat) : Prop where
  el : EndT ts
  ln : ts.length = len
  le : len ≤ 100000
  nm : ∀ i, i < len → (tkA ts i).1.k = 2 → 0 ≤ (tkA ts i).1.nm ∧ (tkA ts i).1.nm ≤ 1073741824
theorem TkH.get {ts : List TA} {a : Option Addr} {len : Nat} (h : TkH ts a len) (i : Nat) : ts[min i (len - 1)]? = some (tkA ts i) := by
  have := tkA_get h.el.1 i
  rwa [h.ln] at this
theorem TkH.one {ts : List TA} {a : Option Addr} {len : Nat} (h : TkH ts a len) : 1 ≤ len := by
  have := h.el.1
  rwa [h.ln] at this
theorem TkH.next {ts : List TA} {a : Option Addr} {len : Nat} (h : TkH ts a len) {k : Nat} (hk : k < len) (h0 : ¬ (tkA ts k).1.k = 0) : k + 1 < len := by
  have := (h.el.2 k (by rw [h.ln]; exact hk)).2
  rw [h.ln] at this
  by_cases h' : k + 1 = len
  · exact absurd (this h') h0
  · omega
end Go.Proofs.YtmdpjahhhfajaaaDoor
namespace Go.Proofs.YtmdpjahhhfajaaaDoor
open Go.RowKit Wh
abbrev agg (k n : Int) (s : ByteArray) : Value := .agg #[.int .i64 k, .int .i64 n, .string s]
theorem valid_any (k n : Int) (s : ByteArray) (w : World) :
    Calls Tryd.prog 37 #[agg k n s] w fun e w' => e = .returned (.bool (validB k n s)) ∧ Below w.heap.size w w' := by
  go_enter Tryd.func37, Tryd.ntmps37
  go_wp2
  all_goals
    go_ret
    refine ⟨ret_bool ?_, (Below.refl _ _).alloc (Nat.le_refl _) _⟩
    simp_all [validB]
    try omega
theorem rvalid_any (k n : Int) (s : ByteArray) (w : World) :
    Calls Tryd.prog 41 #[agg k n s] w fun e w' => e = .returned (.bool (validB k n s)) ∧ Below w.heap.size w w' := by
  go_enter Tryd.func41, Tryd.ntmps41
  go_wp2
  all_goals
    go_ret
    refine ⟨ret_bool ?_, (Below.refl _ _).alloc (Nat.le_refl _) _⟩
    simp_all [validB]
    try omega
def ValsAt (w : World) (b off : Nat) (vs : List V) : Prop :=
  ∀ i v, vs[i]? = some v → w.cell? ⟨b, off + i * 3, none⟩ = some (.int .i64 v.k) ∧ w.cell? ⟨b, off + i * 3 + 1, none⟩ = some (.int .i64 v.n) ∧ w.cell? ⟨b, off + i * 3 + 2, none⟩ = some (.string v.s)
def IsVals (w : World) (a : Option Addr) (len : Nat) (vs : List V) : Prop :=
  vs.length = len ∧ (vs = [] ∨ ∃ b off, a = some ⟨b, off, none⟩ ∧ b < w.heap.size ∧ ValsAt w b off vs)
theorem ValsAt.below {w w' : World} {b off B : Nat} {vs : List V} (h : ValsAt w b off vs) (hb : Below B w w') (hB : b < B) : ValsAt w' b off vs := by
  intro i v hv
  have e : ∀ o, w'.cell? ⟨b, o, none⟩ = w.cell? ⟨b, o, none⟩ := fun o => hb.cell (p := ⟨b, o, none⟩) hB
  rw [e, e, e]
  exact h i v hv
theorem IsVals.below {w w' : World} {a : Option Addr} {len B : Nat} {vs : List V} (h : IsVals w a len vs) (hb : Below B w w') (hB : w.heap.size ≤ B) : IsVals w' a len vs := by
  obtain ⟨h1, h2⟩ := h
  refine ⟨h1, ?_⟩
  rcases h2 with h2 | ⟨b, off, ha, hlt, hc⟩
  · exact .inl h2
  · exact .inr ⟨b, off, ha, by have := hb.size; omega, hc.below hb (by omega)⟩
theorem IsVals.at {w : World} {a : Option Addr} {len : Nat} {vs : List V} (h : IsVals w a len vs) {k : Nat} (hk : k < len) :
    ∃ kd n s b off, vs[k]? = some ⟨kd, n, s⟩ ∧ a = some ⟨b, off, none⟩ ∧ b < w.heap.size ∧ w.cell? ⟨b, off + k * 3, none⟩ = some (.int .i64 kd) ∧ w.cell? ⟨b, off + k * 3 + 1, none⟩ = some (.int .i64 n) ∧ w.cell? ⟨b, off + k * 3 + 2, none⟩ = some (.string s) := by
  obtain ⟨h1, h2⟩ := h
  obtain ⟨⟨kd, n, s⟩, hs⟩ : ∃ s, vs[k]? = some s := ⟨_, List.getElem?_eq_getElem (by omega)⟩
  rcases h2 with rfl | ⟨b, off, ha, hlt, hc⟩
  · simp at hs
  · exact ⟨kd, n, s, b, off, hs, ha, hlt, (hc k _ hs).1, (hc k _ hs).2.1, (hc k _ hs).2.2⟩
end Go.Proofs.YtmdpjahhhfajaaaDoor
