/-
  For every layer: 'append([]api.Value(nil), row...)', a new row with the same values: at a plain region's list, and at a step of a region that draws.
-/
import Derived.Test.YtdhhhmehkldliaaGEnts
import Derived.Maps.AppendAt
set_option linter.unusedVariables false
namespace Go.Proofs.Ytdhhhmehkldliaa
open Go.RowKit Wh

/-- The cells of values that came in. -/
theorem vals_news {w : World} {b off len : Nat} {vs : List V} (h : IsVals w (some ⟨b, off, none⟩) len vs) : ∀ j u, (flat3 (vs.map cV))[j]? = some u → w.cell? ((⟨b, off, none⟩ : Addr).add j) = some u := by
  intro j u hu
  have hadd : (⟨b, off, none⟩ : Addr).add j = ⟨b, off + j, none⟩ := by unfold Addr.add; split <;> simp_all
  rw [hadd]
  have hlt := (List.getElem?_eq_some_iff.1 hu).1
  rw [flat3_length, List.length_map] at hlt
  obtain ⟨c, hc⟩ : ∃ c, vs[j / 3]? = some c := ⟨_, List.getElem?_eq_getElem (by omega)⟩
  obtain ⟨f0, f1, f2⟩ := flat3_at (vs.map cV) (j / 3) (cV c) (by rw [List.getElem?_map, hc]; rfl)
  rcases h.2 with h0 | ⟨b', off', ha, _, hat⟩
  · rw [h0] at hc; simp at hc
  · cases ha
    obtain ⟨e0, e1, e2⟩ := hat _ _ hc
    have h3 : j % 3 = 0 ∨ j % 3 = 1 ∨ j % 3 = 2 := by omega
    rcases h3 with h3 | h3 | h3
    · rw [show j = j / 3 * 3 by omega] at hu ⊢
      rw [f0] at hu
      cases hu
      exact e0
    · rw [show j = j / 3 * 3 + 1 by omega] at hu ⊢
      rw [f1] at hu
      cases hu
      exact e1
    · rw [show j = j / 3 * 3 + 2 by omega] at hu ⊢
      rw [f2] at hu
      cases hu
      exact e2

theorem flat3_oneV (vs : List V) : ∀ u ∈ flat3 (vs.map cV), u.oneCell' = true := by
  intro u hu
  unfold flat3 at hu
  rw [List.mem_flatMap] at hu
  obtain ⟨t, ht, hu⟩ := hu
  obtain ⟨c, _, rfl⟩ := List.mem_map.1 ht
  simp only [cV, List.mem_cons, List.not_mem_nil, or_false] at hu
  rcases hu with rfl | rfl | rfl <;> rfl

theorem run_clone_vals {w : World} {ra : Option Addr} {rl rc : Nat} {r : List V} (ty : TypeId) (h : IsVals w ra rl r) (hn : ra = none → rc = 0) (hl : rl ≤ 1000000) :
    ∃ v' w', (Builtin.append_ #[28, 28] ty #[.slice none 0 0, .slice ra rl rc]).run Try.prog w = .ok v' w' ∧ w'.ownsRow w.heap.size 38 3 v' rl (flat3 (r.map cV)) ∧ w.grownBy w' none := by
  obtain ⟨i0, hi, hz0, hz1, hz2⟩ := info_parts info_val
  have hrl := h.1
  cases ra with
  | none =>
    obtain rfl := hn rfl
    obtain rfl : r = [] := by
      rcases h.2 with h | ⟨b, off, h, _⟩
      · exact h
      · cases h
    obtain rfl : rl = 0 := by simpa using hrl.symm
    refine ⟨_, w, run_append_owned_none (P := Try.prog) w w.heap.size 28 ty 38 i0 3 Try.underlying28 hi (.slice none 0 0) 0 [] (World.ownsRow_nil _ _ _ _), World.ownsRow_nil _ _ _ _, ⟨rfl, rfl, rfl, Nat.le_refl _, fun _ _ _ => rfl⟩⟩
  | some ad =>
    have hnews : ∀ j u, (flat3 (r.map cV))[j]? = some u → w.cell? (ad.add j) = some u := by
      rcases h.2 with h0 | ⟨b, off, h0, _⟩
      · intro j u hu; rw [h0] at hu; simp [flat3] at hu
      · cases h0; exact vals_news h
    obtain ⟨v', w', hr, h2, h3, _, _⟩ := run_append_own_at (P := Try.prog) w w.heap.size 28 ty 38 i0 _ 3 32 Try.underlying28 hi hz0 hz1 hz2 rfl (by decide) (.slice none 0 0) 0 [] (World.ownsRow_nil _ _ _ _) ad rl rc (flat3 (r.map cV)) (by rw [flat3_length, List.length_map, hrl]) hnews (flat3_oneV r) (by unfold maxLen; omega) (by omega) (Nat.le_refl _)
    refine ⟨v', w', hr, ?_, h3⟩
    simpa using h2

/-- A new row reads as its values, and lies apart from what was there before. -/
theorem clone_row {w : World} {base rl : Nat} {v : Value} {r : List V} (h : w.ownsRow base 38 3 v rl (flat3 (r.map cV))) (hl : r.length = rl) :
    IsRow w v r ∧ ∀ g : Option Nat, (∀ j, g = some j → j < base) → FarOf g v r := by
  obtain ⟨a, cap, rfl, h1, h2, h3, h4⟩ := own_rowv h hl
  refine ⟨⟨a, rl, cap, rfl, h1, h2, h3, fun ha => ?_⟩, fun g hg _ x n c hx hc => ?_⟩
  · subst ha
    rcases h.2 with ⟨he, _⟩ | ⟨g, c, cur, he, _⟩
    · cases he; rfl
    · cases he
  · cases hx
    obtain ⟨g', rfl, hb, _⟩ := h4 x rfl
    have := hg _ hc
    simp only at this
    omega

/-- .. at a step of a region that draws. -/
theorem step_clone {w : World} {ops : Array Oper} {o : Oper} {a : Act} {K : Act → World → Prop} {Q : Exit → Act → World → Prop} {E : Prop} (hgd : o.guard = none) (s x : Operand)
    (ho : o.op = .call { callee := .builtin .append, args := #[s, x], argTypes := #[28, 28] }) (hs : a.eval s = .slice none 0 0)
    {ra : Option Addr} {rl rc : Nat} {r : List V} (hx : a.eval x = .slice ra rl rc) (hv : IsVals w ra rl r) (hn : ra = none → rc = 0) (hl : rl ≤ 1000000)
    (h : ∀ v' w', w'.ownsRow w.heap.size 38 3 v' rl (flat3 (r.map cV)) → w.grownBy w' none → K (a.put o.dst v') w') :
    if Region.wanted o (yielded ops a.tmps) = true then Oper.wp Try.prog o a w K Q else E := by
  have hw : Region.wanted o (yielded ops a.tmps) = true := by simp [Region.wanted, hgd]
  rw [if_pos hw]
  obtain ⟨v', w', hr, h2, h3⟩ := run_clone_vals o.type hv hn hl
  unfold Oper.wp execOp
  simp only [ho, resolve, invoke, builtin, Sem.run_bind, Sem.run_pure, Result.andThen_ok, List.map_toArray, List.map_cons, List.map_nil, hs, hx, hr]
  exact h v' w' h2 h3

/-- .. at the list of a plain region's operations. -/
theorem wpList_clone {w : World} {ops : Array Oper} {rest : List Oper} {o : Oper} {a : Act} {Q : Exit → Act → World → Prop} (hgd : o.guard = none) (s x : Operand)
    (ho : o.op = .call { callee := .builtin .append, args := #[s, x], argTypes := #[28, 28] }) (hs : a.eval s = .slice none 0 0)
    {ra : Option Addr} {rl rc : Nat} {r : List V} (hx : a.eval x = .slice ra rl rc) (hv : IsVals w ra rl r) (hn : ra = none → rc = 0) (hl : rl ≤ 1000000)
    (h : ∀ v' w', w'.ownsRow w.heap.size 38 3 v' rl (flat3 (r.map cV)) → w.grownBy w' none → wpList Try.prog ops Q rest (a.put o.dst v') w') :
    wpList Try.prog ops Q (o :: rest) a w := by
  refine wpList_plain hgd fun K hK => ?_
  obtain ⟨v', w', hr, h2, h3⟩ := run_clone_vals o.type hv hn hl
  unfold Oper.wp execOp
  simp only [ho, resolve, invoke, builtin, Sem.run_bind, Sem.run_pure, Result.andThen_ok, List.map_toArray, List.map_cons, List.map_nil, hs, hx, hr]
  exact hK _ _ (h v' w' h2 h3)

end Go.Proofs.Ytdhhhmehkldliaa
