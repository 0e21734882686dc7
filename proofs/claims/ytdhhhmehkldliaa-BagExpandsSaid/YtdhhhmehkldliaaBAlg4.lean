/-
  The algebra of Expand, plainly: the rows of a table, each as often as it counts. No program.
-/
import Derived.Test.YtdhhhmehkldliaaBAlg2
import Derived.Test.YtdhhhmehkldliaaBExp
set_option linter.unusedVariables false
namespace Wh
open Go

/-- An entry of count one for each row. -/
def onesL (rs : List (List V)) : List En := rs.map fun r => ⟨r, 1⟩
theorem onesL_length (rs : List (List V)) : (onesL rs).length = rs.length := List.length_map _
theorem onesL_next {rs : List (List V)} {k : Nat} {r : List V} (h : rs[k]? = some r) : onesL (rs.take (k + 1)) = onesL (rs.take k) ++ [⟨r, 1⟩] := by
  unfold onesL
  rw [List.take_add_one, h, List.map_append]
  rfl
theorem onesL_append (a b : List (List V)) : onesL (a ++ b) = onesL a ++ onesL b := List.map_append
theorem cntL_rep (r q : List V) : ∀ n : Nat, cntL (onesL (List.replicate n r)) q = if cmpR r q = 0 then (n : Int) else 0
  | 0 => by simp [onesL, cntL]
  | n + 1 => by
    have ih := cntL_rep r q n
    rw [List.replicate_succ]
    show (if cmpR r q = 0 then (1 : Int) else 0) + cntL (onesL (List.replicate n r)) q = _
    rw [ih]
    by_cases h : cmpR r q = 0
    · rw [if_pos h, if_pos h, if_pos h]; omega
    · rw [if_neg h, if_neg h, if_neg h]; rfl
theorem cntL_exp {es : List En} (h : ∀ e ∈ es, 0 < e.cnt) (q : List V) : cntL (onesL (expL es)) q = cntL es q := by
  induction es with
  | nil => rfl
  | cons e es ih =>
    have h1 := h e List.mem_cons_self
    have ih := ih fun x hx => h x (List.mem_cons_of_mem _ hx)
    show cntL (onesL (List.replicate e.cnt.toNat e.row ++ expL es)) q = (if cmpR e.row q = 0 then e.cnt else 0) + cntL es q
    rw [onesL_append, cntL_append, cntL_rep, ih]
    by_cases h : cmpR e.row q = 0
    · rw [if_pos h, if_pos h]; omega
    · rw [if_neg h, if_neg h]
theorem exp_bag {es : List En} (h : BagP es) (hp : ∀ e ∈ es, 0 < e.cnt) : bagL (onesL (expL es)) = es := by
  have := bagL_perm (a := onesL (expL es)) (b := es) fun r => cntL_exp hp r
  rw [this, bagL_self h]
theorem expL_mem {es : List En} {r : List V} (h : r ∈ expL es) : ∃ e ∈ es, e.row = r := by
  unfold expL at h
  obtain ⟨e, he, hr⟩ := List.mem_flatMap.1 h
  exact ⟨e, he, (List.eq_of_mem_replicate hr).symm⟩
theorem rep_asc (r : List V) : ∀ n : Nat, (List.replicate n r).Pairwise fun x y => cmpR x y ≤ 0
  | 0 => List.Pairwise.nil
  | n + 1 => by
    rw [List.replicate_succ]
    refine List.pairwise_cons.2 ⟨fun x hx => ?_, rep_asc r n⟩
    rw [List.eq_of_mem_replicate hx, cmpR_self]
    exact Int.le_refl 0
theorem exp_asc {es : List En} (h : Asc es) : (expL es).Pairwise fun x y => cmpR x y ≤ 0 := by
  induction es with
  | nil => exact List.Pairwise.nil
  | cons e es ih =>
    obtain ⟨h1, h2⟩ := List.pairwise_cons.1 h
    show (List.replicate e.cnt.toNat e.row ++ expL es).Pairwise _
    refine List.pairwise_append.2 ⟨rep_asc _ _, ih h2, fun x hx y hy => ?_⟩
    obtain ⟨z, hz, rfl⟩ := expL_mem hy
    rw [List.eq_of_mem_replicate hx]
    have := h1 z hz
    omega
theorem exp_step {es : List En} (h : Asc es) {k : Nat} {a b : List V} (ha : (expL es)[k]? = some a) (hb : (expL es)[k + 1]? = some b) : cmpR a b ≤ 0 := by
  obtain ⟨i1, rfl⟩ := List.getElem?_eq_some_iff.1 ha
  obtain ⟨i2, rfl⟩ := List.getElem?_eq_some_iff.1 hb
  exact List.pairwise_iff_getElem.1 (exp_asc h) k (k + 1) i1 i2 (by omega)
theorem Tb.sum {es : List En} {L : Nat} {S : Int} (h : Tb es L S) : sumC es ≤ S := by
  have h1 := h.pos
  have h2 := h.sm.abs
  clear h
  have : sumC es ≤ absS es := by
    clear h2
    induction es with
    | nil => exact Int.le_refl _
    | cons e es ih =>
      have h3 := h1 e List.mem_cons_self
      have h4 := ih fun x hx => h1 x (List.mem_cons_of_mem _ hx)
      simp only [sumC, absS]
      split <;> omega
  omega
theorem exp_tb {es : List En} {L : Nat} {S : Int} (h : Tb es L S) (hL : L ≤ 4096) (hS : S ≤ 4096) : expOut es = (expL es, 0) := by
  have ok := h.sm.ok hL (by omega)
  unfold expOut
  rw [bagE_zero.2 ok, if_neg (by omega), if_neg (by rw [h.posB]; simp), if_neg (by have := h.sum; omega)]
theorem exp_norm {es : List En} {L : Nat} {S : Int} (h : Tb es L S) (hL : L ≤ 4096) (hS : S ≤ 4096) : normOut (onesL (expL es)) = (es, 0) := by
  have hf : fitsE (onesL (expL es)) = 0 := fitsE_of fun e he => by
    obtain ⟨r, hr, rfl⟩ := List.mem_map.1 he
    obtain ⟨x, hx, rfl⟩ := expL_mem hr
    obtain ⟨a1, a2⟩ := h.sm.rows x hx
    unfold fitE
    rw [if_neg (by
      rintro (hq | hq)
      · exact absurd hq (by show ¬ 12 < x.row.length; omega)
      · exact absurd hq (by show ¬ smallB 1 = false; decide)), if_pos a2]
  unfold normOut sumOut
  rw [if_pos hf]
  have hn : nzL (sortL (onesL (expL es))) = es := exp_bag h.sm.bag h.pos
  unfold resOut
  rw [hn, if_pos ⟨Nat.le_trans h.sm.len hL, fun e he => by
    have e1 := absS_mem he
    have e2 := h.sm.abs
    exact smallB_true.2 (by omega)⟩]

end Wh
