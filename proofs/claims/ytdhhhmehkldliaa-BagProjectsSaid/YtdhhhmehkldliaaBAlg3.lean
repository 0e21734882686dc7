/-
  Projecting and selecting small bags, plainly: both commute with addition. No walk of the program.
-/
import Derived.Test.YtdhhhmehkldliaaBLKit
import Derived.Test.YtdhhhmehkldliaaBPPick
set_option linter.unusedVariables false
namespace Go.Proofs.Ytdhhhmehkldliaa
open Go.RowKit Wh

/-- The counts of the rows for which p holds, together. -/
def pcnt (p : List V → Bool) : List En → Int
  | [] => 0
  | e :: es => (if p e.row = true then e.cnt else 0) + pcnt p es
theorem pcnt_append (p : List V → Bool) (a b : List En) : pcnt p (a ++ b) = pcnt p a + pcnt p b := by
  induction a with
  | nil => simp [pcnt]
  | cons e a ih => simp only [List.cons_append, pcnt, ih]; omega
theorem pcnt_merge (p : List V → Bool) : ∀ (n : Nat) (a b : List En), a.length + b.length ≤ n → pcnt p (mergeL a b) = pcnt p a + pcnt p b
  | _, [], b, _ => by rw [mergeL_nil]; simp [pcnt]
  | _, x :: a, [], _ => by rw [mergeL_none]; simp [pcnt]
  | 0, x :: a, y :: b, h => by simp at h
  | n + 1, x :: a, y :: b, h => by
    simp only [List.length_cons] at h
    rw [mergeL_cons]
    split
    · simp only [pcnt]
      rw [pcnt_merge p n a (y :: b) (by simp; omega)]
      simp only [pcnt]
      omega
    · split
      · simp only [pcnt]
        rw [pcnt_merge p n (x :: a) b (by simp; omega)]
        simp only [pcnt]
        omega
      · have e := (cmpR_zero x.row y.row).1 (by have := cmpR_vals x.row y.row; omega)
        simp only [pcnt]
        rw [pcnt_merge p n a b (by omega), e]
        split <;> omega
theorem pcnt_sort (p : List V → Bool) : ∀ (n : Nat) (l : List En), l.length ≤ n → pcnt p (sortL l) = pcnt p l := by
  intro n
  induction n with
  | zero => intro l h; rw [sortL_small (by omega)]
  | succ n ih =>
    intro l h
    by_cases h2 : l.length < 2
    · rw [sortL_small h2]
    · rw [sortL_halves h2, pcnt_merge p _ _ _ (Nat.le_refl _), ih _ (by rw [List.length_take]; omega), ih _ (by rw [List.length_drop]; omega), ← pcnt_append, List.take_append_drop]
theorem pcnt_nz (p : List V → Bool) (l : List En) : pcnt p (nzL l) = pcnt p l := by
  unfold nzL
  induction l with
  | nil => rfl
  | cons e l ih =>
    by_cases h : e.cnt = 0
    · rw [List.filter_cons_of_neg (by simp [h]), ih]
      simp only [pcnt, h]
      split <;> omega
    · rw [List.filter_cons_of_pos (by simp [h])]
      simp only [pcnt, ih]
theorem pcnt_bag (p : List V → Bool) (l : List En) : pcnt p (bagL l) = pcnt p l := by
  unfold bagL
  rw [pcnt_nz, pcnt_sort p _ l (Nat.le_refl _)]
theorem cntL_proj (es : List En) (iz : List Int) (r : List V) : cntL (projL es iz) r = pcnt (fun q => decide (cmpR (pickV q iz) r = 0)) es := by
  unfold projL
  induction es with
  | nil => rfl
  | cons e es ih => simp only [List.map_cons, cntL, pcnt, ih, decide_eq_true_eq]

theorem okRow_mem {r : List V} (h : okRow r = true) {v : V} (hv : v ∈ r) : validB v.k v.n v.s = true := by
  unfold okRow at h
  rw [List.all_eq_true] at h
  exact h v hv
theorem okRow_pick {r : List V} (h : okRow r = true) (iz : List Int) : okRow (pickV r iz) = true := by
  refine okRow_yes fun i v hv => ?_
  unfold pickV at hv
  rw [List.getElem?_map] at hv
  obtain ⟨z, _, rfl⟩ := Option.map_eq_some_iff.1 hv
  unfold pickOV
  split
  · rename_i hz
    have hlt : z.toNat < r.length := by omega
    rw [show r.getD z.toNat vNull = r[z.toNat] by simp [List.getD, List.getElem?_eq_getElem hlt]]
    exact okRow_mem h (List.getElem_mem hlt)
  · exact valid_null

theorem bag_sm {l : List En} {L : Nat} {S : Int} (rows : ∀ e ∈ l, e.row.length ≤ 12 ∧ okRow e.row = true) (len : l.length ≤ L) (abs : absS l ≤ S) : Sm (bagL l) L S where
  bag := bagL_bag _
  rows := fun e he => by
    obtain ⟨x, hx, hr⟩ := sortL_mem _ _ (Nat.le_refl _) e (nzL_mem he).1
    rw [← hr]
    exact rows x hx
  len := by
    have := bagL_length l
    omega
  abs := by
    have e1 := absS_nz (sortL l)
    have e2 := absS_sort _ l (Nat.le_refl _)
    unfold bagL
    omega
theorem proj_bag {es : List En} {L : Nat} {S : Int} (h : Sm es L S) {iz : List Int} (hi : iz.length ≤ 12) : Sm (bagL (projL es iz)) L S :=
  bag_sm (fun e he => by
    unfold projL at he
    obtain ⟨x, hx, rfl⟩ := List.mem_map.1 he
    exact ⟨by rw [pickV_length]; exact hi, okRow_pick (h.rows x hx).2 iz⟩) (by rw [projL_length]; exact h.len) (by rw [projL_abs]; exact h.abs)
theorem res_sm {es : List En} {L : Nat} {S : Int} (h : Sm es L S) (hL : L ≤ 4096) (hS : S ≤ 65536) : resP es = (es, 0) :=
  resP_good (Nat.le_trans h.len hL) fun e he => by
    have e1 := absS_mem he
    have e2 := h.abs
    exact smallB_true.2 (by omega)
theorem proj_sm {es : List En} {L : Nat} {S : Int} (h : Sm es L S) {iz : List Int} (hi : iz.length ≤ 12) (hL : L ≤ 4096) (hS : S ≤ 65536) : projOut es iz = (bagL (projL es iz), 0) := by
  unfold projOut
  rw [if_pos (bagE_zero.2 (h.ok hL hS)), if_neg (by omega), sumOut_eq]
  exact res_sm (proj_bag h hi) hL hS
theorem proj_join (X Y : List En) (iz : List Int) : bagL (bagL (projL X iz) ++ bagL (projL Y iz)) = bagL (projL (bagL (X ++ Y)) iz) :=
  bagL_perm fun r => by rw [cntL_append, bagL_cnt, bagL_cnt, cntL_proj, cntL_proj, cntL_proj, pcnt_bag, pcnt_append]

theorem abs_filter (q : En → Bool) (l : List En) : absS (l.filter q) ≤ absS l := by
  induction l with
  | nil => simp [absS]
  | cons e l ih =>
    cases hq : q e with
    | true =>
      rw [List.filter_cons_of_pos hq]
      simp only [absS]
      omega
    | false =>
      rw [List.filter_cons_of_neg (by simp [hq])]
      simp only [absS]
      split <;> omega
theorem sel_bag {es : List En} {L : Nat} {S : Int} (h : Sm es L S) (iz : List Int) (key : List V) : Sm (selL es iz key) L S where
  bag := ⟨List.Pairwise.filter _ h.bag.asc, fun e he => h.bag.nz e (List.mem_filter.1 he).1⟩
  rows := fun e he => h.rows e (List.mem_filter.1 he).1
  len := Nat.le_trans (selL_length es iz key) h.len
  abs := Int.le_trans (abs_filter _ _) h.abs
theorem sel_sm {es : List En} {L : Nat} {S : Int} (h : Sm es L S) (iz : List Int) (key : List V) (hL : L ≤ 4096) (hS : S ≤ 65536) : selOut es iz key = (selL es iz key, 0) := by
  unfold selOut
  rw [if_pos (bagE_zero.2 (h.ok hL hS)), resOut_eq, selL_nz h.bag.nz]
  exact res_sm (sel_bag h iz key) hL hS
theorem cntL_sel (es : List En) (iz : List Int) (key r : List V) : cntL (selL es iz key) r = if hitB iz key r = true then cntL es r else 0 := by
  unfold selL
  induction es with
  | nil => simp [cntL]
  | cons e es ih =>
    by_cases hc : cmpR e.row r = 0
    · have he := (cmpR_zero _ _).1 hc
      by_cases hh : hitB iz key r = true
      · rw [List.filter_cons_of_pos (by rw [he]; exact hh)]
        simp only [cntL, ih, if_pos hh]
      · rw [List.filter_cons_of_neg (by rw [he]; exact hh), ih, if_neg hh, if_neg hh]
    · by_cases hh : hitB iz key e.row = true
      · rw [List.filter_cons_of_pos (by exact hh)]
        simp only [cntL, ih, if_neg hc]
        split <;> omega
      · rw [List.filter_cons_of_neg (by exact hh), ih]
        simp only [cntL, if_neg hc]
        split <;> omega
theorem sel_join {X Y : List En} {L1 L2 : Nat} {S1 S2 : Int} (h1 : Sm X L1 S1) (h2 : Sm Y L2 S2) (iz : List Int) (key : List V) : bagL (selL X iz key ++ selL Y iz key) = selL (bagL (X ++ Y)) iz key := by
  refine bag_ext (bagL_bag _) (sel_bag (h1.join h2) iz key).bag fun r => ?_
  rw [bagL_cnt, cntL_append, cntL_sel, cntL_sel, cntL_sel, bagL_cnt, cntL_append]
  split <;> omega

end Go.Proofs.Ytdhhhmehkldliaa
