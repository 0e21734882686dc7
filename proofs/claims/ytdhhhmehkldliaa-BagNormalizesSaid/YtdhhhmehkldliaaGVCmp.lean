/-
  For every layer: the order of rows, as the reference has it (warehouseref1.Compare, CompareRows, SameRow).
-/
import Derived.Test.YtdhhhmehkldliaaGVal
import Derived.Test.YtdhhhmehkldliaaOrder
import Derived.Deep.RegionHeld3
set_option linter.unusedVariables false
namespace Go.Proofs.Ytdhhhmehkldliaa
open Go.RowKit Wh

theorem rnumbers_any (a b : Int) (w : World) :
    Calls Try.prog 72 #[.int .i64 a, .int .i64 b] w fun e w' => e = .returned (.int .i64 (cmpI a b)) ∧ w = w' := by
  go_enter Try.func72, Try.ntmps72
  go_wp2
  all_goals
    go_ret
    refine ⟨ret_int ?_, rfl⟩
    unfold cmpI
    (repeat' split) <;> omega

theorem rcompare_any (a b : V) (w : World) :
    Calls Try.prog 71 #[agg a.k a.n a.s, agg b.k b.n b.s] w fun e w' => e = .returned (.int .i64 (cmpV a b)) ∧ Below w.heap.size w w' := by
  obtain ⟨k, n, s⟩ := a
  obtain ⟨k', n', s'⟩ := b
  go_enter Try.func71, Try.ntmps71
  go_wp2_with (go_at_call 72; refine (rnumbers_any _ _ _).mono ?_; rintro e w' ⟨rfl, rfl⟩)
  all_goals
    go_ret
    refine ⟨ret_int ?_, ((Below.refl _ _).alloc (Nat.le_refl _) _).alloc (by simp) _⟩
    have hl := less_iff s.toList s'.toList
    have hz := cmpB_zero s.toList s'.toList
    have hv := cmpB_vals s.toList s'.toList
    simp_all [cmpV, cmpS, Lib.toList_data]

theorem cmpR_step {as1 as2 : List V} {k : Nat} {x y : V} (h1 : as1[k]? = some x) (h2 : as2[k]? = some y) :
    cmpR (as1.drop k) (as2.drop k) = if (cmpV x y == 0) = false then cmpV x y else cmpR (as1.drop (k + 1)) (as2.drop (k + 1)) := by
  have e1 : as1.drop k = x :: as1.drop (k + 1) := by
    have hk := (List.getElem?_eq_some_iff.1 h1)
    rw [List.drop_eq_getElem_cons hk.1, hk.2]
  have e2 : as2.drop k = y :: as2.drop (k + 1) := by
    have hk := (List.getElem?_eq_some_iff.1 h2)
    rw [List.drop_eq_getElem_cons hk.1, hk.2]
  rw [e1, e2]
  rfl

theorem cmpR_ends {as1 as2 : List V} {k : Nat} (h1 : as1.length = k) : cmpR (as1.drop k) (as2.drop k) = if k < as2.length then -1 else 0 := by
  rw [List.drop_of_length_le (by omega)]
  by_cases h : k < as2.length
  · rw [List.drop_eq_getElem_cons h, if_pos h]
    rfl
  · rw [List.drop_of_length_le (by omega), if_neg h]
    rfl

theorem cmpR_over {as1 as2 : List V} {k : Nat} (h1 : k < as1.length) (h2 : as2.length = k) : cmpR (as1.drop k) (as2.drop k) = 1 := by
  rw [List.drop_of_length_le (l := as2) (by omega), List.drop_eq_getElem_cons h1]
  rfl

theorem rcompare6 (k n : Int) (s : ByteArray) (k' n' : Int) (s' : ByteArray) (w : World) :
    Calls Try.prog 71 #[agg k n s, agg k' n' s'] w fun e w' => e = .returned (.int .i64 (cmpV ⟨k, n, s⟩ ⟨k', n', s'⟩)) ∧ Below w.heap.size w w' := rcompare_any ⟨k, n, s⟩ ⟨k', n', s'⟩ w

theorem keepCells {w W w' : World} {p0 p1 p2 p3 p4 p5 : Addr} {v0 v1 v2 v3 v4 v5 : Value}
    (h : W.cell? p0 = some v0 ∧ W.cell? p1 = some v1 ∧ W.cell? p2 = some v2 ∧ W.cell? p3 = some v3 ∧ W.cell? p4 = some v4 ∧ W.cell? p5 = some v5 ∧ Below w.heap.size w W) (hb : Below W.heap.size W w') :
    w'.cell? p0 = some v0 ∧ w'.cell? p1 = some v1 ∧ w'.cell? p2 = some v2 ∧ w'.cell? p3 = some v3 ∧ w'.cell? p4 = some v4 ∧ w'.cell? p5 = some v5 ∧ Below w.heap.size w w' := by
  obtain ⟨h0, h1, h2, h3, h4, h5, h6⟩ := h
  have hs := h6.size
  exact ⟨cell_later hb h0, cell_later hb h1, cell_later hb h2, cell_later hb h3, cell_later hb h4, cell_later hb h5, h6.trans (hb.mono hs)⟩

set_option maxHeartbeats 1000000 in
theorem rrows_any (a1 : Option Addr) (len1 cap1 : Nat) (as1 : List V) (a2 : Option Addr) (len2 cap2 : Nat) (as2 : List V) (w : World) (h1 : IsVals w a1 len1 as1) (h2 : IsVals w a2 len2 as2)
    (q1 : len1 ≤ 9223372036854775807) (q2 : len2 ≤ 9223372036854775807) :
    Calls Try.prog 45 #[.slice a1 len1 cap1, .slice a2 len2 cap2] w fun e w' => e = .returned (.int .i64 (cmpR as1 as2)) ∧ Below w.heap.size w w' := by
  obtain ⟨hl1, h1⟩ := h1
  obtain ⟨hl2, h2⟩ := h2
  have L1 := Lib.hid hl1
  have L2 := Lib.hid hl2
  clear hl1 hl2
  go_enter Try.func45, Try.ntmps45
  go_wp2_with fail
  go_loopw [5] (fun iv wr => ∃ k : Nat, k ≤ len1 ∧ k ≤ len2 ∧ iv = .int .i64 k ∧ Hid (cmpR as1 as2 = cmpR (as1.drop k) (as2.drop k)) ∧ Below w.heap.size w wr)
    (fun i _ => len1 - (intOf i).toNat)
  case atStart => exact ⟨0, Nat.zero_le _, Nat.zero_le _, rfl, rfl, Below.refl _ _⟩
  case round =>
    obtain ⟨k, hk1, hk2, rfl, HC, hbel⟩ := hrel
    have hs := hbel.size
    by_cases hlt : k < len1 ∧ k < len2
    · obtain ⟨hlt, hge⟩ := hlt
      rcases h1 with rfl | ⟨b1, off1, rfl, hb1, hat1⟩
      · exact absurd L1.out (by simp; omega)
      rcases h2 with rfl | ⟨b2, off2, rfl, hb2, hat2⟩
      · exact absurd L2.out (by simp; omega)
      obtain ⟨x, hx⟩ : ∃ v, as1[k]? = some v := ⟨_, List.getElem?_eq_getElem (by have := L1.out; omega)⟩
      obtain ⟨y, hy⟩ : ∃ v, as2[k]? = some v := ⟨_, List.getElem?_eq_getElem (by have := L2.out; omega)⟩
      obtain ⟨c0, c1, c2⟩ := (hat1.below hbel hb1) k x hx
      obtain ⟨d0, d1, d2⟩ := (hat2.below hbel hb2) k y hy
      have HS := Lib.hid (cmpR_step hx hy)
      have HA1 := Lib.hid hat1
      have HA2 := Lib.hid hat2
      clear hx hy hat1 hat2
      obtain ⟨xk, xn, xs⟩ := x
      obtain ⟨yk, yn, ys⟩ := y
      dsimp only at c0 c1 c2 d0 d1 d2
      have i1 : (k : Int) < len1 := by omega
      have i2 : (k : Int) < len2 := by omega
      have hS0 : wr.drew.cell? ⟨b1, off1 + k * 3, none⟩ = some (.int .i64 xk) ∧ wr.drew.cell? ⟨b1, off1 + k * 3 + 1, none⟩ = some (.int .i64 xn) ∧ wr.drew.cell? ⟨b1, off1 + k * 3 + 2, none⟩ = some (.string xs) ∧
          wr.drew.cell? ⟨b2, off2 + k * 3, none⟩ = some (.int .i64 yk) ∧ wr.drew.cell? ⟨b2, off2 + k * 3 + 1, none⟩ = some (.int .i64 yn) ∧ wr.drew.cell? ⟨b2, off2 + k * 3 + 2, none⟩ = some (.string ys) ∧ Below w.heap.size w wr.drew :=
        ⟨c0, c1, c2, d0, d1, d2, hbel.drew⟩
      go_wp2_with fail
      go_region_held3 (fun w' => w'.cell? ⟨b1, off1 + k * 3, none⟩ = some (.int .i64 xk) ∧ w'.cell? ⟨b1, off1 + k * 3 + 1, none⟩ = some (.int .i64 xn) ∧ w'.cell? ⟨b1, off1 + k * 3 + 2, none⟩ = some (.string xs) ∧
          w'.cell? ⟨b2, off2 + k * 3, none⟩ = some (.int .i64 yk) ∧ w'.cell? ⟨b2, off2 + k * 3 + 1, none⟩ = some (.int .i64 yn) ∧ w'.cell? ⟨b2, off2 + k * 3 + 2, none⟩ = some (.string ys) ∧ Below w.heap.size w w')
        (first | exact hS0 | exact keepCells (by assumption) (by assumption))
        (first | (go_at_call 71; refine (rcompare6 _ _ _ _ _ _ _).mono ?_; rintro e w' ⟨rfl, hb⟩))
      obtain ⟨_, _, _, _, _, _, hB⟩ := ‹_ ∧ _›
      generalize cmpV ⟨xk, xn, xs⟩ ⟨yk, yn, ys⟩ = c at HS ⊢
      clear hb hS0 hbel c0 c1 c2 d0 d1 d2
      by_cases hc : c = 0
      · subst hc
        have HN : Hid (cmpR as1 as2 = cmpR (as1.drop (k + 1)) (as2.drop (k + 1))) := by
          show _ = _
          rw [HC.out, HS.out]
          rfl
        go_wp2_with fail
        go_roundw
        case rel => exact ⟨k + 1, by omega, by omega, by go_num, HN, hB⟩
        case measure => simp [intOf]; omega
      · have hc1 : (c == 0) = false := by simpa using hc
        have hc2 : (c != 0) = true := by simpa using hc
        have HN : Hid (cmpR as1 as2 = c) := by
          show _ = _
          rw [HC.out, HS.out, if_pos hc1]
        go_wp2_with fail
        go_ret
        exact ⟨ret_int HN.out.symm, hB⟩
    · have HN : Hid (cmpR as1 as2 = cmpI len1 len2) := by
        show _ = _
        have e1 := L1.out
        have e2 := L2.out
        rw [HC.out]
        by_cases hk : k = len1
        · rw [cmpR_ends (by omega)]
          unfold cmpI
          by_cases hl : k < len2
          · rw [if_pos (by omega), if_pos (by omega)]
          · rw [if_neg (by omega), if_neg (by omega), if_neg (by omega)]
        · rw [cmpR_over (by omega) (by omega)]
          unfold cmpI
          rw [if_neg (by omega), if_pos (by omega)]
      by_cases hk : k < len1
      · have hk3 : ¬ k < len2 := fun h => hlt ⟨hk, h⟩
        clear hlt
        go_wp2_with fail
        refine (rnumbers_any _ _ _).mono ?_
        rintro e w1 ⟨rfl, rfl⟩
        go_wp2_with fail
        go_ret
        exact ⟨ret_int HN.out.symm, hbel⟩
      · clear hlt
        go_wp2_with fail
        refine (rnumbers_any _ _ _).mono ?_
        rintro e w1 ⟨rfl, rfl⟩
        go_wp2_with fail
        go_ret
        exact ⟨ret_int HN.out.symm, hbel⟩

theorem same_any (a1 : Option Addr) (len1 cap1 : Nat) (as1 : List V) (a2 : Option Addr) (len2 cap2 : Nat) (as2 : List V) (w : World) (h1 : IsVals w a1 len1 as1) (h2 : IsVals w a2 len2 as2)
    (q1 : len1 ≤ 9223372036854775807) (q2 : len2 ≤ 9223372036854775807) :
    Calls Try.prog 59 #[.slice a1 len1 cap1, .slice a2 len2 cap2] w fun e w' => e = .returned (.bool (cmpR as1 as2 == 0)) ∧ Below w.heap.size w w' := by
  go_enter Try.func59, Try.ntmps59
  go_wp2_with fail
  refine (rrows_any _ _ _ as1 _ _ _ as2 _ h1 h2 q1 q2).mono ?_
  rintro e w1 ⟨rfl, hb⟩
  go_wp2_with fail
  go_ret
  exact ⟨rfl, hb⟩

end Go.Proofs.Ytdhhhmehkldliaa
