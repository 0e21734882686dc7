/-
  More functions of the reference that only read bags: positive, IsTable, Size, Count, Same, two.
-/
import Derived.Test.YtdhhhmehkldliaaBRead
set_option linter.unusedVariables false
namespace Wh

theorem posB_no {es : List En} {i : Nat} {e : En} (h : es[i]? = some e) (hn : e.cnt ≤ 0) : posB es = false := by
  unfold posB
  rw [List.all_eq_false]
  exact ⟨e, List.mem_of_getElem? h, by simp; omega⟩
theorem posB_yes {es : List En} (h : ∀ (i : Nat) (e : En), es[i]? = some e → 0 < e.cnt) : posB es = true := by
  unfold posB
  rw [List.all_eq_true]
  intro e he
  obtain ⟨i, hi⟩ := List.mem_iff_getElem?.1 he
  simpa using h i e hi
theorem sumC_next {es : List En} {k : Nat} {e : En} (h : es[k]? = some e) : sumC (es.take (k + 1)) = sumC (es.take k) + e.cnt := by
  rw [List.take_add_one, h, sumC_append]
  simp [sumC]
theorem firstC_next {es : List En} {k : Nat} {e : En} (h : es[k]? = some e) (r : List V) : firstC (es.drop k) r = if cmpR e.row r = 0 then e.cnt else firstC (es.drop (k + 1)) r := by
  have hk := List.getElem?_eq_some_iff.1 h
  rw [List.drop_eq_getElem_cons hk.1, hk.2]
  rfl
/-- Are two lists of entries the same? -/
def sameB (a b : List En) : Bool := decide (a.length = b.length) && (List.range a.length).all fun i => match a[i]?, b[i]? with
  | some x, some y => decide (x.cnt = y.cnt) && decide (cmpR x.row y.row = 0)
  | _, _ => false
theorem sameB_iff {a b : List En} : sameB a b = true ↔ a = b := by
  unfold sameB
  rw [Bool.and_eq_true, decide_eq_true_eq, List.all_eq_true]
  constructor
  · rintro ⟨hl, h⟩
    apply List.ext_getElem?
    intro i
    by_cases hi : i < a.length
    · have := h i (List.mem_range.2 hi)
      obtain ⟨x, hx⟩ : ∃ x, a[i]? = some x := ⟨_, List.getElem?_eq_getElem hi⟩
      obtain ⟨y, hy⟩ : ∃ y, b[i]? = some y := ⟨_, List.getElem?_eq_getElem (by omega)⟩
      rw [hx, hy] at this ⊢
      simp only [Bool.and_eq_true, decide_eq_true_eq] at this
      obtain ⟨rx, cx⟩ := x
      obtain ⟨ry, cy⟩ := y
      simp only at this
      rw [this.1, (cmpR_zero rx ry).1 this.2]
    · rw [List.getElem?_eq_none (by omega), List.getElem?_eq_none (by omega)]
  · rintro rfl
    refine ⟨rfl, fun i hi => ?_⟩
    obtain ⟨x, hx⟩ : ∃ x, a[i]? = some x := ⟨_, List.getElem?_eq_getElem (List.mem_range.1 hi)⟩
    rw [hx]
    simp [(cmpR_zero x.row x.row).2 rfl]
theorem sameB_len {a b : List En} (h : ¬ a.length = b.length) : sameB a b = false := by unfold sameB; rw [decide_eq_false h]; rfl
theorem sameB_no {a b : List En} {k : Nat} {x y : En} (hx : a[k]? = some x) (hy : b[k]? = some y) (h : ¬ (x.cnt = y.cnt ∧ cmpR x.row y.row = 0)) : sameB a b = false := by
  cases hs : sameB a b with
  | false => rfl
  | true =>
    rw [sameB_iff.1 hs, hy] at hx
    cases hx
    exact absurd ⟨rfl, (cmpR_zero _ _).2 rfl⟩ h
theorem sameB_yes {a b : List En} (hl : a.length = b.length) (h : ∀ (k : Nat) (x y : En), a[k]? = some x → b[k]? = some y → x.cnt = y.cnt ∧ cmpR x.row y.row = 0) : sameB a b = true := by
  rw [sameB_iff]
  apply List.ext_getElem?
  intro i
  by_cases hi : i < a.length
  · obtain ⟨x, hx⟩ : ∃ x, a[i]? = some x := ⟨_, List.getElem?_eq_getElem hi⟩
    obtain ⟨y, hy⟩ : ∃ y, b[i]? = some y := ⟨_, List.getElem?_eq_getElem (by omega)⟩
    have := h i x y hx hy
    rw [hx, hy]
    obtain ⟨rx, cx⟩ := x
    obtain ⟨ry, cy⟩ := y
    simp only at this
    rw [this.1, (cmpR_zero rx ry).1 this.2]
  · rw [List.getElem?_eq_none (by omega), List.getElem?_eq_none (by omega)]

end Wh
namespace Go.Proofs.Ytdhhhmehkldliaa
open Go.RowKit Wh

theorem rpositive_any (a : Option Addr) (len cap : Nat) (es : List En) (w : World) (hs : IsEnts w a len es) (hl : len ≤ 9223372036854775807) :
    Calls Try.prog 53 #[.slice a len cap] w fun e w' => e = .returned (.bool (posB es)) ∧ w = w' := by
  have NO := Lib.hid (fun (i : Nat) (e : En) h hn => posB_no (es := es) (i := i) (e := e) h hn)
  have YE := Lib.hid (fun h => posB_yes (es := es) h)
  have HS := Lib.hid hs
  generalize posB es = E at *
  clear hs
  go_enter Try.func53, Try.ntmps53
  go_wp2_with fail
  go_loop [3] (fun iv => ∃ k : Nat, k ≤ len ∧ iv = .int .i64 k ∧ Hid (∀ (i : Nat) (e : En), i < k → es[i]? = some e → 0 < e.cnt)) (fun i => len - (intOf i).toNat)
  case atStart => exact ⟨0, Nat.zero_le _, rfl, fun i s hi => absurd hi (by omega)⟩
  case round =>
    obtain ⟨k, hk, rfl, HI⟩ := hrel
    by_cases hlt : k < len
    · obtain ⟨r, n, ra, rl, rc, b, off, hx, rfl, hbl, c0, c1, hv, g1, g2, g3⟩ := HS.out.at hlt
      have HX := Lib.hid hx
      clear hx hv
      by_cases hn : n ≤ 0
      · obtain rfl := NO.out k _ HX.out hn
        clear HI NO YE HX
        go_wp2_with fail
        go_ret
        exact ⟨rfl, rfl⟩
      · have HI2 : Hid (∀ (i : Nat) (e : En), i < k + 1 → es[i]? = some e → 0 < e.cnt) := fun i u hi hu => by
          by_cases e : i = k
          · subst e
            have := HX.out
            rw [hu] at this
            cases this
            show 0 < n
            omega
          · exact HI.out i u (by omega) hu
        have hn1 : 0 < n := by omega
        clear HI NO YE HX hn
        go_wp2_with fail
        go_round
        case rel => exact ⟨k + 1, by omega, by go_num, HI2⟩
        case measure => simp [intOf]; omega
    · obtain rfl := YE.out fun i s hi => HI.out i s (by have := (List.getElem?_eq_some_iff.1 hi).1; have := HS.out.1; omega) hi
      clear NO YE HI
      go_wp2_with fail
      go_ret
      exact ⟨rfl, rfl⟩

theorem risTable_any (a : Option Addr) (len cap : Nat) (es : List En) (w : World) (hs : IsEnts w a len es) (hl : len ≤ 9223372036854775807) :
    Calls Try.prog 20 #[.slice a len cap] w fun e w' => e = .returned (.bool (tableB es)) ∧ Below w.heap.size w w' := by
  have c1 := rvalidate_any6 a len cap es w hs hl
  have c2 := fun W (h : Below w.heap.size w W) => rpositive_any a len cap es W (hs.below h (Nat.le_refl _)) hl
  unfold tableB
  generalize bagE es = z at *
  generalize posB es = p at *
  have C1 := Lib.hid c1
  have C2 := Lib.hid c2
  clear c1 c2 hs
  by_cases hz : z = 0
  · subst hz
    go_enter Try.func20, Try.ntmps20
    go_wp2_with (first | (go_at_call 18; refine C1.out.mono ?_; rintro e w1 ⟨rfl, hb⟩) | (go_at_call 53; refine (C2.out _ hb).mono ?_; rintro e w2 ⟨rfl, rfl⟩))
    go_ret
    exact ⟨ret_bool (by simp), hb⟩
  · have hz0 : (z == 0) = false := by simpa using hz
    rw [decide_eq_false hz]
    clear hz
    go_enter Try.func20, Try.ntmps20
    go_wp2_with (first | (go_at_call 18; refine C1.out.mono ?_; rintro e w1 ⟨rfl, hb⟩))
    go_ret
    exact ⟨rfl, hb⟩

theorem rsize_any6 (a : Option Addr) (len cap : Nat) (es : List En) (w : World) (hs : IsEnts w a len es) (hl : len ≤ 9223372036854775807) :
    Calls Try.prog 16 #[.slice a len cap] w fun e w' => e = .returned (.tuple #[.int .i64 (sizeZ es), .int .i64 (bagE es)]) ∧ Below w.heap.size w w' := by
  have c1 := rvalidate_any6 a len cap es w hs hl
  by_cases hz : bagE es = 0
  · have ok := bagE_zero.1 hz
    rw [show sizeZ es = sumC es by unfold sizeZ; rw [if_pos hz]]
    rw [hz] at c1 ⊢
    have hln := hs.1
    have hbd : ∀ k, -268435456 ≤ sumC (es.take k) ∧ sumC (es.take k) ≤ 268435456 := fun k => by
      have h1 := sumC_bd (es := es.take k) fun e he => by
        have := fitE_zero (ok.fit e (List.mem_of_mem_take he))
        exact ⟨this.2.1, this.2.2.1⟩
      have h2 := ok.len
      have h3 : (es.take k).length ≤ es.length := by rw [List.length_take]; omega
      omega
    have hend : es.take len = es := List.take_of_length_le (by omega)
    have HBD := Lib.hid hbd
    have HEND := Lib.hid hend
    have HS := Lib.hid hs
    have C1 := Lib.hid c1
    clear c1 hz ok hs hln hbd hend
    go_enter Try.func16, Try.ntmps16
    go_wp2_with (first | (go_at_call 18; refine C1.out.mono ?_; rintro e w1 ⟨rfl, hb⟩))
    go_loopw [5, 6] (fun nv iv wr => ∃ k : Nat, k ≤ len ∧ iv = .int .i64 k ∧ nv = .int .i64 (sumC (es.take k)) ∧ wr = w1) (fun _ i _ => len - (intOf i).toNat)
    case atStart => exact ⟨0, Nat.zero_le _, rfl, by simp [sumC], rfl⟩
    case round =>
      obtain ⟨k, hk, rfl, rfl, rfl⟩ := hrel
      by_cases hlt : k < len
      · obtain ⟨r, n, ra, rl, rc, b, off, hx, rfl, hbl, c0, c1, hv, g1, g2, g3⟩ := (HS.out.below hb (Nat.le_refl _)).at hlt
        have hN := sumC_next hx
        have h1 := HBD.out (k + 1)
        rw [hN] at h1
        have HN := Lib.hid hN
        simp only at h1
        obtain ⟨h1a, h1b⟩ := h1
        generalize sumC (es.take k) = s at *
        clear hx hN hv
        go_wp2_with fail
        go_roundw
        case rel => exact ⟨k + 1, by omega, by go_num, by rw [HN.out], trivial⟩
        case measure => simp [intOf]; omega
      · obtain rfl : k = len := by omega
        have hS : Hid (sumC es = sumC (es.take k)) := by show _ = _; rw [HEND.out]
        go_wp2_with fail
        go_ret2
        exact ⟨by rw [hS.out]; rfl, hb⟩
  · rw [show sizeZ es = 0 by unfold sizeZ; rw [if_neg hz]]
    generalize bagE es = z at *
    have hz0 : (z == 0) = false := by simpa using hz
    have C1 := Lib.hid c1
    clear c1 hs hz
    go_enter Try.func16, Try.ntmps16
    go_wp2_with (first | (go_at_call 18; refine C1.out.mono ?_; rintro e w1 ⟨rfl, hb⟩))
    go_ret2
    exact ⟨rfl, hb⟩

theorem rcount_any (a : Option Addr) (len cap : Nat) (es : List En) (ra : Option Addr) (rl rc : Nat) (r : List V) (w : World) (hs : IsEnts w a len es) (hl : len ≤ 9223372036854775807) (hr : IsVals w ra rl r) (hrl : rl ≤ 9223372036854775807) :
    Calls Try.prog 27 #[.slice a len cap, .slice ra rl rc] w fun e w' => e = .returned (.int .i64 (firstC es r)) ∧ Below w.heap.size w w' := by
  generalize hE : firstC es r = E
  have HE := Lib.hid hE
  have HS := Lib.hid hs
  have HR := Lib.hid hr
  clear hs hr hE
  go_enter Try.func27, Try.ntmps27
  go_wp2_with fail
  go_loopw [5] (fun iv wr => ∃ k : Nat, k ≤ len ∧ iv = .int .i64 k ∧ Hid (firstC (es.drop k) r = E) ∧ Below w.heap.size w wr) (fun i _ => len - (intOf i).toNat)
  case atStart => exact ⟨0, Nat.zero_le _, rfl, HE.out, Below.refl _ _⟩
  case round =>
    obtain ⟨k, hk, rfl, HG, hbel⟩ := hrel
    have hsz := hbel.size
    by_cases hlt : k < len
    · obtain ⟨r', n, ra', rl', rc', b, off, hx, rfl, hbl, c0, c1, hv, g1, g2, g3⟩ := (HS.out.below hbel (Nat.le_refl _)).at hlt
      have HN := Lib.hid (firstC_next hx r)
      have mm : maxLen = 9223372036854775807 := rfl
      have cs := same_any ra' rl' rc' r' ra rl rc r wr hv (HR.out.below hbel (Nat.le_refl _)) (by omega) hrl
      simp only at HN
      generalize cmpR r' r = c at *
      have CS := Lib.hid cs
      clear hx hv cs mm
      by_cases hc : c = 0
      · have HR2 : Hid (E = n) := by show _ = _; rw [← HG.out, HN.out, if_pos hc]
        subst hc
        clear HN HG
        go_wp2_with (first | (go_at_call 59; refine CS.out.mono ?_; rintro e w1 ⟨rfl, hb⟩; have e1 := (bcell hb).1; rw [← e1 _ _ hbl] at c0 c1))
        go_ret
        exact ⟨ret_int HR2.out.symm, hbel.trans (hb.mono hsz)⟩
      · have HR2 : Hid (firstC (es.drop (k + 1)) r = E) := by show _ = _; rw [← HG.out, HN.out, if_neg hc]
        have hc0 : (c == 0) = false := by simpa using hc
        clear HN HG hc
        go_wp2_with (first | (go_at_call 59; refine CS.out.mono ?_; rintro e w1 ⟨rfl, hb⟩))
        go_roundw
        case rel => exact ⟨k + 1, by omega, by go_num, HR2, hbel.trans (hb.mono hsz)⟩
        case measure => simp [intOf]; omega
    · have HR2 : Hid (E = 0) := by show _ = _; rw [← HG.out, List.drop_of_length_le (by have := HS.out.1; omega)]; rfl
      clear HG
      go_wp2_with fail
      go_ret
      exact ⟨ret_int HR2.out.symm, hbel⟩

theorem rtwo_any (a : Option Addr) (len cap : Nat) (es : List En) (a2 : Option Addr) (len2 cap2 : Nat) (fs : List En) (w : World) (hs : IsEnts w a len es) (hl : len ≤ 9223372036854775807) (hs2 : IsEnts w a2 len2 fs) (hl2 : len2 ≤ 9223372036854775807) :
    Calls Try.prog 63 #[.slice a len cap, .slice a2 len2 cap2] w fun e w' => e = .returned (.int .i64 (twoE es fs)) ∧ Below w.heap.size w w' := by
  have c1 := rvalidate_any6 a len cap es w hs hl
  have c2 := fun W (h : Below w.heap.size w W) => rvalidate_any6 a2 len2 cap2 fs W (hs2.below h (Nat.le_refl _)) hl2
  unfold twoE
  generalize bagE es = z at *
  generalize bagE fs = y at *
  have C1 := Lib.hid c1
  have C2 := Lib.hid c2
  have d0 : Below w.heap.size w w := Below.refl _ _
  have t1 : True := trivial
  clear c1 c2 hs hs2
  by_cases hz : z = 0
  · rw [if_pos hz]
    subst hz
    go_enter Try.func63, Try.ntmps63
    go_wp2_with fail
    refine C1.out.mono ?_
    rintro e w1 ⟨rfl, hb⟩
    go_wp2_with fail
    refine (C2.out _ hb).mono ?_
    rintro e w2 ⟨rfl, hb2⟩
    go_wp2_with fail
    go_ret
    exact ⟨rfl, hb.trans (hb2.mono hb.size)⟩
  · rw [if_neg hz]
    have hz0 : (z == 0) = false := by simpa using hz
    clear hz
    go_enter Try.func63, Try.ntmps63
    go_wp2_with fail
    refine C1.out.mono ?_
    rintro e w1 ⟨rfl, hb⟩
    go_wp2_with fail
    go_ret
    exact ⟨rfl, hb⟩

end Go.Proofs.Ytdhhhmehkldliaa
