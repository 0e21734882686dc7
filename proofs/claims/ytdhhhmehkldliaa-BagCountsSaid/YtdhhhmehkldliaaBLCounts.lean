/-
  BagCounts: its walk. The counts determine a bag.
-/
import Derived.Test.YtdhhhmehkldliaaBLKit
set_option linter.unusedVariables false
set_option maxRecDepth 100000
namespace Wh

/-- Have the first k entries of A their counts in B? -/
def allB (A B : List En) (k : Nat) : Bool := (A.take k).all fun e => decide (firstC B e.row = e.cnt)
theorem allB_next {A B : List En} {k : Nat} {e : En} (h : A[k]? = some e) : allB A B (k + 1) = (allB A B k && decide (firstC B e.row = e.cnt)) := by
  unfold allB
  rw [List.take_add_one, h, List.all_append]
  simp
theorem firstC_cnt : ∀ {l : List En}, Asc l → ∀ r, firstC l r = cntL l r
  | [], _, _ => rfl
  | e :: l, h, r => by
    obtain ⟨h1, h2⟩ := List.pairwise_cons.1 h
    unfold firstC cntL
    by_cases hc : cmpR e.row r = 0
    · have he := (cmpR_zero _ _).1 hc
      have : cntL l r = 0 := cntL_zero fun x hx => by
        have := h1 x hx
        rw [he] at this
        have := cmpR_neg r x.row
        omega
      rw [if_pos hc, if_pos hc, this]
      omega
    · rw [if_neg hc, if_neg hc, firstC_cnt h2 r]
      omega
theorem firstC_self {l : List En} (h : Asc l) {e : En} (he : e ∈ l) : cntL l e.row = e.cnt := by
  induction l with
  | nil => cases he
  | cons x l ih =>
    obtain ⟨h1, h2⟩ := List.pairwise_cons.1 h
    unfold cntL
    rcases List.mem_cons.1 he with rfl | he
    · have : cntL l e.row = 0 := cntL_zero fun y hy => by
        have := h1 y hy
        have := cmpR_neg e.row y.row
        omega
      rw [if_pos ((cmpR_zero _ _).2 rfl), this]
      omega
    · have := h1 e he
      rw [if_neg (by omega), ih h2 he]
      omega
theorem allB_iff {A B : List En} (ha : BagP A) (hb : BagP B) : (allB A B A.length && allB B A B.length) = sameB A B := by
  have hall : ∀ X Y : List En, Asc Y → (allB X Y X.length = true ↔ ∀ e ∈ X, cntL Y e.row = e.cnt) := fun X Y hy => by
    unfold allB
    rw [List.take_length, List.all_eq_true]
    simp only [decide_eq_true_eq, firstC_cnt hy]
  by_cases h : A = B
  · subst h
    rw [sameB_iff.2 rfl, Bool.and_eq_true]
    have := (hall A A ha.asc).2 fun e he => firstC_self ha.asc he
    exact ⟨this, this⟩
  · have hs : sameB A B = false := by
      cases hsb : sameB A B with
      | false => rfl
      | true => exact absurd (sameB_iff.1 hsb) h
    rw [hs]
    cases hq : (allB A B A.length && allB B A B.length) with
    | false => rfl
    | true =>
      rw [Bool.and_eq_true] at hq
      have q1 := (hall A B hb.asc).1 hq.1
      have q2 := (hall B A ha.asc).1 hq.2
      refine absurd (bag_ext ha hb fun r => ?_) h
      by_cases e1 : ∃ e ∈ A, cmpR e.row r = 0
      · obtain ⟨e, he, hr⟩ := e1
        rw [← (cmpR_zero _ _).1 hr, firstC_self ha.asc he, q1 e he]
      · have z1 : cntL A r = 0 := cntL_zero fun e he hc => e1 ⟨e, he, hc⟩
        by_cases e2 : ∃ e ∈ B, cmpR e.row r = 0
        · obtain ⟨e, he, hr⟩ := e2
          rw [← (cmpR_zero _ _).1 hr, firstC_self hb.asc he, q2 e he]
        · rw [z1, cntL_zero fun e he hc => e2 ⟨e, he, hc⟩]

end Wh
namespace Go.Proofs.Ytdhhhmehkldliaa
open Go.RowKit Wh

set_option maxHeartbeats 8000000 in
theorem counts_walk (w : World) (x1 : Option Addr) (l1 k1 : Nat) (es1 : List En) (he1 : IsEnts w x1 l1 es1) (he1c : l1 ≤ k1) (he1m : k1 ≤ maxLen) (he1n : x1 = none → k1 = 0) (_ : ∀ e ∈ es1, -9223372036854775808 ≤ e.cnt ∧ e.cnt ≤ 9223372036854775807)
    (u1 : Option Addr) (l2 k2 : Nat) (row : List V) (hr : IsVals w u1 l2 row) (hrc : l2 ≤ k2) (hrm : k2 ≤ maxLen) (_ : u1 = none → k2 = 0)
    (y1 : Option Addr) (m1 j1 : Nat) (zs1 : List Int) (hz1 : IsInts w y1 m1 zs1) (hz1c : m1 ≤ j1) (hz1m : j1 ≤ maxLen) (_ : ∀ z ∈ zs1, -9223372036854775808 ≤ z ∧ z ≤ 9223372036854775807)
    (y2 : Option Addr) (m2 j2 : Nat) (zs2 : List Int) (hz2 : IsInts w y2 m2 zs2) (hz2c : m2 ≤ j2) (hz2m : j2 ≤ maxLen) (_ : ∀ z ∈ zs2, -9223372036854775808 ≤ z ∧ z ≤ 9223372036854775807)
    (n : Int) (n0 : -9223372036854775808 ≤ n) (n1 : n ≤ 9223372036854775807) :
    Calls Try.prog 5 #[.slice x1 l1 k1, .slice u1 l2 k2, .slice y1 m1 j1, .slice y2 m2 j2, .int .i64 n] w fun e w' => e = .returned (.bool true) ∧ Below w.heap.size w w' := by
  have mm : maxLen = 9223372036854775807 := rfl
  have L1 := Lib.hid (light_any x1 l1 k1 es1 w he1 (by omega))
  generalize lightB es1 = b1 at *
  by_cases hq : b1 = false
  · subst hq
    clear he1 hz1 hz2 hr mm
    go_enter Try.func5, Try.ntmps5
    go_wp2_with fail
    refine L1.out.mono ?_
    rintro e w1 ⟨rfl, rfl⟩
    go_wp2_with fail
    refine (known_any _).mono ?_
    rintro e w2 ⟨rfl, hb2⟩
    go_wp2_with fail
    go_ret
    exact ⟨rfl, hb2⟩
  obtain rfl : b1 = true := by simpa using hq
  by_cases h60 : 60 < l2
  · clear he1 hz1 hz2 hr mm hq
    have h60i : (60 : Int) < (l2 : Int) := by omega
    go_enter Try.func5, Try.ntmps5
    go_wp2_with fail
    refine L1.out.mono ?_
    rintro e w1 ⟨rfl, rfl⟩
    go_wp2_with fail
    refine (known_any _).mono ?_
    rintro e w2 ⟨rfl, hb2⟩
    go_wp2_with fail
    go_ret
    exact ⟨rfl, hb2⟩
  have h60i : ¬ (60 : Int) < (l2 : Int) := by omega
  have b7 := and_7
  obtain ⟨N, hN, hN7⟩ : ∃ N : Nat, n % 8 = N ∧ N ≤ 7 := ⟨(n % 8).toNat, by omega, by omega⟩
  obtain ⟨M, hM, hM7⟩ : ∃ M : Nat, n / 8 % 8 = M ∧ M ≤ 7 := ⟨(n / 8 % 8).toNat, by omega, by omega⟩
  have C1 := Lib.hid (bag_any y1 m1 j1 zs1 N w hz1 (by omega) (by omega))
  have C2 := Lib.hid (fun W (h : Below w.heap.size w W) => bag_any y2 m2 j2 zs2 M W (hz2.below h (Nat.le_refl _)) (by omega) (by omega))
  have P1 := (draw_sm zs1 (n := N) (by omega)).bag
  have P2 := (draw_sm zs2 (n := M) (by omega)).bag
  have hla := bagZ_length zs1 (n := N) (by omega)
  have hlb := bagZ_length zs2 (n := M) (by omega)
  generalize bagZ zs1 N = A at *
  generalize bagZ zs2 M = B at *
  have FIN := Lib.hid (allB_iff P1 P2)
  have E1 := Lib.hid he1
  have HR := Lib.hid hr
  clear he1 hz1 hz2 hr hq P1 P2
  go_enter Try.func5, Try.ntmps5
  go_wp2_with fail
  refine L1.out.mono ?_
  rintro e w1 ⟨rfl, rfl⟩
  clear L1
  go_wp2_with fail
  refine C1.out.mono ?_
  rintro e w1 ⟨v1, rfl, ho1, hb1⟩
  obtain ⟨a1, c1, rfl, hi1, p1, q1, r1, _⟩ := own_ents ho1
  go_wp2_with fail
  refine (C2.out _ hb1).mono ?_
  rintro e w2 ⟨v2, rfl, ho2, hb2⟩
  obtain ⟨a2, c2, rfl, hi2, p2, q2, r2, _⟩ := own_ents ho2
  have IA := Lib.hid (hi1.below hb2 (Nat.le_refl _))
  have IB := Lib.hid hi2
  have hB2 := hb1.trans (hb2.mono hb1.size)
  have hs2 := hB2.size
  generalize hLA : A.length = LA at *
  generalize hLB : B.length = LB at *
  have HLA := Lib.hid hLA
  have HLB := Lib.hid hLB
  clear C1 C2 ho1 ho2 hi1 hi2 hLA hLB hb1 hb2
  go_wp2_with fail
  go_loopw [13, 14] (fun sv iv wr => ∃ k : Nat, k ≤ LA ∧ iv = .int .i64 k ∧ sv = .bool (allB A B k) ∧ Below w2.heap.size w2 wr) (fun _ i _ => LA - (intOf i).toNat)
  case atStart => exact ⟨0, Nat.zero_le _, rfl, by simp [allB], Below.refl _ _⟩
  case round =>
    obtain ⟨k, hk, rfl, rfl, hbel⟩ := hrel
    have hsz := hbel.size
    by_cases hlt : k < LA
    · obtain ⟨r, m, ra, rl, rc, b, off, hx, rfl, hbl, c0, c1', hv, g1, g2, g3⟩ := (IA.out.below hbel (Nat.le_refl _)).at hlt
      have hN := allB_next (B := B) hx
      simp only at hN
      have HN := Lib.hid hN
      have hlti : (k : Int) < (LA : Int) := by omega
      cases hs : allB A B k with
      | false =>
        rw [hs, Bool.false_and] at HN
        clear hx hv hN c0 c1' hs
        go_wp2_with fail
        go_quiet (fail)
        go_wp2_with fail
        go_roundw
        case rel => exact ⟨k + 1, by omega, by go_num, by rw [HN.out], below_drewN hbel _⟩
        case measure => simp [intOf]; omega
      | true =>
        rw [hs, Bool.true_and] at HN
        have CC := Lib.hid (fun W (h : Below wr.heap.size wr W) => count_any a2 LB c2 B ra rl rc r W ((IB.out.below hbel (Nat.le_refl _)).below h (Nat.le_refl _)) (by omega) (hv.below h (Nat.le_refl _)) (by omega))
        generalize firstC B r = q at *
        have hS0 : wr.drew.cell? ⟨b, off + k * 2, none⟩ = some (.slice ra rl rc) ∧ wr.drew.cell? ⟨b, off + k * 2 + 1, none⟩ = some (.int .i64 m) ∧ Below wr.heap.size wr wr.drew := ⟨c0, c1', (Below.refl _ _).drew⟩
        by_cases hqm : q = m
        · subst hqm
          clear hx hv hN c0 c1' hs
          go_wp2_with fail
          have hi9 : (k : Int) < (LA : Int) := by omega
          go_region_held3 (fun w' => w'.cell? ⟨b, off + k * 2, none⟩ = some (.slice ra rl rc) ∧ w'.cell? ⟨b, off + k * 2 + 1, none⟩ = some (.int .i64 q) ∧ Below wr.heap.size wr w')
            (first | with_reducible exact hS0 | with_reducible exact keepTwoCells hbl hS0 hcall)
            (first | (go_at_call 26; refine (CC.out _ (by go_split_ands; assumption)).mono ?_; rintro e w' ⟨rfl, hcall⟩))
          all_goals
            have hF := hbel.trans ((keepTwoCells hbl hS0 hcall).2.2.mono hsz)
            go_wp2_with fail
            go_roundw
            case rel => exact ⟨k + 1, by omega, by go_num, by rw [HN.out]; simp, hF⟩
            case measure => simp [intOf]; omega
        · have hqb : (q == m) = false := by simpa using hqm
          have HQ := Lib.hid hqm
          clear hx hv hN c0 c1' hs hqm
          go_wp2_with fail
          have hi9 : (k : Int) < (LA : Int) := by omega
          go_region_held3 (fun w' => w'.cell? ⟨b, off + k * 2, none⟩ = some (.slice ra rl rc) ∧ w'.cell? ⟨b, off + k * 2 + 1, none⟩ = some (.int .i64 m) ∧ Below wr.heap.size wr w')
            (first | with_reducible exact hS0 | with_reducible exact keepTwoCells hbl hS0 hcall)
            (first | (go_at_call 26; refine (CC.out _ (by go_split_ands; assumption)).mono ?_; rintro e w' ⟨rfl, hcall⟩))
          all_goals
            have hF := hbel.trans ((keepTwoCells hbl hS0 hcall).2.2.mono hsz)
            go_wp2_with fail
            go_roundw
            case rel => exact ⟨k + 1, by omega, by go_num, by rw [HN.out, decide_eq_false HQ.out], hF⟩
            case measure => simp [intOf]; omega
    · obtain rfl : k = LA := by omega
      have HB1 := Lib.hid hbel
      have hs3 := hsz
      generalize hw3 : wr = w3 at *
      clear hw3 hbel hsz
      go_wp2_with fail
      go_loopw [13, 15] (fun sv iv wr => ∃ j : Nat, j ≤ LB ∧ iv = .int .i64 j ∧ sv = .bool (allB A B k && allB B A j) ∧ Below w2.heap.size w2 wr) (fun _ i _ => LB - (intOf i).toNat)
      case atStart => exact ⟨0, Nat.zero_le _, rfl, by simp [allB], HB1.out⟩
      case round =>
        obtain ⟨j, hj, rfl, rfl, hbel⟩ := hrel
        have hsz := hbel.size
        by_cases hlt2 : j < LB
        · obtain ⟨r, m, ra, rl, rc, b, off, hx, rfl, hbl, c0, c1', hv, g1, g2, g3⟩ := (IB.out.below hbel (Nat.le_refl _)).at hlt2
          have hN := allB_next (B := A) hx
          simp only at hN
          have HN := Lib.hid (show (allB A B k && allB B A (j + 1)) = (allB A B k && allB B A j && decide (firstC A r = m)) by rw [hN, Bool.and_assoc])
          have hlti : (j : Int) < (LB : Int) := by omega
          cases hs : (allB A B k && allB B A j) with
          | false =>
            rw [hs, Bool.false_and] at HN
            clear hx hv hN c0 c1' hs
            go_wp2_with fail
            go_quiet (fail)
            go_wp2_with fail
            go_roundw
            case rel => exact ⟨j + 1, by omega, by go_num, by rw [HN.out], below_drewN hbel _⟩
            case measure => simp [intOf]; omega
          | true =>
            rw [hs, Bool.true_and] at HN
            have CC := Lib.hid (fun W (h : Below wr.heap.size wr W) => count_any a1 k c1 A ra rl rc r W ((IA.out.below hbel (Nat.le_refl _)).below h (Nat.le_refl _)) (by omega) (hv.below h (Nat.le_refl _)) (by omega))
            generalize firstC A r = q at *
            have hS0 : wr.drew.cell? ⟨b, off + j * 2, none⟩ = some (.slice ra rl rc) ∧ wr.drew.cell? ⟨b, off + j * 2 + 1, none⟩ = some (.int .i64 m) ∧ Below wr.heap.size wr wr.drew := ⟨c0, c1', (Below.refl _ _).drew⟩
            by_cases hqm : q = m
            · subst hqm
              clear hx hv hN c0 c1' hs
              go_wp2_with fail
              have hi9 : (j : Int) < (LB : Int) := by omega
              go_region_held3 (fun w' => w'.cell? ⟨b, off + j * 2, none⟩ = some (.slice ra rl rc) ∧ w'.cell? ⟨b, off + j * 2 + 1, none⟩ = some (.int .i64 q) ∧ Below wr.heap.size wr w')
                (first | with_reducible exact hS0 | with_reducible exact keepTwoCells hbl hS0 hcall)
                (first | (go_at_call 26; refine (CC.out _ (by go_split_ands; assumption)).mono ?_; rintro e w' ⟨rfl, hcall⟩))
              all_goals
                have hF := hbel.trans ((keepTwoCells hbl hS0 hcall).2.2.mono hsz)
                go_wp2_with fail
                go_roundw
                case rel => exact ⟨j + 1, by omega, by go_num, by rw [HN.out]; simp, hF⟩
                case measure => simp [intOf]; omega
            · have hqb : (q == m) = false := by simpa using hqm
              have HQ := Lib.hid hqm
              clear hx hv hN c0 c1' hs hqm
              go_wp2_with fail
              have hi9 : (j : Int) < (LB : Int) := by omega
              go_region_held3 (fun w' => w'.cell? ⟨b, off + j * 2, none⟩ = some (.slice ra rl rc) ∧ w'.cell? ⟨b, off + j * 2 + 1, none⟩ = some (.int .i64 m) ∧ Below wr.heap.size wr w')
                (first | with_reducible exact hS0 | with_reducible exact keepTwoCells hbl hS0 hcall)
                (first | (go_at_call 26; refine (CC.out _ (by go_split_ands; assumption)).mono ?_; rintro e w' ⟨rfl, hcall⟩))
              all_goals
                have hF := hbel.trans ((keepTwoCells hbl hS0 hcall).2.2.mono hsz)
                go_wp2_with fail
                go_roundw
                case rel => exact ⟨j + 1, by omega, by go_num, by rw [HN.out, decide_eq_false HQ.out], hF⟩
                case measure => simp [intOf]; omega
        · obtain rfl : j = LB := by omega
          have hfin : (allB A B k && allB B A j) = sameB A B := FIN.out
          rw [hfin]
          have hB := hB2.trans (hbel.mono hs2)
          have F1 := Lib.hid (E1.out.below hB (Nat.le_refl _))
          have F2 := Lib.hid (HR.out.below hB (Nat.le_refl _))
          have F3 := Lib.hid (IA.out.below hbel (Nat.le_refl _))
          have F4 := Lib.hid (IB.out.below hbel (Nat.le_refl _))
          have CS := Lib.hid (fun W (h : Below wr.heap.size wr W) => rsame_any6 a1 k c1 A a2 j c2 B W (F3.out.below h (Nat.le_refl _)) (F4.out.below h (Nat.le_refl _)) (by omega) (by omega))
          generalize sameB A B = z at *
          have hs9 := hB.size
          clear hfin FIN
          go_wp2_with fail
          refine (count_any x1 l1 k1 es1 u1 l2 k2 row wr F1.out (by omega) F2.out (by omega)).mono ?_
          rintro e w4 ⟨rfl, hb4⟩
          go_wp2_with fail
          refine (rcount_any x1 l1 k1 es1 u1 l2 k2 row w4 (F1.out.below hb4 (Nat.le_refl _)) (by omega) (F2.out.below hb4 (Nat.le_refl _)) (by omega)).mono ?_
          rintro e w5 ⟨rfl, hb5⟩
          have hb45 := hb4.trans (hb5.mono hb4.size)
          generalize firstC es1 row = y at *
          go_wp2_with fail
          refine (CS.out _ hb45).mono ?_
          rintro e w6 ⟨rfl, hb6⟩
          have hb46 := hb45.trans (hb6.mono hb45.size)
          go_wp2_with fail
          refine (known_any _).mono ?_
          rintro e w7 ⟨rfl, hb7⟩
          go_wp2_with fail
          go_ret
          exact ⟨rfl, hB.trans ((hb46.trans (hb7.mono hb46.size)).mono hs9)⟩

end Go.Proofs.Ytdhhhmehkldliaa
