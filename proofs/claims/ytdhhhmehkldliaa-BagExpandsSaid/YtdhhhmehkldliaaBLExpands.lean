/-
  BagExpands: its walk.
-/
import Derived.Test.YtdhhhmehkldliaaBAlg4
import Derived.Test.YtdhhhmehkldliaaBExp
set_option linter.unusedVariables false
set_option maxRecDepth 100000
namespace Go.Proofs.Ytdhhhmehkldliaa
open Go.RowKit Wh

/-- The call returns the rows, without error. -/
theorem rowsTo {f : Nat} {args : Array Value} {w : World} {o o' : List (List V) × Int} (h : Calls Try.prog f args w (RowsErr w o)) (e : o = o') : Calls Try.prog f args w (RowsErr w o') := e ▸ h

set_option maxHeartbeats 4000000 in
theorem expands_walk (w : World) (x1 : Option Addr) (l1 k1 : Nat) (es1 : List En) (he1 : IsEnts w x1 l1 es1) (he1c : l1 ≤ k1) (he1m : k1 ≤ maxLen) (he1n : x1 = none → k1 = 0) (_ : ∀ e ∈ es1, -9223372036854775808 ≤ e.cnt ∧ e.cnt ≤ 9223372036854775807)
    (y1 : Option Addr) (m1 j1 : Nat) (zs1 : List Int) (hz1 : IsInts w y1 m1 zs1) (hz1c : m1 ≤ j1) (hz1m : j1 ≤ maxLen) (hz1b : ∀ z ∈ zs1, -9223372036854775808 ≤ z ∧ z ≤ 9223372036854775807)
    (n : Int) (n0 : -9223372036854775808 ≤ n) (n1 : n ≤ 9223372036854775807) :
    Calls Try.prog 10 #[.slice x1 l1 k1, .slice y1 m1 j1, .int .i64 n] w fun e w' => e = .returned (.bool true) ∧ Below w.heap.size w w' := by
  have mm : maxLen = 9223372036854775807 := rfl
  have L1 := Lib.hid (light_any x1 l1 k1 es1 w he1 (by omega))
  generalize lightB es1 = b1 at *
  have hB0 : Below w.heap.size w w := Below.refl _ _
  by_cases hq : b1 = false
  · subst hq
    clear he1 hz1 mm
    go_enter Try.func10, Try.ntmps10
    go_wp2_with fail
    refine L1.out.mono ?_
    rintro e w1 ⟨rfl, rfl⟩
    go_wp2_with fail
    refine (known_any _).mono ?_
    rintro e w2 ⟨rfl, hb2⟩
    go_wp2_with fail
    go_ret
    exact ⟨rfl, hb2⟩
  obtain rfl : b1 = true := by simpa using hq
  have b15 := and_15
  obtain ⟨N, hN, hN7⟩ : ∃ N : Nat, n % 16 = N ∧ N ≤ 15 := ⟨(n % 16).toNat, by omega, by omega⟩
  have s1 := table_tb zs1 (n := N) (by omega)
  have CX := Lib.hid (fun W (h : Below w.heap.size w W) => table_any y1 m1 j1 zs1 N W (hz1.below h (Nat.le_refl _)) (by omega) (by omega))
  generalize tabL (bagZ zs1 N) = X at *
  have Q1 := Lib.hid (exp_tb s1 (by omega) (by omega))
  have Q2 := Lib.hid (exp_norm s1 (by omega) (by omega))
  have QS := Lib.hid (fun k a b ha hb => exp_step s1.sm.bag.asc (k := k) (a := a) (b := b) ha hb)
  have QB := Lib.hid (fun r (h : r ∈ expL X) => show r.length ≤ 12 by
    obtain ⟨e, he, rfl⟩ := expL_mem h
    exact (s1.sm.rows e he).1)
  have hRl : (expL X).length ≤ 4096 := by
    have h1 := expL_length s1.pos
    have h2 := s1.sum
    omega
  have l1' := s1.sm.len
  generalize expL X = R at *
  obtain ⟨o1, HO1⟩ : ∃ o, Hid (expOut es1 = o) := ⟨_, rfl⟩
  have E1 := Lib.hid he1
  clear he1 hz1 hq s1
  obtain ⟨i0, hi, hz0, hz1', hz2⟩ := info_parts info_ent
  go_enter Try.func10, Try.ntmps10
  go_wp2_with fail
  refine L1.out.mono ?_
  rintro e w1 ⟨rfl, rfl⟩
  clear L1
  go_wp2_with fail
  refine (rowsTo (expand_any x1 l1 k1 es1 w E1.out (by omega)) HO1.out).mono ?_
  rintro e w1 ⟨v1, rfl, ho1, hb1⟩
  have hB1 := hB0.trans (hb1.mono hB0.size)
  replace E1 := Lib.hid (E1.out.below hb1 (Nat.le_refl _))
  obtain ⟨a1, c1, rfl, hi1, p1, q1, r1⟩ := own_rows ho1
  have P1 := Lib.hid hi1
  clear ho1 hi1
  go_wp2_with fail
  refine (rowsTo (rexpand_any x1 l1 k1 es1 w1 E1.out (by omega)) HO1.out).mono ?_
  rintro e w2 ⟨v2, rfl, ho2, hb2⟩
  have hB2 := hB1.trans (hb2.mono hB1.size)
  replace P1 := Lib.hid (P1.out.below hb2 (Nat.le_refl _))
  obtain ⟨a2, c2, rfl, hi2, p2, q2, r2⟩ := own_rows ho2
  have P2 := Lib.hid hi2
  clear ho2 hi2 E1 HO1
  go_wp2_with fail
  refine (CX.out _ hB2).mono ?_
  rintro e w3 ⟨v3, rfl, ho3, hb3⟩
  have hB3 := hB2.trans (hb3.mono hB2.size)
  replace P1 := Lib.hid (P1.out.below hb3 (Nat.le_refl _))
  replace P2 := Lib.hid (P2.out.below hb3 (Nat.le_refl _))
  obtain ⟨a3, c3, rfl, hi3, p3, q3, r3, _⟩ := own_ents ho3
  have FX := Lib.hid hi3
  clear ho3 hi3 CX
  go_wp2_with fail
  refine (rowsTo (expand_any a3 X.length c3 X w3 FX.out (by omega)) Q1.out).mono ?_
  rintro e w4 ⟨v4, rfl, ho4, hb4⟩
  have hB4 := hB3.trans (hb4.mono hB3.size)
  replace P1 := Lib.hid (P1.out.below hb4 (Nat.le_refl _))
  replace P2 := Lib.hid (P2.out.below hb4 (Nat.le_refl _))
  replace FX := Lib.hid (FX.out.below hb4 (Nat.le_refl _))
  obtain ⟨a4, c4, rfl, hi4, p4, q4, r4⟩ := own_rows ho4
  have FR := Lib.hid hi4
  have hRl2 : R.length ≤ 4096 := hRl
  clear ho4 hi4
  have hs4 := hB4.size
  go_wp2_with fail
  go_loopw [14, 15] (fun ov iv wr => ∃ k : Nat, k ≤ R.length ∧ iv = .int .i64 k ∧ OwnEnts wr w4.heap.size ov (onesL (R.take k)) ∧ Below w4.heap.size w4 wr) (fun _ i _ => R.length - (intOf i).toNat)
  case atStart => exact ⟨0, Nat.zero_le _, rfl, OwnEnts.nil _ _, Below.refl _ _⟩
  case round =>
    obtain ⟨k, hk, rfl, hO, hbel⟩ := hrel
    have HO := Lib.hid hO
    have hsz := hbel.size
    clear hO
    by_cases hlt : k < R.length
    · obtain ⟨r, ra, rl, rc, b, off, hx, rfl, hbl, c0, hv, g1, g2, g3⟩ := FR.out.at hlt
      have hrow : IsRow w4 (.slice ra rl rc) r := ⟨ra, rl, rc, rfl, hv, g1, g2, g3⟩
      have hrl := QB.out r (List.mem_of_getElem? hx)
      have hvl := hv.1
      have HN := Lib.hid (onesL_next hx)
      have hla : (onesL (R.take k)).length ≤ 4096 := by rw [onesL_length, List.length_take]; omega
      have HROW := Lib.hid hrow
      have e0 := (hbel.cell (p := ⟨b, off + k, none⟩) hbl).trans c0
      generalize onesL (R.take k) = acc at *
      clear hrow
      by_cases hk0 : k = 0
      · subst hk0
        simp only [Nat.add_zero] at e0
        clear hx hv c0
        go_wp2_with fail
        go_quiet (fail)
        have e1 : (wr.drewN nq).cell? ⟨b, off, none⟩ = some (.slice ra rl rc) := e0
        have hWB : Below wr.heap.size wr (wr.drewN nq) := below_drewN (Below.refl _ _) _
        generalize wr.drewN nq = WW at *
        have hWs := hWB.size
        obtain ⟨l9, ho9, PUSH⟩ := pushed 1 (HO.out.below hWB) HROW.out (hbel.trans (hWB.mono hsz))
        have HP := Lib.hid PUSH
        clear PUSH hWB e0
        go_wp2_with (at_builtin; refine wpList_append_lies _ rfl _ _ 22 rfl w4.heap.size 30 i0 _ 2 32 Try.underlying22 hi hz0 hz1' hz2 rfl (by decide) _ _ _ rfl (ho9.alloc _) ⟨WW.heap.size, 0, none⟩ 1 1 [.slice ra rl rc, .int .i64 1] rfl rfl (World.news_of_block (cs := #[.slice ra rl rc, .int .i64 1]) (t := 30) (fr := (0, 0)) (heap_alloc_new WW _)) (by simp [Value.oneCell']) (by omega) (by unfold maxLen; omega) (by omega) (by simp; omega) (WW.heap.size + 1) (by simp) ?_)
        intro gg cc w9 hown9 hgrow9 hat9 hlt9
        have HH := HP.out _ gg cc w9 ((Below.refl _ _).alloc (Nat.le_refl _) _) hown9 hgrow9 (hat9.imp id fun h => by rw [h]; simp)
        clear HP hown9 hgrow9 hat9 hlt9 ho9
        go_wp2_with fail
        go_roundw
        case rel => exact ⟨0 + 1, by omega, by go_num, by rw [HN.out]; exact HH.1, HH.2⟩
        case measure => simp [intOf]; omega
      · obtain ⟨j, hj⟩ : ∃ j : Nat, k = j + 1 := ⟨k - 1, by omega⟩
        obtain ⟨r', ra', rl', rc', b', off', hx', hae, hbl', d0, hv', g1', g2', g3'⟩ := FR.out.at (k := j) (by omega)
        cases hae
        have d0 := (hbel.cell (p := ⟨b, off + j, none⟩) hbl).trans d0
        have hbw : b < wr.heap.size := by omega
        have mm : maxLen = 9223372036854775807 := rfl
        have CR := Lib.hid (fun W (h : Below wr.heap.size wr W) => rrows_any ra' rl' rc' r' ra rl rc r W ((hv'.below hbel (Nat.le_refl _)).below h (Nat.le_refl _)) ((hv.below hbel (Nat.le_refl _)).below h (Nat.le_refl _)) (by omega) (by omega))
        have hc0 : cmpR r' r ≤ 0 := QS.out j _ _ hx' (by rw [← hj]; exact hx)
        generalize cmpR r' r = c at *
        have hcb : decide (0 < c) = false := by simpa using hc0
        have hw : IntKind.i64.wrap ((k : Int) - 1) = (j : Int) := by rw [IntKind.wrap_i64]; omega
        have hk1 : (0 : Int) < (k : Int) := by omega
        have hjl : (j : Int) < (R.length : Int) := by omega
        have hS0 : wr.drew.cell? ⟨b, off + k, none⟩ = some (.slice ra rl rc) ∧ wr.drew.cell? ⟨b, off + j, none⟩ = some (.slice ra' rl' rc') ∧ Below wr.heap.size wr wr.drew := ⟨e0, d0, (Below.refl _ _).drew⟩
        clear hx hx' hv hv' mm hj c0 d0 e0
        go_wp2_with fail
        have hgd : decide ((0 : Int) < (k : Int)) = true := decide_eq_true hk1
        have hgn : decide (0 < k) = true := decide_eq_true (by omega)
        have hgp : 0 < k := by omega
        go_region_held3 (fun w' => w'.cell? ⟨b, off + k, none⟩ = some (.slice ra rl rc) ∧ w'.cell? ⟨b, off + j, none⟩ = some (.slice ra' rl' rc') ∧ Below wr.heap.size wr w')
          (first | with_reducible exact hS0 | with_reducible exact keepTwoCells hbw hS0 hcall)
          (first | (go_at_call 45; refine (CR.out _ (by go_split_ands; assumption)).mono ?_; rintro e w' ⟨rfl, hcall⟩))
        all_goals
          have hK := keepTwoCells hbw hS0 hcall
          have e0 := hK.1
          have hWs := hK.2.2.size
          obtain ⟨l9, ho9, PUSH⟩ := pushed 1 (HO.out.below hK.2.2) HROW.out (hbel.trans (hK.2.2.mono hsz))
          have HP := Lib.hid PUSH
          clear PUSH hK
          go_wp2_with (at_builtin; refine wpList_append_lies _ rfl _ _ 22 rfl w4.heap.size 30 i0 _ 2 32 Try.underlying22 hi hz0 hz1' hz2 rfl (by decide) _ _ _ rfl (ho9.alloc _) ⟨w'.heap.size, 0, none⟩ 1 1 [.slice ra rl rc, .int .i64 1] rfl rfl (World.news_of_block (cs := #[.slice ra rl rc, .int .i64 1]) (t := 30) (fr := (0, 0)) (heap_alloc_new w' _)) (by simp [Value.oneCell']) (by omega) (by unfold maxLen; omega) (by omega) (by simp; omega) (w'.heap.size + 1) (by simp) ?_)
          intro gg cc w9 hown9 hgrow9 hat9 hlt9
          have HH := HP.out _ gg cc w9 ((Below.refl _ _).alloc (Nat.le_refl _) _) hown9 hgrow9 (hat9.imp id fun h => by rw [h]; simp)
          clear HP hown9 hgrow9 hat9 hlt9 ho9
          go_wp2_with fail
          go_roundw
          case rel => exact ⟨k + 1, by omega, by go_num, by rw [HN.out]; exact HH.1, HH.2⟩
          case measure => simp [intOf]; omega
    · obtain rfl : k = R.length := by omega
      have hE : R.take R.length = R := List.take_of_length_le (by omega)
      rw [hE] at HO
      clear hE
      obtain ⟨a5, c5, rfl, hi5, p5, q5, r5, _⟩ := own_ents HO.out
      have hol : (onesL R).length ≤ 4096 := by rw [onesL_length]; exact hRl2
      have FO := Lib.hid hi5
      have hB5 := hB4.trans (hbel.mono hs4)
      replace P1 := Lib.hid (P1.out.below hbel (Nat.le_refl _))
      replace P2 := Lib.hid (P2.out.below hbel (Nat.le_refl _))
      replace FX := Lib.hid (FX.out.below hbel (Nat.le_refl _))
      clear hi5 HO
      generalize onesL R = O at *
      go_wp2_with fail
      refine (errOk (normalize_any a5 O.length c5 O wr FO.out p5 q5 r5 (by omega)) Q2.out).mono ?_
      rintro e w6 ⟨v6, rfl, ho6, hb6⟩
      have hB6 := hB5.trans (hb6.mono hB5.size)
      replace P1 := Lib.hid (P1.out.below hb6 (Nat.le_refl _))
      replace P2 := Lib.hid (P2.out.below hb6 (Nat.le_refl _))
      replace FX := Lib.hid (FX.out.below hb6 (Nat.le_refl _))
      obtain ⟨a6, c6, rfl, hi6, p6, q6, r6, _⟩ := own_ents ho6
      have C6 := Lib.hid hi6
      clear ho6 hi6 FO FR
      have hol1 : o1.1.length ≤ 9223372036854775807 := by omega
      go_wp2_with fail
      refine (rsamerows_true P1.out P2.out hol1).mono ?_
      rintro e w7 ⟨rfl, hb7⟩
      have hB7 := hB6.trans (hb7.mono hB6.size)
      replace FX := Lib.hid (FX.out.below hb7 (Nat.le_refl _))
      replace C6 := Lib.hid (C6.out.below hb7 (Nat.le_refl _))
      go_wp2_with fail
      refine (rsame_true FX.out C6.out (by omega)).mono ?_
      rintro e w8 ⟨rfl, hb8⟩
      have hB8 := hB7.trans (hb8.mono hB7.size)
      go_wp2_with fail
      refine (known_any _).mono ?_
      rintro e w9 ⟨rfl, hb9⟩
      have hB9 := hB8.trans (hb9.mono hB8.size)
      go_wp2_with fail
      go_ret
      exact ⟨rfl, hB9⟩

end Go.Proofs.Ytdhhhmehkldliaa
