/-
  BagLimits: its walk.
-/
import Derived.Test.YtdhhhmehkldliaaBLim
import Derived.Test.YtdhhhmehkldliaaBExp
set_option linter.unusedVariables false
set_option maxRecDepth 100000
namespace Go.Proofs.Ytdhhhmehkldliaa
open Go.RowKit Wh

/-- The call returns the rows, without error. -/
theorem rowsOf {f : Nat} {args : Array Value} {w : World} {o o' : List (List V) × Int} (h : Calls Try.prog f args w (RowsErr w o)) (e : o = o') : Calls Try.prog f args w (RowsErr w o') := e ▸ h

set_option maxHeartbeats 1000000 in
theorem limits_walk (w : World) (n : Int) (n0 : -9223372036854775808 ≤ n) (n1 : n ≤ 9223372036854775807) (m : Int) (m0 : -9223372036854775808 ≤ m) (m1 : m ≤ 9223372036854775807) :
    Calls Try.prog 11 #[.int .i64 n, .int .i64 m] w fun e w' => e = .returned (.bool true) ∧ Below w.heap.size w w' := by
  have mm : maxLen = 9223372036854775807 := rfl
  have b3 := and_3
  have b7 := and_7
  have b1 := and_1
  obtain ⟨A, hA, hA3⟩ : ∃ A : Nat, n % 4 = A ∧ A ≤ 3 := ⟨(n % 4).toNat, by omega, by omega⟩
  obtain ⟨B, hB, hB7⟩ : ∃ B : Nat, m % 8 = B ∧ B ≤ 7 := ⟨(m % 8).toNat, by omega, by omega⟩
  obtain ⟨P, hP, hP1⟩ : ∃ P : Nat, n / 4 % 2 = P ∧ P ≤ 1 := ⟨(n / 4 % 2).toNat, by omega, by omega⟩
  obtain ⟨C, hC, hC1⟩ : ∃ C : Nat, n / 8 % 2 = C ∧ C ≤ 1 := ⟨(n / 8 % 2).toNat, by omega, by omega⟩
  have hBw : Below w.heap.size w w := Below.refl _ _
  obtain ⟨i0, hi, hz0, hz1, hz2⟩ := info_parts info_ent
  have NN := Lib.hid (fun (h : 4096 + P ≤ 4096) => lim_fit (c := 1 + (C : Int)) (by omega) (by omega) h)
  have NO := Lib.hid (fun (h : 4096 < 4096 + P) => lim_over (c := 1 + (C : Int)) (by omega) (by omega) (L := 4096 + P) (by omega) h)
  have YES := Lib.hid (fun (h : B + 1 ≤ A) => lim_yes (a := 65536 - (A : Int)) (b := (B : Int) + 1) (by omega) (by omega) (by omega) (by omega) (by omega))
  have NOT := Lib.hid (fun (h : ¬ B + 1 ≤ A) => lim_no (a := 65536 - (A : Int)) (b := (B : Int) + 1) (by omega) (by omega) (by omega) (by omega) (by omega))
  go_enter Try.func11, Try.ntmps11
  go_wp2_with fail
  refine (one_any 0 _).mono ?_
  rintro e w1 ⟨rfl, hv1, hb1⟩
  have hB1 := hBw.trans (hb1.mono hBw.size)
  go_wp2_with fail
  have I1 := Lib.hid (ents_lit1 (n := 65536 - (A : Int)) (row_one hv1))
  have hB2 := hB1.alloc hB1.size (.cells #[.slice (some ⟨w.heap.size, 0, none⟩) 1 1, .int .i64 (65536 - (A : Int))] 30)
  generalize w1.alloc (.cells #[.slice (some ⟨w.heap.size, 0, none⟩) 1 1, .int .i64 (65536 - (A : Int))] 30) = W1 at *
  generalize w1.heap.size = g1 at *
  clear hv1 hb1 hB1
  refine (one_any 0 _).mono ?_
  rintro e w2 ⟨rfl, hv2, hb2⟩
  have hB3 := hB2.trans (hb2.mono hB2.size)
  replace I1 := Lib.hid (I1.out.below hb2 (Nat.le_refl _))
  go_wp2_with fail
  have I2 := Lib.hid (ents_lit1 (n := (B : Int) + 1) (row_one hv2))
  have hA4 : Below w2.heap.size w2 (w2.alloc (.cells #[.slice (some ⟨W1.heap.size, 0, none⟩) 1 1, .int .i64 ((B : Int) + 1)] 30)) := (Below.refl _ _).alloc (Nat.le_refl _) _
  have hB4 := hB3.trans (hA4.mono hB3.size)
  replace I1 := Lib.hid (I1.out.below hA4 (Nat.le_refl _))
  generalize w2.alloc (.cells #[.slice (some ⟨W1.heap.size, 0, none⟩) 1 1, .int .i64 ((B : Int) + 1)] 30) = W2 at *
  generalize w2.heap.size = g2 at *
  clear hv2 hb2 hA4 hB2 hB3
  by_cases hAB : B + 1 ≤ A
  case' pos =>
    have CA := Lib.hid (errOk (add_any6 (some ⟨g1, 0, none⟩) 1 1 _ (some ⟨g2, 0, none⟩) 1 1 _ W2 I1.out (by omega) I2.out (by omega) (Nat.le_refl _) (by omega) (by simp) (Nat.le_refl _) (by omega) (by simp)) (YES.out hAB))
    refine CA.out.mono ?_
    rintro e w3 ⟨v3, rfl, ho3, hb3⟩
    have hB5 := hB4.trans (hb3.mono hB4.size)
    obtain ⟨a5, c5, rfl, hi5, p5, q5, r5, _⟩ := own_ents ho3
    obtain ⟨rr, cc5, ra, rl, rc, b, off, hx, rfl, hbl, d0, d1, _, _, _, _⟩ := hi5.at (k := 0) (by simp)
    simp only [List.getElem?_cons_zero, Option.some.injEq, En.mk.injEq] at hx
    obtain ⟨rfl, rfl⟩ := hx
    clear I1 I2 CA YES NOT ho3 hi5 hb3 hB4
    simp only [List.length_cons, List.length_nil, Nat.zero_add, Nat.zero_mul, Nat.add_zero] at d0 d1 p5 ⊢
    go_wp2_with fail
    rename 65536 - (A : Int) + (B : Int) + 1 ≤ 65536 => q8
    rename (_ != _) = false => q9
    clear q8 q9 d0 d1 hbl
  case' neg =>
    have CA := Lib.hid (errTo (add_any6 (some ⟨g1, 0, none⟩) 1 1 _ (some ⟨g2, 0, none⟩) 1 1 _ W2 I1.out (by omega) I2.out (by omega) (Nat.le_refl _) (by omega) (by simp) (Nat.le_refl _) (by omega) (by simp)) (NOT.out hAB))
    refine CA.out.mono ?_
    rintro e w3 ⟨v3, rfl, ho3, hb3⟩
    have hB5 := hB4.trans (hb3.mono hB4.size)
    obtain ⟨a5, c5, rfl, hi5, p5, q5, r5, _⟩ := own_ents ho3
    clear I1 I2 CA YES NOT ho3 hi5 hb3 hB4
    simp only [List.length_nil] at p5 ⊢
    go_wp2_with fail
  all_goals
    clear hBw hAB
    go_loopw [10, 11] (fun ov iv wr => ∃ k : Nat, k ≤ 4096 + P ∧ iv = .int .i64 k ∧ OwnEnts wr w.heap.size ov (limL (1 + (C : Int)) k) ∧ Below w.heap.size w wr) (fun _ i _ => 4096 + P - (intOf i).toNat)
    case atStart => exact ⟨0, Nat.zero_le _, rfl, OwnEnts.nil _ _, hB5⟩
    case round =>
      clear hB5
      obtain ⟨k, hk, rfl, hO, hbel⟩ := hrel
      have HO := Lib.hid hO
      have hsz := hbel.size
      clear hO
      by_cases hlt : k < 4096 + P
      · have HN := Lib.hid (limL_next (1 + (C : Int)) k)
        have hl9 : (limL (1 + (C : Int)) k).length ≤ 5000 := by rw [limL_length]; omega
        generalize limL (1 + (C : Int)) k = acc at *
        generalize hq : limL (1 + (C : Int)) (k + 1) = acc2 at *
        have HQ := Lib.hid hq
        clear hq NN NO
        go_wp2_with fail
        refine (one_any (k : Int) _).mono ?_
        rintro e w5 ⟨rfl, hv5, hb5⟩
        have hs5 := hb5.size
        obtain ⟨l9, ho9, PUSH⟩ := pushedNew (1 + (C : Int)) (HO.out.below hb5) (row_one hv5) (by intro _ x n c hx hg; cases hx; exact absurd (HO.out.choose_spec.2.1.lt _ hg).2 (Nat.lt_irrefl _)) (hbel.trans (hb5.mono hsz))
        have HP := Lib.hid PUSH
        clear PUSH hv5 hb5
        go_wp2_with (at_builtin; refine wpList_append_lies _ rfl _ _ 22 rfl w.heap.size 30 i0 _ 2 32 Try.underlying22 hi hz0 hz1 hz2 rfl (by decide) _ _ _ rfl (ho9.alloc _) ⟨w5.heap.size, 0, none⟩ 1 1 [.slice (some ⟨wr.heap.size, 0, none⟩) 1 1, .int .i64 (1 + (C : Int))] rfl rfl (World.news_of_block (cs := #[.slice (some ⟨wr.heap.size, 0, none⟩) 1 1, .int .i64 (1 + (C : Int))]) (t := 30) (fr := (0, 0)) (heap_alloc_new w5 _)) (by simp [Value.oneCell']) (by omega) (by unfold maxLen; omega) (by omega) (by simp; omega) (w5.heap.size + 1) (by simp) ?_)
        intro gg cc w9 hown9 hgrow9 hat9 hlt9
        have HH := HP.out _ gg cc w9 ((Below.refl _ _).alloc (Nat.le_refl _) _) hown9 hgrow9 (hat9.imp id fun h => by rw [h]; simp)
        clear HP hown9 hgrow9 hat9 hlt9 ho9
        go_wp2_with fail
        go_roundw
        case rel => exact ⟨k + 1, by omega, by go_num, by rw [HQ.out, HN.out]; exact HH.1, HH.2⟩
        case measure => simp [intOf]; omega
      · obtain rfl : k = 4096 + P := by omega
        clear hk hlt
        have hT1 : (limL (1 + (C : Int)) (4096 + P)).length ≤ 4096 + P := by rw [limL_length]; omega
        have hT2 : 4096 + P ≤ (limL (1 + (C : Int)) (4096 + P)).length := by rw [limL_length]; omega
        obtain ⟨a5, c5, rfl, hi5, p5, q5, r5, _⟩ := own_ents HO.out
        have FT := Lib.hid hi5
        clear hi5 HO
        generalize limL (1 + (C : Int)) (4096 + P) = T at *
        obtain ⟨o, HE⟩ : ∃ o, Hid (expOut T = o) := ⟨_, rfl⟩
        by_cases hP0 : P = 0
        case' pos =>
          have hN1 := NN.out (by omega)
          have hTd : decide ((T.length : Int) ≤ 4096) = true := decide_eq_true (by omega)
          have hTe : (T.length : Int) ≤ 4096 := by omega
        case' neg =>
          have hN1 := NO.out (by omega)
          have hTd : decide ((T.length : Int) ≤ 4096) = false := decide_eq_false (by omega)
          have hTe : ¬ (T.length : Int) ≤ 4096 := by omega
        all_goals
          have HN1 := Lib.hid hN1
          have hol : T.length ≤ 1000000 := by omega
          clear hN1 NN NO
          go_wp2_with fail
          refine (errTo (normalize_any a5 T.length c5 T wr FT.out p5 q5 r5 hol) HN1.out).mono ?_
          rintro e w6 ⟨v6, rfl, ho6, hb6⟩
          have hB6 := hbel.trans (hb6.mono hsz)
          replace FT := Lib.hid (FT.out.below hb6 (Nat.le_refl _))
          obtain ⟨a6, c6, rfl, _, p6, q6, r6, _⟩ := own_ents ho6
          clear ho6
          go_wp2_with fail
          refine (rowsOf (expand_any a5 T.length c5 T w6 FT.out (by omega)) HE.out).mono ?_
          rintro e w7 ⟨v7, rfl, ho7, hb7⟩
          have hB7 := hB6.trans (hb7.mono hB6.size)
          replace FT := Lib.hid (FT.out.below hb7 (Nat.le_refl _))
          obtain ⟨a7, c7, rfl, _, p7, q7, r7⟩ := own_rows ho7
          clear ho7
          go_wp2_with fail
          refine (rowsOf (rexpand_any a5 T.length c5 T w7 FT.out (by omega)) HE.out).mono ?_
          rintro e w8 ⟨v8, rfl, ho8, hb8⟩
          have hB8 := hB7.trans (hb8.mono hB7.size)
          obtain ⟨a8, c8, rfl, _, p8, q8, r8⟩ := own_rows ho8
          clear ho8 FT HE HN1
          go_wp2_with fail
          refine (known_any _).mono ?_
          rintro e w9 ⟨rfl, hb9⟩
          have hB9 := hB8.trans (hb9.mono hB8.size)
          go_wp2_with fail
          go_ret
          exact ⟨rfl, hB9⟩

end Go.Proofs.Ytdhhhmehkldliaa
