/-
  merge, of the program.
-/
import Derived.Test.YtdhhhmehkldliaaBPFirst
import Derived.Deep.RegionLaw
set_option linter.unusedVariables false
set_option maxRecDepth 100000
namespace Go.Proofs.Ytdhhhmehkldliaa
open Go.RowKit Wh

/-- What holds at the head of each round: the rests, and what is merged so far. -/
inductive MergeP (w : World) (s : Int) (E : List En) (wr : World) : Value → Value → Value → Prop
  | mk (a b : Option Addr) (la ca lb cb : Nat) (us vs acc : List En) (ov : Value) (hu : IsEnts w a la us) (hv : IsEnts w b lb vs) (g1 : la ≤ ca) (g2 : ca ≤ maxLen) (g3 : a = none → ca = 0) (g4 : lb ≤ cb) (g5 : cb ≤ maxLen) (g6 : b = none → cb = 0)
      (hg : Hid (acc ++ nzL (mergeL us (sgnL s vs)) = E)) (hlen : acc.length + la + lb ≤ 1000000) (hab : absS us + absS vs ≤ 1000000000000) (ho : OwnEnts wr w.heap.size ov acc) (hb : Below w.heap.size w wr) : MergeP w s E wr (.slice a la ca) (.slice b lb cb) ov

theorem absS_head {y : En} {vs : List En} {z : Int} (h : absS (y :: vs) ≤ z) (h0 : 0 ≤ z) : -z ≤ y.cnt ∧ y.cnt ≤ z ∧ absS vs ≤ z := by
  have := absS_nonneg vs
  simp only [absS] at h
  split at h <;> omega

set_option maxHeartbeats 1000000 in
theorem merge_any (a1 : Option Addr) (len1 cap1 : Nat) (xs : List En) (a2 : Option Addr) (len2 cap2 : Nat) (ys : List En) (s : Int) (hs : s = 1 ∨ s = -1) (w : World) (h1 : IsEnts w a1 len1 xs) (h2 : IsEnts w a2 len2 ys)
    (p1 : len1 ≤ cap1) (p2 : cap1 ≤ maxLen) (p3 : a1 = none → cap1 = 0) (p4 : len2 ≤ cap2) (p5 : cap2 ≤ maxLen) (p6 : a2 = none → cap2 = 0) (hsm : len1 + len2 ≤ 1000000) (habs : absS xs + absS ys ≤ 1000000000000) :
    Calls Try.prog 62 #[.slice a1 len1 cap1, .slice a2 len2 cap2, .int .i64 s] w (EntsPost w (nzL (mergeL xs (sgnL s ys)))) := by
  generalize hE : nzL (mergeL xs (sgnL s ys)) = E
  have HE := Lib.hid hE
  have H1 := Lib.hid h1
  have H2 := Lib.hid h2
  have HSS := Lib.hid hs
  obtain ⟨i0, hi, hz0, hz1, hz2⟩ := info_parts info_ent
  have mm : maxLen = 9223372036854775807 := rfl
  clear h1 h2 hE hs
  go_enter Try.func62, Try.ntmps62
  go_wp2_with fail
  go_loopw [0, 1, 7] (fun av bv ov wr => MergeP w s E wr av bv ov)
    (fun av bv _ _ => lenOf av + lenOf bv)
  case atStart => exact .mk a1 a2 len1 cap1 len2 cap2 xs ys [] _ H1.out H2.out p1 p2 p3 p4 p5 p6 (by show _ = _; simpa using HE.out) (by simpa using hsm) habs (OwnEnts.nil _ _) (Below.refl _ _)
  case round =>
    obtain ⟨a, b, la, ca, lb, cb, us, vs, acc, _, hu, hv, g1, g2, g3, g4, g5, g6, HG, hlen, hab, hO, hbel⟩ := hrel
    have hsz := hbel.size
    have HU := Lib.hid hu
    have HV := Lib.hid hv
    have HO := Lib.hid hO
    have hul := hu.1
    have hvl := hv.1
    clear hO
    by_cases h00 : la = 0 ∧ lb = 0
    · obtain ⟨rfl, rfl⟩ := h00
      have hus : us = [] := List.eq_nil_of_length_eq_zero (by omega)
      have hvs : vs = [] := List.eq_nil_of_length_eq_zero (by omega)
      have hF : acc = E := by rw [← HG.out, hus, hvs]; simp [sgnL, mergeL_nil, nzL]
      subst hF
      clear hu hv HG hus hvs
      go_wp2_with fail
      go_ret
      exact ⟨_, rfl, HO.out, hbel⟩
    · have CF := Lib.hid (cfirst_any a la ca us b lb cb vs wr (hu.below hbel (Nat.le_refl _)) (hv.below hbel (Nat.le_refl _)) (by omega) (by omega))
      have hpos : (0 : Int) < (la : Int) ∨ ((0 : Int) < (lb : Int)) := by omega
      rcases cmpF_step s us vs (fun h => h00 ⟨by rw [← hul, h.1]; rfl, by rw [← hvl, h.2]; rfl⟩) with ⟨hc, x, us', hx, hm⟩ | ⟨hc, y, vs', hy, hm⟩ | ⟨hc, x, us', y, vs', hx, hy, hr, hm⟩
      · rw [hc] at CF
        have hla : 0 < la := by rw [← hul, hx]; simp
        obtain ⟨r1, n1, ra1, rl1, rc1, b1, off1, h1, rfl, hbl1, e10, e11, hv1, k11, k12, k13⟩ := (HU.out).at (k := 0) hla
        have hx1 : x = ⟨r1, n1⟩ := by rw [hx] at h1; simpa using h1
        subst hx1
        have rw1 : IsRow w (.slice ra1 rl1 rc1) r1 := ⟨ra1, rl1, rc1, rfl, hv1, k11, k12, k13⟩
        obtain ⟨a9, c9, sl9, hd9, j1, j2, j3⟩ := slice_from_ents 1 1 rfl HU.out (by omega) g1 g2 g3
        rw [show us.drop 1 = us' by rw [hx]; rfl] at hd9
        have HH9 := Lib.hid hd9
        have habx := absS_head (y := ⟨r1, n1⟩) (vs := us') (z := 1000000000000) (by rw [← hx]; have := absS_nonneg vs; omega) (by omega)
        simp only at habx
        simp only [Nat.zero_mul, Nat.add_zero] at e10 e11
        clear hv1 hd9 h1
        clear hu hv hpos
        go_wp2_with (first | (go_at_call 84; refine CF.out.mono ?_; rintro e w1 ⟨rfl, hb1⟩; have hB1 := hbel.trans (hb1.mono hsz); have d10 := (hB1.cell (p := ⟨b1, off1, none⟩) hbl1).trans e10; have d11 := (hB1.cell (p := ⟨b1, off1 + 1, none⟩) hbl1).trans e11; have hb1l : b1 < w1.heap.size := Nat.lt_of_lt_of_le hbl1 hB1.size))
        have HO1 := Lib.hid (HO.out.below hb1)
        have hs1 := hB1.size
        have hi9 : (0 : Int) < (la : Int) := by omega
        have hi8 : 0 < la := by omega
        go_region
        have bx := ebox w1 (.slice ra1 rl1 rc1) (n1) 30
        have HO2 := Lib.hid ((HO1.out.alloc (.cells #[.slice ra1 rl1 rc1, .int .i64 (n1)] 30)).drew)
        have hB2 := (hB1.alloc hs1 (.cells #[.slice ra1 rl1 rc1, .int .i64 (n1)] 30)).drew
        have hs2 := hB2.size
        have x0 := bx.1
        have x1 := bx.2
        change _ = _ at x0 x1
        have y0 : ((w1.alloc (.cells #[.slice ra1 rl1 rc1, .int .i64 (n1)] 30)).drew).cell? ⟨w1.heap.size, 0, none⟩ = some (.slice ra1 rl1 rc1) := x0
        have y1 : ((w1.alloc (.cells #[.slice ra1 rl1 rc1, .int .i64 (n1)] 30)).drew).cell? ⟨w1.heap.size, 1, none⟩ = some (.int .i64 (n1)) := x1
        generalize hW2 : ((w1.alloc (.cells #[.slice ra1 rl1 rc1, .int .i64 (n1)] 30)).drew) = W2 at *
        clear bx x0 x1 hW2
        by_cases hm0 : n1 = 0
        · have HG2 : Hid (acc ++ nzL (mergeL us' (sgnL s vs)) = E) := by
            show _ = _
            rw [← HG.out, hm, nzL_cons_zero _ (by first | exact hm0 | rfl)]
          have hmb : (n1 != 0) = false := by simpa using hm0
          have REL := Lib.hid (MergeP.mk (w := w) (s := s) (E := E) (wr := W2) _ _ _ _ _ _ _ _ _ _ HH9.out HV.out j1 j2 j3 g4 g5 g6 HG2 (by omega) (by have := absS_nonneg vs; rw [hx] at hab; simp only [absS] at hab; split at hab <;> omega) HO2.out hB2)
          clear HG2 HG hm
          go_wp2_with fail
          go_simp
          exact ⟨REL.out, by simp [lenOf]; omega⟩
        · have HG2 : Hid ((acc ++ [⟨r1, n1⟩]) ++ nzL (mergeL us' (sgnL s vs)) = E) := by
            show _ = _
            rw [← HG.out, hm, nzL_cons_more _ (by exact hm0), List.append_assoc]
            rfl
          have hmb : (n1 != 0) = true := by simpa using hm0
          obtain ⟨l9, ho9, PUSH⟩ := pushed (n1) HO2.out rw1 hB2
          have HP := Lib.hid PUSH
          clear PUSH HG hm
          go_wp2_with (at_builtin; refine wpList_append_lies _ rfl _ _ 22 rfl w.heap.size 30 i0 _ 2 32 Try.underlying22 hi hz0 hz1 hz2 rfl (by decide) _ _ _ rfl (ho9.alloc _) ⟨W2.heap.size, 0, none⟩ 1 1 [.slice ra1 rl1 rc1, .int .i64 (n1)] rfl rfl (World.news_of_block (cs := #[.slice ra1 rl1 rc1, .int .i64 (n1)]) (t := 30) (fr := (0, 0)) (heap_alloc_new W2 _)) (by simp [Value.oneCell']) (by omega) (by unfold maxLen; omega) (by omega) (by simp; omega) (W2.heap.size + 1) (by simp) ?_)
          intro gg cc w9 hown9 hgrow9 hat9 hlt9
          obtain ⟨hO3, hB3⟩ := HP.out _ gg cc w9 ((Below.refl _ _).alloc (Nat.le_refl _) _) hown9 hgrow9 (hat9.imp id fun h => by rw [h]; simp)
          clear HP hown9 hgrow9 hat9 hlt9 ho9
          have REL := Lib.hid (MergeP.mk (w := w) (s := s) (E := E) (wr := w9) _ _ _ _ _ _ _ _ _ _ HH9.out HV.out j1 j2 j3 g4 g5 g6 HG2 (by simp; omega) (by have := absS_nonneg vs; rw [hx] at hab; simp only [absS] at hab; split at hab <;> omega) hO3 hB3)
          clear HG2 hO3
          go_wp2_with fail
          go_simp
          exact ⟨REL.out, by simp [lenOf]; omega⟩
      · rw [hc] at CF
        have hlaa : la = 0 ∨ 0 < la := by omega
        clear hpos
        rcases hlaa with hla0 | hla0
        · subst hla0
          have hlb : 0 < lb := by rw [← hvl, hy]; simp
          obtain ⟨r2, n2, ra2, rl2, rc2, b2, off2, h2, rfl, hbl2, e20, e21, hv2, k21, k22, k23⟩ := (HV.out).at (k := 0) hlb
          have hy1 : y = ⟨r2, n2⟩ := by rw [hy] at h2; simpa using h2
          subst hy1
          have rw2 : IsRow w (.slice ra2 rl2 rc2) r2 := ⟨ra2, rl2, rc2, rfl, hv2, k21, k22, k23⟩
          obtain ⟨a8, c8, sl8, hd8, i1, i2, i3⟩ := slice_from_ents 1 1 rfl HV.out (by omega) g4 g5 g6
          rw [show vs.drop 1 = vs' by rw [hy]; rfl] at hd8
          have HH8 := Lib.hid hd8
          have haby := absS_head (y := ⟨r2, n2⟩) (vs := vs') (z := 1000000000000) (by rw [← hy]; have := absS_nonneg us; omega) (by omega)
          simp only at haby
          simp only [Nat.zero_mul, Nat.add_zero] at e20 e21
          have hqb : -1000000000000 ≤ s * n2 ∧ s * n2 ≤ 1000000000000 := by
            rcases HSS.out with h | h <;> rw [h] <;> omega
          generalize hq : s * n2 = q at *
          obtain ⟨hqb1, hqb2⟩ := hqb
          have hwq : IntKind.i64.wrap q = q := by rw [IntKind.wrap_i64]; omega
          clear hv2 hd8 h2
          have hwz : IntKind.i64.wrap (0 + q) = q := by rw [Int.zero_add]; exact hwq
          clear hu hv
          go_wp2_with (first | (go_at_call 84; refine CF.out.mono ?_; rintro e w1 ⟨rfl, hb1⟩; have hB1 := hbel.trans (hb1.mono hsz); have d20 := (hB1.cell (p := ⟨b2, off2, none⟩) hbl2).trans e20; have d21 := (hB1.cell (p := ⟨b2, off2 + 1, none⟩) hbl2).trans e21; have hb2l : b2 < w1.heap.size := Nat.lt_of_lt_of_le hbl2 hB1.size))
          have HO1 := Lib.hid (HO.out.below hb1)
          have hs1 := hB1.size
          have hk9 : (0 : Int) < (lb : Int) := by omega
          have hk8 : 0 < lb := by omega
          go_region
          have bx := ebox w1 (.slice ra2 rl2 rc2) (q) 30
          have HO2 := Lib.hid ((HO1.out.alloc (.cells #[.slice ra2 rl2 rc2, .int .i64 (q)] 30)).drew)
          have hB2 := (hB1.alloc hs1 (.cells #[.slice ra2 rl2 rc2, .int .i64 (q)] 30)).drew
          have hs2 := hB2.size
          have x0 := bx.1
          have x1 := bx.2
          change _ = _ at x0 x1
          have y0 : ((w1.alloc (.cells #[.slice ra2 rl2 rc2, .int .i64 (q)] 30)).drew).cell? ⟨w1.heap.size, 0, none⟩ = some (.slice ra2 rl2 rc2) := x0
          have y1 : ((w1.alloc (.cells #[.slice ra2 rl2 rc2, .int .i64 (q)] 30)).drew).cell? ⟨w1.heap.size, 1, none⟩ = some (.int .i64 (q)) := x1
          generalize hW2 : ((w1.alloc (.cells #[.slice ra2 rl2 rc2, .int .i64 (q)] 30)).drew) = W2 at *
          clear bx x0 x1 hW2
          by_cases hm0 : q = 0
          · have HG2 : Hid (acc ++ nzL (mergeL us (sgnL s vs')) = E) := by
              show _ = _
              rw [← HG.out, hm, nzL_cons_zero _ (by first | exact hm0 | rfl)]
            have hmb : (q != 0) = false := by simpa using hm0
            have REL := Lib.hid (MergeP.mk (w := w) (s := s) (E := E) (wr := W2) _ _ _ _ _ _ _ _ _ _ HU.out HH8.out g1 g2 g3 i1 i2 i3 HG2 (by omega) (by have := absS_nonneg us; rw [hy] at hab; simp only [absS] at hab; split at hab <;> omega) HO2.out hB2)
            clear HG2 HG hm
            go_wp2_with fail
            go_simp
            exact ⟨REL.out, by simp [lenOf]; omega⟩
          · have HG2 : Hid ((acc ++ [⟨r2, q⟩]) ++ nzL (mergeL us (sgnL s vs')) = E) := by
              show _ = _
              rw [← HG.out, hm, nzL_cons_more _ (by exact hm0), List.append_assoc]
              rfl
            have hmb : (q != 0) = true := by simpa using hm0
            obtain ⟨l9, ho9, PUSH⟩ := pushed (q) HO2.out rw2 hB2
            have HP := Lib.hid PUSH
            clear PUSH HG hm
            go_wp2_with (at_builtin; refine wpList_append_lies _ rfl _ _ 22 rfl w.heap.size 30 i0 _ 2 32 Try.underlying22 hi hz0 hz1 hz2 rfl (by decide) _ _ _ rfl (ho9.alloc _) ⟨W2.heap.size, 0, none⟩ 1 1 [.slice ra2 rl2 rc2, .int .i64 (q)] rfl rfl (World.news_of_block (cs := #[.slice ra2 rl2 rc2, .int .i64 (q)]) (t := 30) (fr := (0, 0)) (heap_alloc_new W2 _)) (by simp [Value.oneCell']) (by omega) (by unfold maxLen; omega) (by omega) (by simp; omega) (W2.heap.size + 1) (by simp) ?_)
            intro gg cc w9 hown9 hgrow9 hat9 hlt9
            obtain ⟨hO3, hB3⟩ := HP.out _ gg cc w9 ((Below.refl _ _).alloc (Nat.le_refl _) _) hown9 hgrow9 (hat9.imp id fun h => by rw [h]; simp)
            clear HP hown9 hgrow9 hat9 hlt9 ho9
            have REL := Lib.hid (MergeP.mk (w := w) (s := s) (E := E) (wr := w9) _ _ _ _ _ _ _ _ _ _ HU.out HH8.out g1 g2 g3 i1 i2 i3 HG2 (by simp; omega) (by have := absS_nonneg us; rw [hy] at hab; simp only [absS] at hab; split at hab <;> omega) hO3 hB3)
            clear HG2 hO3
            go_wp2_with fail
            go_simp
            exact ⟨REL.out, by simp [lenOf]; omega⟩
        · have hla1 := hla0
          have hlb : 0 < lb := by rw [← hvl, hy]; simp
          obtain ⟨r2, n2, ra2, rl2, rc2, b2, off2, h2, rfl, hbl2, e20, e21, hv2, k21, k22, k23⟩ := (HV.out).at (k := 0) hlb
          have hy1 : y = ⟨r2, n2⟩ := by rw [hy] at h2; simpa using h2
          subst hy1
          have rw2 : IsRow w (.slice ra2 rl2 rc2) r2 := ⟨ra2, rl2, rc2, rfl, hv2, k21, k22, k23⟩
          obtain ⟨a8, c8, sl8, hd8, i1, i2, i3⟩ := slice_from_ents 1 1 rfl HV.out (by omega) g4 g5 g6
          rw [show vs.drop 1 = vs' by rw [hy]; rfl] at hd8
          have HH8 := Lib.hid hd8
          have haby := absS_head (y := ⟨r2, n2⟩) (vs := vs') (z := 1000000000000) (by rw [← hy]; have := absS_nonneg us; omega) (by omega)
          simp only at haby
          simp only [Nat.zero_mul, Nat.add_zero] at e20 e21
          have hqb : -1000000000000 ≤ s * n2 ∧ s * n2 ≤ 1000000000000 := by
            rcases HSS.out with h | h <;> rw [h] <;> omega
          generalize hq : s * n2 = q at *
          obtain ⟨hqb1, hqb2⟩ := hqb
          have hwq : IntKind.i64.wrap q = q := by rw [IntKind.wrap_i64]; omega
          clear hv2 hd8 h2
          have hwz : IntKind.i64.wrap (0 + q) = q := by rw [Int.zero_add]; exact hwq
          clear hu hv
          go_wp2_with (first | (go_at_call 84; refine CF.out.mono ?_; rintro e w1 ⟨rfl, hb1⟩; have hB1 := hbel.trans (hb1.mono hsz); have d20 := (hB1.cell (p := ⟨b2, off2, none⟩) hbl2).trans e20; have d21 := (hB1.cell (p := ⟨b2, off2 + 1, none⟩) hbl2).trans e21; have hb2l : b2 < w1.heap.size := Nat.lt_of_lt_of_le hbl2 hB1.size))
          have HO1 := Lib.hid (HO.out.below hb1)
          have hs1 := hB1.size
          have hk9 : (0 : Int) < (lb : Int) := by omega
          have hk8 : 0 < lb := by omega
          go_region
          have bx := ebox w1 (.slice ra2 rl2 rc2) (q) 30
          have HO2 := Lib.hid ((HO1.out.alloc (.cells #[.slice ra2 rl2 rc2, .int .i64 (q)] 30)).drew)
          have hB2 := (hB1.alloc hs1 (.cells #[.slice ra2 rl2 rc2, .int .i64 (q)] 30)).drew
          have hs2 := hB2.size
          have x0 := bx.1
          have x1 := bx.2
          change _ = _ at x0 x1
          have y0 : ((w1.alloc (.cells #[.slice ra2 rl2 rc2, .int .i64 (q)] 30)).drew).cell? ⟨w1.heap.size, 0, none⟩ = some (.slice ra2 rl2 rc2) := x0
          have y1 : ((w1.alloc (.cells #[.slice ra2 rl2 rc2, .int .i64 (q)] 30)).drew).cell? ⟨w1.heap.size, 1, none⟩ = some (.int .i64 (q)) := x1
          generalize hW2 : ((w1.alloc (.cells #[.slice ra2 rl2 rc2, .int .i64 (q)] 30)).drew) = W2 at *
          clear bx x0 x1 hW2
          by_cases hm0 : q = 0
          · have HG2 : Hid (acc ++ nzL (mergeL us (sgnL s vs')) = E) := by
              show _ = _
              rw [← HG.out, hm, nzL_cons_zero _ (by first | exact hm0 | rfl)]
            have hmb : (q != 0) = false := by simpa using hm0
            have REL := Lib.hid (MergeP.mk (w := w) (s := s) (E := E) (wr := W2) _ _ _ _ _ _ _ _ _ _ HU.out HH8.out g1 g2 g3 i1 i2 i3 HG2 (by omega) (by have := absS_nonneg us; rw [hy] at hab; simp only [absS] at hab; split at hab <;> omega) HO2.out hB2)
            clear HG2 HG hm
            go_wp2_with fail
            go_simp
            exact ⟨REL.out, by simp [lenOf]; omega⟩
          · have HG2 : Hid ((acc ++ [⟨r2, q⟩]) ++ nzL (mergeL us (sgnL s vs')) = E) := by
              show _ = _
              rw [← HG.out, hm, nzL_cons_more _ (by exact hm0), List.append_assoc]
              rfl
            have hmb : (q != 0) = true := by simpa using hm0
            obtain ⟨l9, ho9, PUSH⟩ := pushed (q) HO2.out rw2 hB2
            have HP := Lib.hid PUSH
            clear PUSH HG hm
            go_wp2_with (at_builtin; refine wpList_append_lies _ rfl _ _ 22 rfl w.heap.size 30 i0 _ 2 32 Try.underlying22 hi hz0 hz1 hz2 rfl (by decide) _ _ _ rfl (ho9.alloc _) ⟨W2.heap.size, 0, none⟩ 1 1 [.slice ra2 rl2 rc2, .int .i64 (q)] rfl rfl (World.news_of_block (cs := #[.slice ra2 rl2 rc2, .int .i64 (q)]) (t := 30) (fr := (0, 0)) (heap_alloc_new W2 _)) (by simp [Value.oneCell']) (by omega) (by unfold maxLen; omega) (by omega) (by simp; omega) (W2.heap.size + 1) (by simp) ?_)
            intro gg cc w9 hown9 hgrow9 hat9 hlt9
            obtain ⟨hO3, hB3⟩ := HP.out _ gg cc w9 ((Below.refl _ _).alloc (Nat.le_refl _) _) hown9 hgrow9 (hat9.imp id fun h => by rw [h]; simp)
            clear HP hown9 hgrow9 hat9 hlt9 ho9
            have REL := Lib.hid (MergeP.mk (w := w) (s := s) (E := E) (wr := w9) _ _ _ _ _ _ _ _ _ _ HU.out HH8.out g1 g2 g3 i1 i2 i3 HG2 (by simp; omega) (by have := absS_nonneg us; rw [hy] at hab; simp only [absS] at hab; split at hab <;> omega) hO3 hB3)
            clear HG2 hO3
            go_wp2_with fail
            go_simp
            exact ⟨REL.out, by simp [lenOf]; omega⟩
      · rw [hc] at CF
        have hla : 0 < la := by rw [← hul, hx]; simp
        obtain ⟨r1, n1, ra1, rl1, rc1, b1, off1, h1, rfl, hbl1, e10, e11, hv1, k11, k12, k13⟩ := (HU.out).at (k := 0) hla
        have hx1 : x = ⟨r1, n1⟩ := by rw [hx] at h1; simpa using h1
        subst hx1
        have rw1 : IsRow w (.slice ra1 rl1 rc1) r1 := ⟨ra1, rl1, rc1, rfl, hv1, k11, k12, k13⟩
        obtain ⟨a9, c9, sl9, hd9, j1, j2, j3⟩ := slice_from_ents 1 1 rfl HU.out (by omega) g1 g2 g3
        rw [show us.drop 1 = us' by rw [hx]; rfl] at hd9
        have HH9 := Lib.hid hd9
        have habx := absS_head (y := ⟨r1, n1⟩) (vs := us') (z := 1000000000000) (by rw [← hx]; have := absS_nonneg vs; omega) (by omega)
        simp only at habx
        simp only [Nat.zero_mul, Nat.add_zero] at e10 e11
        clear hv1 hd9 h1
        have hlb : 0 < lb := by rw [← hvl, hy]; simp
        obtain ⟨r2, n2, ra2, rl2, rc2, b2, off2, h2, rfl, hbl2, e20, e21, hv2, k21, k22, k23⟩ := (HV.out).at (k := 0) hlb
        have hy1 : y = ⟨r2, n2⟩ := by rw [hy] at h2; simpa using h2
        subst hy1
        have rw2 : IsRow w (.slice ra2 rl2 rc2) r2 := ⟨ra2, rl2, rc2, rfl, hv2, k21, k22, k23⟩
        obtain ⟨a8, c8, sl8, hd8, i1, i2, i3⟩ := slice_from_ents 1 1 rfl HV.out (by omega) g4 g5 g6
        rw [show vs.drop 1 = vs' by rw [hy]; rfl] at hd8
        have HH8 := Lib.hid hd8
        have haby := absS_head (y := ⟨r2, n2⟩) (vs := vs') (z := 1000000000000) (by rw [← hy]; have := absS_nonneg us; omega) (by omega)
        simp only at haby
        simp only [Nat.zero_mul, Nat.add_zero] at e20 e21
        have hqb : -1000000000000 ≤ s * n2 ∧ s * n2 ≤ 1000000000000 := by
          rcases HSS.out with h | h <;> rw [h] <;> omega
        generalize hq : s * n2 = q at *
        obtain ⟨hqb1, hqb2⟩ := hqb
        have hwq : IntKind.i64.wrap q = q := by rw [IntKind.wrap_i64]; omega
        clear hv2 hd8 h2
        have hwz : IntKind.i64.wrap (n1 + q) = n1 + q := by rw [IntKind.wrap_i64]; omega
        clear hu hv hpos
        go_wp2_with (first | (go_at_call 84; refine CF.out.mono ?_; rintro e w1 ⟨rfl, hb1⟩; have hB1 := hbel.trans (hb1.mono hsz); have d10 := (hB1.cell (p := ⟨b1, off1, none⟩) hbl1).trans e10; have d11 := (hB1.cell (p := ⟨b1, off1 + 1, none⟩) hbl1).trans e11; have hb1l : b1 < w1.heap.size := Nat.lt_of_lt_of_le hbl1 hB1.size; have d20 := (hB1.cell (p := ⟨b2, off2, none⟩) hbl2).trans e20; have d21 := (hB1.cell (p := ⟨b2, off2 + 1, none⟩) hbl2).trans e21; have hb2l : b2 < w1.heap.size := Nat.lt_of_lt_of_le hbl2 hB1.size))
        have HO1 := Lib.hid (HO.out.below hb1)
        have hs1 := hB1.size
        have hi9 : (0 : Int) < (la : Int) := by omega
        have hi8 : 0 < la := by omega
        have hk9 : (0 : Int) < (lb : Int) := by omega
        have hk8 : 0 < lb := by omega
        go_region
        go_wp2_with fail
        have hk9 : (0 : Int) < (lb : Int) := by omega
        have hk8 : 0 < lb := by omega
        go_region
        have bx := ebox w1 (.slice ra2 rl2 rc2) (n1 + q) 30
        have HO2 := Lib.hid (((HO1.out.alloc (.cells #[.slice ra2 rl2 rc2, .int .i64 (n1 + q)] 30)).drew).drew)
        have hB2 := ((hB1.alloc hs1 (.cells #[.slice ra2 rl2 rc2, .int .i64 (n1 + q)] 30)).drew).drew
        have hs2 := hB2.size
        have x0 := bx.1
        have x1 := bx.2
        change _ = _ at x0 x1
        have y0 : (((w1.alloc (.cells #[.slice ra2 rl2 rc2, .int .i64 (n1 + q)] 30)).drew).drew).cell? ⟨w1.heap.size, 0, none⟩ = some (.slice ra2 rl2 rc2) := x0
        have y1 : (((w1.alloc (.cells #[.slice ra2 rl2 rc2, .int .i64 (n1 + q)] 30)).drew).drew).cell? ⟨w1.heap.size, 1, none⟩ = some (.int .i64 (n1 + q)) := x1
        generalize hW2 : (((w1.alloc (.cells #[.slice ra2 rl2 rc2, .int .i64 (n1 + q)] 30)).drew).drew) = W2 at *
        clear bx x0 x1 hW2
        by_cases hm0 : n1 + q = 0
        · have HG2 : Hid (acc ++ nzL (mergeL us' (sgnL s vs')) = E) := by
            show _ = _
            rw [← HG.out, hm, nzL_cons_zero _ (by first | exact hm0 | rfl)]
          have hmb : (n1 + q != 0) = false := by simpa using hm0
          have REL := Lib.hid (MergeP.mk (w := w) (s := s) (E := E) (wr := W2) _ _ _ _ _ _ _ _ _ _ HH9.out HH8.out j1 j2 j3 i1 i2 i3 HG2 (by omega) (by rw [hx, hy] at hab; simp only [absS] at hab; split at hab <;> split at hab <;> omega) HO2.out hB2)
          clear HG2 HG hm
          go_wp2_with fail
          go_simp
          exact ⟨REL.out, by simp [lenOf]; omega⟩
        · have HG2 : Hid ((acc ++ [⟨r2, n1 + q⟩]) ++ nzL (mergeL us' (sgnL s vs')) = E) := by
            show _ = _
            rw [← HG.out, hm, nzL_cons_more _ (by exact hm0), List.append_assoc]
            rfl
          have hmb : (n1 + q != 0) = true := by simpa using hm0
          obtain ⟨l9, ho9, PUSH⟩ := pushed (n1 + q) HO2.out rw2 hB2
          have HP := Lib.hid PUSH
          clear PUSH HG hm
          go_wp2_with (at_builtin; refine wpList_append_lies _ rfl _ _ 22 rfl w.heap.size 30 i0 _ 2 32 Try.underlying22 hi hz0 hz1 hz2 rfl (by decide) _ _ _ rfl (ho9.alloc _) ⟨W2.heap.size, 0, none⟩ 1 1 [.slice ra2 rl2 rc2, .int .i64 (n1 + q)] rfl rfl (World.news_of_block (cs := #[.slice ra2 rl2 rc2, .int .i64 (n1 + q)]) (t := 30) (fr := (0, 0)) (heap_alloc_new W2 _)) (by simp [Value.oneCell']) (by omega) (by unfold maxLen; omega) (by omega) (by simp; omega) (W2.heap.size + 1) (by simp) ?_)
          intro gg cc w9 hown9 hgrow9 hat9 hlt9
          obtain ⟨hO3, hB3⟩ := HP.out _ gg cc w9 ((Below.refl _ _).alloc (Nat.le_refl _) _) hown9 hgrow9 (hat9.imp id fun h => by rw [h]; simp)
          clear HP hown9 hgrow9 hat9 hlt9 ho9
          have REL := Lib.hid (MergeP.mk (w := w) (s := s) (E := E) (wr := w9) _ _ _ _ _ _ _ _ _ _ HH9.out HH8.out j1 j2 j3 i1 i2 i3 HG2 (by simp; omega) (by rw [hx, hy] at hab; simp only [absS] at hab; split at hab <;> split at hab <;> omega) hO3 hB3)
          clear HG2 hO3
          go_wp2_with fail
          go_simp
          exact ⟨REL.out, by simp [lenOf]; omega⟩

end Go.Proofs.Ytdhhhmehkldliaa
