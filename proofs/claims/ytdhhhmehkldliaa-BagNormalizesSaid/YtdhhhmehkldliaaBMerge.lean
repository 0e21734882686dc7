/-
  merge of the reference.
-/
import Derived.Test.YtdhhhmehkldliaaBRead2
import Derived.Test.YtdhhhmehkldliaaBPush
import Derived.Deep.RegionLaw
import Derived.Deep.RegionHeld3
import Derived.BigQuiet
set_option linter.unusedVariables false
namespace Go.Proofs.Ytdhhhmehkldliaa
open Go.RowKit Wh

/-- A slice's length. -/
def lenOf : Value → Nat
  | .slice _ l _ => l
  | _ => 0

theorem mergeL_right (us : List En) (y : En) (vs : List En) (h : us = [] ∨ ∃ x us', us = x :: us' ∧ 0 < cmpR x.row y.row) : mergeL us (y :: vs) = y :: mergeL us vs := by
  rcases h with rfl | ⟨x, us', rfl, h⟩
  · rw [mergeL_nil, mergeL_nil]
  · rw [mergeL_cons, if_neg (by omega), if_pos h]
theorem mergeL_left (x : En) (us vs : List En) (h : vs = [] ∨ ∃ y vs', vs = y :: vs' ∧ cmpR x.row y.row < 0) : mergeL (x :: us) vs = x :: mergeL us vs := by
  rcases h with rfl | ⟨y, vs', rfl, h⟩
  · rw [mergeL_none, mergeL_none]
  · rw [mergeL_cons, if_pos h]
theorem keepCmp {w W w' : World} {b o b2 o2 : Nat} {v1 v2 : Value}
    (h : W.cell? ⟨b, o, none⟩ = some v1 ∧ W.cell? ⟨b2, o2, none⟩ = some v2 ∧ b < W.heap.size ∧ b2 < W.heap.size ∧ w.heap.size ≤ W.heap.size ∧ Below w.heap.size w W) (hc : Below W.heap.size W w') :
    w'.cell? ⟨b, o, none⟩ = some v1 ∧ w'.cell? ⟨b2, o2, none⟩ = some v2 ∧ b < w'.heap.size ∧ b2 < w'.heap.size ∧ w.heap.size ≤ w'.heap.size ∧ Below w.heap.size w w' := by
  obtain ⟨h1, h2, h3, h4, h5, h6⟩ := h
  have e := (bcell hc).1
  have hs := hc.size
  exact ⟨by rw [e _ _ h3]; exact h1, by rw [e _ _ h4]; exact h2, by omega, by omega, by omega, h6.trans (hc.mono h5)⟩
theorem cons_of {α : Type} {l : List α} {x : α} (h : l[0]? = some x) : l = x :: l.drop 1 := by
  cases l with
  | nil => simp at h
  | cons y l => simp at h; subst h; rfl

/-- What holds at the head of each round: the rests, and what is merged so far. -/
inductive MergeRel (w : World) (E : List En) (wr : World) : Value → Value → Value → Prop
  | mk (a b : Option Addr) (la ca lb cb : Nat) (us vs acc : List En) (ov : Value) (hu : IsEnts w a la us) (hv : IsEnts w b lb vs) (g1 : la ≤ ca) (g2 : ca ≤ maxLen) (g3 : a = none → ca = 0) (g4 : lb ≤ cb) (g5 : cb ≤ maxLen) (g6 : b = none → cb = 0)
      (hg : Hid (acc ++ mergeL us vs = E)) (hlen : acc.length + la + lb ≤ 1000000) (hab : absS us + absS vs ≤ 1000000000000) (ho : OwnEnts wr w.heap.size ov acc) (hb : Below w.heap.size w wr) : MergeRel w E wr (.slice a la ca) (.slice b lb cb) ov

theorem MergeRel.drewN {w : World} {E : List En} {wr : World} {x y z : Value} (h : MergeRel w E wr x y z) (n : Nat) : MergeRel w E (wr.drewN n) x y z := by
  obtain ⟨a, b, la, ca, lb, cb, us, vs, acc, _, hu, hv, g1, g2, g3, g4, g5, g6, hg, hlen, hab, hO, hb⟩ := h
  exact .mk _ _ _ _ _ _ _ _ _ _ hu hv g1 g2 g3 g4 g5 g6 hg hlen hab (hO.drewN n) (below_drewN hb n)

set_option maxHeartbeats 16000000 in
set_option maxRecDepth 100000 in
theorem rmerge_any (a1 : Option Addr) (len1 cap1 : Nat) (xs : List En) (a2 : Option Addr) (len2 cap2 : Nat) (ys : List En) (w : World) (h1 : IsEnts w a1 len1 xs) (h2 : IsEnts w a2 len2 ys)
    (p1 : len1 ≤ cap1) (p2 : cap1 ≤ maxLen) (p3 : a1 = none → cap1 = 0) (p4 : len2 ≤ cap2) (p5 : cap2 ≤ maxLen) (p6 : a2 = none → cap2 = 0) (hsm : len1 + len2 ≤ 1000000) (habs : absS xs + absS ys ≤ 1000000000000) :
    Calls Try.prog 65 #[.slice a1 len1 cap1, .slice a2 len2 cap2] w (EntsPost w (mergeL xs ys)) := by
  generalize hE : mergeL xs ys = E
  have HE := Lib.hid hE
  have H1 := Lib.hid h1
  have H2 := Lib.hid h2
  obtain ⟨i0, hi, hz0, hz1, hz2⟩ := info_parts info_ent
  have mm : maxLen = 9223372036854775807 := rfl
  clear h1 h2 hE
  go_enter Try.func65, Try.ntmps65
  go_wp2_with fail
  go_loopw [0, 1, 5, 6] (fun av bv ov _ wr => MergeRel w E wr av bv ov)
    (fun av bv _ _ _ => lenOf av + lenOf bv)
  case atStart => exact .mk a1 a2 len1 cap1 len2 cap2 xs ys [] _ H1.out H2.out p1 p2 p3 p4 p5 p6 (by show _ = _; simpa using HE.out) (by simpa using hsm) habs (OwnEnts.nil _ _) (Below.refl _ _)
  case round =>
    obtain ⟨a, b, la, ca, lb, cb, us, vs, acc, _, hu, hv, g1, g2, g3, g4, g5, g6, HG, hlen, hab, hO, hbel⟩ := hrel
    have hsz := hbel.size
    have HU := Lib.hid hu
    have HV := Lib.hid hv
    have HO := Lib.hid hO
    have hul := hu.1
    have hvl := hv.1
    clear hO
    by_cases ha0 : la = 0
    · have hus : us = [] := List.eq_nil_of_length_eq_zero (by omega)
      by_cases hb0 : lb = 0
      · have hvs : vs = [] := List.eq_nil_of_length_eq_zero (by omega)
        have hF : acc = E := by rw [← HG.out, hus, hvs, mergeL_nil, List.append_nil]
        subst ha0 hb0
        subst hF
        clear hu hv HG hus hvs
        go_wp2_with fail
        go_ret
        exact ⟨_, rfl, HO.out, hbel⟩
      · -- the rest of b
        obtain ⟨r2, n2, ra2, rl2, rc2, b2, off2, h2, rfl, hbl2, e20, e21, hv2, k21, k22, k23⟩ := (HV.out).at (k := 0) (by omega)
        have rw2 : IsRow w (.slice ra2 rl2 rc2) r2 := ⟨ra2, rl2, rc2, rfl, hv2, k21, k22, k23⟩
        have hc2 := cons_of h2
        have HG2 : Hid ((acc ++ [⟨r2, n2⟩]) ++ mergeL us (vs.drop 1) = E) := by
          show _ = _
          rw [← HG.out, List.append_assoc]
          congr 1
          conv => rhs; rw [hc2]
          rw [mergeL_right _ _ _ (.inl hus)]
          rfl
        have hab2 : absS us + absS (vs.drop 1) ≤ 1000000000000 := by
          have h9 := hab
          rw [hc2] at h9
          simp only [absS] at h9
          split at h9 <;> omega
        have e2 := fun o => (hbel).cell (p := ⟨b2, o, none⟩) hbl2
        have c20 : wr.cell? ⟨b2, off2, none⟩ = some (.slice ra2 rl2 rc2) := by rw [e2]; simpa using e20
        have c21 : wr.cell? ⟨b2, off2 + 1, none⟩ = some (.int .i64 n2) := by rw [e2]; simpa using e21
        clear e2
        subst ha0
        have hlb : (0 : Int) < (lb : Int) := by omega
        clear hu hv hus HG
        obtain ⟨l9, ho9, PUSH⟩ := pushed n2 (HO.out) rw2 (hbel)
        obtain ⟨a9, c9, sl9, hd9, j1, j2, j3⟩ := slice_from_ents 1 1 rfl HV.out (by omega) g4 g5 g6
        have HP := Lib.hid PUSH
        have hH9 := Lib.hid hd9
        clear PUSH hd9
        have hs9 := (hbel).size
        go_wp2_with fail
        have hi9 : (0 : Int) < (lb : Int) := by omega
        have hi8 : 0 < lb := by omega
        go_region_law (refine step_append_lies _ (by rfl) (.tmp 65) (.tmp 69) _ (by rfl) w.heap.size 30 i0 _ 2 32 Try.underlying22 hi hz0 hz1 hz2 rfl (by omega) _ _ _ (by rfl) ((ho9.alloc _).drew) ⟨wr.heap.size, 0, none⟩ 1 1 [.slice ra2 rl2 rc2, .int .i64 n2] (by rfl) (by rfl) (World.news_of_block (cs := #[.slice ra2 rl2 rc2, .int .i64 n2]) (t := 30) (fr := (0, 0)) (heap_alloc_new wr _)) (by simp [Value.oneCell']) (by omega) (by unfold maxLen; omega) (by omega) (by simp; omega) (wr.heap.size + 1) (by simp) ?_; intro gg cc w9 hown9 hgrow9 hat9 hlt9)
        all_goals
          obtain ⟨hO3, hB3⟩ := HP.out _ gg cc w9 (((Below.refl _ _).alloc (Nat.le_refl _) _).drew) hown9 hgrow9 (hat9.imp id fun h => by rw [h]; simp)
          have hd9 := hH9.out
          clear HP hH9 hown9 hgrow9 hat9 hlt9 ho9
          have REL := MergeRel.mk _ _ _ _ _ _ _ _ _ _ HU.out hd9 g1 g2 g3 j1 j2 j3 HG2 (by simp; omega) hab2 hO3 hB3
          have REL2 := Lib.hid REL
          clear REL
          go_wp2_with fail
          go_simp
          exact ⟨⟨_, _, _, REL2.out, rfl, rfl, rfl⟩, by simp [lenOf]; omega⟩
    · by_cases hb0 : lb = 0
      · -- the rest of a
        have hvs : vs = [] := List.eq_nil_of_length_eq_zero (by omega)
        obtain ⟨r1, n1, ra1, rl1, rc1, b1, off1, h1, rfl, hbl1, e10, e11, hv1, k11, k12, k13⟩ := (HU.out).at (k := 0) (by omega)
        have rw1 : IsRow w (.slice ra1 rl1 rc1) r1 := ⟨ra1, rl1, rc1, rfl, hv1, k11, k12, k13⟩
        have hc1 := cons_of h1
        have HG2 : Hid ((acc ++ [⟨r1, n1⟩]) ++ mergeL (us.drop 1) vs = E) := by
          show _ = _
          rw [← HG.out, List.append_assoc]
          congr 1
          conv => rhs; rw [hc1]
          rw [mergeL_left _ _ _ (.inl hvs)]
          rfl
        have hab2 : absS (us.drop 1) + absS vs ≤ 1000000000000 := by
          have h9 := hab
          rw [hc1] at h9
          simp only [absS] at h9
          split at h9 <;> omega
        have e1 := fun o => (hbel).cell (p := ⟨b1, o, none⟩) hbl1
        have c10 : wr.cell? ⟨b1, off1, none⟩ = some (.slice ra1 rl1 rc1) := by rw [e1]; simpa using e10
        have c11 : wr.cell? ⟨b1, off1 + 1, none⟩ = some (.int .i64 n1) := by rw [e1]; simpa using e11
        clear e1
        subst hb0
        have hla : (0 : Int) < (la : Int) := by omega
        have hla0 : ((la : Int) == 0) = false := by simpa using ha0
        clear hu hv hvs HG
        obtain ⟨l9, ho9, PUSH⟩ := pushed n1 (HO.out) rw1 (hbel)
        obtain ⟨a9, c9, sl9, hd9, j1, j2, j3⟩ := slice_from_ents 1 1 rfl HU.out (by omega) g1 g2 g3
        have HP := Lib.hid PUSH
        have hH9 := Lib.hid hd9
        clear PUSH hd9
        have hs9 := (hbel).size
        go_wp2_with fail
        have hi9 : (0 : Int) < (la : Int) := by omega
        have hi8 : 0 < la := by omega
        go_region_law (refine step_append_lies _ (by rfl) (.tmp 54) (.tmp 58) _ (by rfl) w.heap.size 30 i0 _ 2 32 Try.underlying22 hi hz0 hz1 hz2 rfl (by omega) _ _ _ (by rfl) ((ho9.alloc _).drew) ⟨wr.heap.size, 0, none⟩ 1 1 [.slice ra1 rl1 rc1, .int .i64 n1] (by rfl) (by rfl) (World.news_of_block (cs := #[.slice ra1 rl1 rc1, .int .i64 n1]) (t := 30) (fr := (0, 0)) (heap_alloc_new wr _)) (by simp [Value.oneCell']) (by omega) (by unfold maxLen; omega) (by omega) (by simp; omega) (wr.heap.size + 1) (by simp) ?_; intro gg cc w9 hown9 hgrow9 hat9 hlt9)
        all_goals
          obtain ⟨hO3, hB3⟩ := HP.out _ gg cc w9 (((Below.refl _ _).alloc (Nat.le_refl _) _).drew) hown9 hgrow9 (hat9.imp id fun h => by rw [h]; simp)
          have hd9 := hH9.out
          clear HP hH9 hown9 hgrow9 hat9 hlt9 ho9
          have REL := MergeRel.mk _ _ _ _ _ _ _ _ _ _ hd9 HV.out j1 j2 j3 g4 g5 g6 HG2 (by simp; omega) hab2 hO3 hB3
          have REL2 := Lib.hid REL
          clear REL
          go_wp2_with fail
          go_simp
          exact ⟨⟨_, _, _, REL2.out, rfl, rfl, rfl⟩, by simp [lenOf]; omega⟩
      · -- both
        obtain ⟨r1, n1, ra1, rl1, rc1, b1, off1, h1, rfl, hbl1, e10, e11, hv1, k11, k12, k13⟩ := (HU.out).at (k := 0) (by omega)
        have rw1 : IsRow w (.slice ra1 rl1 rc1) r1 := ⟨ra1, rl1, rc1, rfl, hv1, k11, k12, k13⟩
        have hc1 := cons_of h1
        obtain ⟨r2, n2, ra2, rl2, rc2, b2, off2, h2, rfl, hbl2, e20, e21, hv2, k21, k22, k23⟩ := (HV.out).at (k := 0) (by omega)
        have rw2 : IsRow w (.slice ra2 rl2 rc2) r2 := ⟨ra2, rl2, rc2, rfl, hv2, k21, k22, k23⟩
        have hc2 := cons_of h2
        have e1 := fun o => (hbel).cell (p := ⟨b1, o, none⟩) hbl1
        have c10 : wr.cell? ⟨b1, off1, none⟩ = some (.slice ra1 rl1 rc1) := by rw [e1]; simpa using e10
        have c11 : wr.cell? ⟨b1, off1 + 1, none⟩ = some (.int .i64 n1) := by rw [e1]; simpa using e11
        clear e1
        have e2 := fun o => (hbel).cell (p := ⟨b2, o, none⟩) hbl2
        have c20 : wr.cell? ⟨b2, off2, none⟩ = some (.slice ra2 rl2 rc2) := by rw [e2]; simpa using e20
        have c21 : wr.cell? ⟨b2, off2 + 1, none⟩ = some (.int .i64 n2) := by rw [e2]; simpa using e21
        clear e2
        have cs := Lib.hid (fun W (h : Below w.heap.size w W) => rrows_any ra1 rl1 rc1 r1 ra2 rl2 rc2 r2 W (hv1.below h (Nat.le_refl _)) (hv2.below h (Nat.le_refl _)) (by omega) (by omega))
        have hS0 : wr.drew.cell? ⟨b1, off1, none⟩ = some (.slice ra1 rl1 rc1) ∧ wr.drew.cell? ⟨b2, off2, none⟩ = some (.slice ra2 rl2 rc2) ∧ b1 < wr.drew.heap.size ∧ b2 < wr.drew.heap.size ∧ w.heap.size ≤ wr.drew.heap.size ∧ Below w.heap.size w wr.drew := ⟨c10, c20, Nat.lt_of_lt_of_le hbl1 hsz, Nat.lt_of_lt_of_le hbl2 hsz, hsz, hbel.drew⟩
        have hla : (0 : Int) < (la : Int) := by omega
        have hlb : (0 : Int) < (lb : Int) := by omega
        have hla0 : ((la : Int) == 0) = false := by simpa using ha0
        have hcv := cmpR_vals r1 r2
        clear hu hv
        rcases hcv with hc | hc | hc
        · rw [hc] at cs
          have HG2 : Hid ((acc ++ [⟨r1, n1⟩]) ++ mergeL (us.drop 1) vs = E) := by
            show _ = _
            rw [← HG.out, List.append_assoc]
            congr 1
            conv => rhs; rw [hc1]
            rw [mergeL_left _ _ _ (.inr ⟨_, _, hc2, by rw [hc]; decide⟩)]
            rfl
          have hab2 : absS (us.drop 1) + absS vs ≤ 1000000000000 := by
            have h9 := hab
            rw [hc1] at h9
            simp only [absS] at h9
            split at h9 <;> omega
          go_wp2_with fail
          have hi7 : (0 : Int) < (la : Int) := by omega
          have hi6 : (0 : Int) < (lb : Int) := by omega
          have hi5 : 0 < la := by omega
          have hi4 : 0 < lb := by omega
          go_region_held3 (fun w' => w'.cell? ⟨b1, off1, none⟩ = some (.slice ra1 rl1 rc1) ∧ w'.cell? ⟨b2, off2, none⟩ = some (.slice ra2 rl2 rc2) ∧ b1 < w'.heap.size ∧ b2 < w'.heap.size ∧ w.heap.size ≤ w'.heap.size ∧ Below w.heap.size w w')
            (first | with_reducible exact hS0 | with_reducible exact keepCmp hS0 hcall)
            (first | (go_at_call 45; refine (cs.out _ (by go_split_ands; assumption)).mono ?_; rintro e w5 ⟨rfl, hcall⟩))
          all_goals
            have hb5 := (keepCmp hS0 hcall).2.2.2.2.2
            have HO5 := Lib.hid (OwnEnts.below HO.out.drew hcall)
            clear hS0 hcall c10 c11 c20 c21
            have e1 := fun o => (hb5).cell (p := ⟨b1, o, none⟩) hbl1
            have c10 : w5.cell? ⟨b1, off1, none⟩ = some (.slice ra1 rl1 rc1) := by rw [e1]; simpa using e10
            have c11 : w5.cell? ⟨b1, off1 + 1, none⟩ = some (.int .i64 n1) := by rw [e1]; simpa using e11
            clear e1
            obtain ⟨l9, ho9, PUSH⟩ := pushed n1 (HO5.out) rw1 (hb5)
            obtain ⟨a9, c9, sl9, hd9, j1, j2, j3⟩ := slice_from_ents 1 1 rfl HU.out (by omega) g1 g2 g3
            have HP := Lib.hid PUSH
            have hH9 := Lib.hid hd9
            clear PUSH hd9
            have hs9 := (hb5).size
            go_wp2_with fail
            have hi9 : (0 : Int) < (la : Int) := by omega
            have hi8 : 0 < la := by omega
            go_region_law (refine step_append_lies _ (by rfl) (.tmp 54) (.tmp 58) _ (by rfl) w.heap.size 30 i0 _ 2 32 Try.underlying22 hi hz0 hz1 hz2 rfl (by omega) _ _ _ (by rfl) ((ho9.alloc _).drew) ⟨w5.heap.size, 0, none⟩ 1 1 [.slice ra1 rl1 rc1, .int .i64 n1] (by rfl) (by rfl) (World.news_of_block (cs := #[.slice ra1 rl1 rc1, .int .i64 n1]) (t := 30) (fr := (0, 0)) (heap_alloc_new w5 _)) (by simp [Value.oneCell']) (by omega) (by unfold maxLen; omega) (by omega) (by simp; omega) (w5.heap.size + 1) (by simp) ?_; intro gg cc w9 hown9 hgrow9 hat9 hlt9)
            all_goals
              obtain ⟨hO3, hB3⟩ := HP.out _ gg cc w9 (((Below.refl _ _).alloc (Nat.le_refl _) _).drew) hown9 hgrow9 (hat9.imp id fun h => by rw [h]; simp)
              have hd9 := hH9.out
              clear HP hH9 hown9 hgrow9 hat9 hlt9 ho9
              have REL := MergeRel.mk _ _ _ _ _ _ _ _ _ _ hd9 HV.out j1 j2 j3 g4 g5 g6 HG2 (by simp; omega) hab2 hO3 hB3
              have REL2 := Lib.hid REL
              clear REL
              go_wp2_with fail
              go_simp
              exact ⟨⟨_, _, _, REL2.out, rfl, rfl, rfl⟩, by simp [lenOf]; omega⟩
        · rw [hc] at cs
          have HG2 : Hid ((acc ++ [⟨r1, n1 + n2⟩]) ++ mergeL (us.drop 1) (vs.drop 1) = E) := by
            show _ = _
            rw [← HG.out, List.append_assoc]
            congr 1
            conv => rhs; rw [hc1, hc2]
            rw [mergeL_cons, if_neg (by rw [show cmpR (En.row ⟨r1, n1⟩) (En.row ⟨r2, n2⟩) = 0 from hc]; decide), if_neg (by rw [show cmpR (En.row ⟨r1, n1⟩) (En.row ⟨r2, n2⟩) = 0 from hc]; decide)]
            rfl
          have hab2 : absS (us.drop 1) + absS (vs.drop 1) ≤ 1000000000000 ∧ -1000000000000 ≤ n1 + n2 ∧ n1 + n2 ≤ 1000000000000 := by
            have h9 := hab
            rw [hc1, hc2] at h9
            have h8 := absS_nonneg (us.drop 1)
            have h7 := absS_nonneg (vs.drop 1)
            simp only [absS] at h9
            split at h9 <;> split at h9 <;> omega
          have hwn : IntKind.i64.wrap (n1 + n2) = n1 + n2 := by rw [IntKind.wrap_i64]; omega
          go_wp2_with fail
          have hi7 : (0 : Int) < (la : Int) := by omega
          have hi6 : (0 : Int) < (lb : Int) := by omega
          have hi5 : 0 < la := by omega
          have hi4 : 0 < lb := by omega
          go_region_held3 (fun w' => w'.cell? ⟨b1, off1, none⟩ = some (.slice ra1 rl1 rc1) ∧ w'.cell? ⟨b2, off2, none⟩ = some (.slice ra2 rl2 rc2) ∧ b1 < w'.heap.size ∧ b2 < w'.heap.size ∧ w.heap.size ≤ w'.heap.size ∧ Below w.heap.size w w')
            (first | with_reducible exact hS0 | with_reducible exact keepCmp hS0 hcall)
            (first | (go_at_call 45; refine (cs.out _ (by go_split_ands; assumption)).mono ?_; rintro e w5 ⟨rfl, hcall⟩))
          all_goals
            have hb5 := (keepCmp hS0 hcall).2.2.2.2.2
            have HO5 := Lib.hid (OwnEnts.below HO.out.drew hcall)
            clear hS0 hcall c10 c11 c20 c21
            have e1 := fun o => (hb5).cell (p := ⟨b1, o, none⟩) hbl1
            have c10 : w5.cell? ⟨b1, off1, none⟩ = some (.slice ra1 rl1 rc1) := by rw [e1]; simpa using e10
            have c11 : w5.cell? ⟨b1, off1 + 1, none⟩ = some (.int .i64 n1) := by rw [e1]; simpa using e11
            clear e1
            have e2 := fun o => (hb5).cell (p := ⟨b2, o, none⟩) hbl2
            have c20 : w5.cell? ⟨b2, off2, none⟩ = some (.slice ra2 rl2 rc2) := by rw [e2]; simpa using e20
            have c21 : w5.cell? ⟨b2, off2 + 1, none⟩ = some (.int .i64 n2) := by rw [e2]; simpa using e21
            clear e2
            obtain ⟨l9, ho9, PUSH⟩ := pushed (n1 + n2) (HO5.out) rw1 (hb5)
            obtain ⟨a9, c9, sl9, hd9, j1, j2, j3⟩ := slice_from_ents 1 1 rfl HU.out (by omega) g1 g2 g3
            obtain ⟨a8, c8, sl8, hd8, j4, j5, j6⟩ := slice_from_ents 1 1 rfl HV.out (by omega) g4 g5 g6
            have HP := Lib.hid PUSH
            have hH9 := Lib.hid hd9
            have hH8 := Lib.hid hd8
            clear PUSH hd9 hd8
            have hs9 := (hb5).size
            go_wp2_with fail
            have hi9 : (0 : Int) < (la : Int) := by omega
            have hi8 : 0 < la := by omega
            have hi3 : (0 : Int) < (lb : Int) := by omega
            have hi2 : 0 < lb := by omega
            go_region_law (refine step_append_lies _ (by rfl) (.tmp 30) (.tmp 45) _ (by rfl) w.heap.size 30 i0 _ 2 32 Try.underlying22 hi hz0 hz1 hz2 rfl (by omega) _ _ _ (by rfl) ((ho9.alloc _).drew) ⟨w5.heap.size, 0, none⟩ 1 1 [.slice ra1 rl1 rc1, .int .i64 (n1 + n2)] (by rfl) (by rfl) (World.news_of_block (cs := #[.slice ra1 rl1 rc1, .int .i64 (n1 + n2)]) (t := 30) (fr := (0, 0)) (heap_alloc_new w5 _)) (by simp [Value.oneCell']) (by omega) (by unfold maxLen; omega) (by omega) (by simp; omega) (w5.heap.size + 1) (by simp) ?_; intro gg cc w9 hown9 hgrow9 hat9 hlt9)
            all_goals
              obtain ⟨hO3, hB3⟩ := HP.out _ gg cc w9 (((Below.refl _ _).alloc (Nat.le_refl _) _).drew) hown9 hgrow9 (hat9.imp id fun h => by rw [h]; simp)
              have hd9 := hH9.out
              have hd8 := hH8.out
              clear HP hH9 hH8 hown9 hgrow9 hat9 hlt9 ho9
              have REL := MergeRel.mk _ _ _ _ _ _ _ _ _ _ hd9 hd8 j1 j2 j3 j4 j5 j6 HG2 (by simp; omega) hab2.1 hO3 hB3
              have REL2 := Lib.hid REL
              have hO4 := hO3
              clear REL
              go_wp2_with fail
              go_quiet (fail)
              go_wp2_with fail
              go_simp
              exact ⟨REL2.out.drewN nq, by simp [lenOf]; omega⟩
        · rw [hc] at cs
          have HG2 : Hid ((acc ++ [⟨r2, n2⟩]) ++ mergeL us (vs.drop 1) = E) := by
            show _ = _
            rw [← HG.out, List.append_assoc]
            congr 1
            conv => rhs; rw [hc2]
            rw [mergeL_right _ _ _ (.inr ⟨_, _, hc1, by rw [hc]; decide⟩)]
            rfl
          have hab2 : absS us + absS (vs.drop 1) ≤ 1000000000000 := by
            have h9 := hab
            rw [hc2] at h9
            simp only [absS] at h9
            split at h9 <;> omega
          go_wp2_with fail
          have hi7 : (0 : Int) < (la : Int) := by omega
          have hi6 : (0 : Int) < (lb : Int) := by omega
          have hi5 : 0 < la := by omega
          have hi4 : 0 < lb := by omega
          go_region_held3 (fun w' => w'.cell? ⟨b1, off1, none⟩ = some (.slice ra1 rl1 rc1) ∧ w'.cell? ⟨b2, off2, none⟩ = some (.slice ra2 rl2 rc2) ∧ b1 < w'.heap.size ∧ b2 < w'.heap.size ∧ w.heap.size ≤ w'.heap.size ∧ Below w.heap.size w w')
            (first | with_reducible exact hS0 | with_reducible exact keepCmp hS0 hcall)
            (first | (go_at_call 45; refine (cs.out _ (by go_split_ands; assumption)).mono ?_; rintro e w5 ⟨rfl, hcall⟩))
          all_goals
            have hb5 := (keepCmp hS0 hcall).2.2.2.2.2
            have HO5 := Lib.hid (OwnEnts.below HO.out.drew hcall)
            clear hS0 hcall c10 c11 c20 c21
            have e2 := fun o => (hb5).cell (p := ⟨b2, o, none⟩) hbl2
            have c20 : w5.cell? ⟨b2, off2, none⟩ = some (.slice ra2 rl2 rc2) := by rw [e2]; simpa using e20
            have c21 : w5.cell? ⟨b2, off2 + 1, none⟩ = some (.int .i64 n2) := by rw [e2]; simpa using e21
            clear e2
            obtain ⟨l9, ho9, PUSH⟩ := pushed n2 (HO5.out) rw2 (hb5)
            obtain ⟨a9, c9, sl9, hd9, j1, j2, j3⟩ := slice_from_ents 1 1 rfl HV.out (by omega) g4 g5 g6
            have HP := Lib.hid PUSH
            have hH9 := Lib.hid hd9
            clear PUSH hd9
            have hs9 := (hb5).size
            go_wp2_with fail
            have hi9 : (0 : Int) < (lb : Int) := by omega
            have hi8 : 0 < lb := by omega
            go_region_law (refine step_append_lies _ (by rfl) (.tmp 65) (.tmp 69) _ (by rfl) w.heap.size 30 i0 _ 2 32 Try.underlying22 hi hz0 hz1 hz2 rfl (by omega) _ _ _ (by rfl) ((ho9.alloc _).drew) ⟨w5.heap.size, 0, none⟩ 1 1 [.slice ra2 rl2 rc2, .int .i64 n2] (by rfl) (by rfl) (World.news_of_block (cs := #[.slice ra2 rl2 rc2, .int .i64 n2]) (t := 30) (fr := (0, 0)) (heap_alloc_new w5 _)) (by simp [Value.oneCell']) (by omega) (by unfold maxLen; omega) (by omega) (by simp; omega) (w5.heap.size + 1) (by simp) ?_; intro gg cc w9 hown9 hgrow9 hat9 hlt9)
            all_goals
              obtain ⟨hO3, hB3⟩ := HP.out _ gg cc w9 (((Below.refl _ _).alloc (Nat.le_refl _) _).drew) hown9 hgrow9 (hat9.imp id fun h => by rw [h]; simp)
              have hd9 := hH9.out
              clear HP hH9 hown9 hgrow9 hat9 hlt9 ho9
              have REL := MergeRel.mk _ _ _ _ _ _ _ _ _ _ HU.out hd9 g1 g2 g3 j1 j2 j3 HG2 (by simp; omega) hab2 hO3 hB3
              have REL2 := Lib.hid REL
              clear REL
              go_wp2_with fail
              go_simp
              exact ⟨⟨_, _, _, REL2.out, rfl, rfl, rfl⟩, by simp [lenOf]; omega⟩

end Go.Proofs.Ytdhhhmehkldliaa
