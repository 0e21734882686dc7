/-
  one and known, of the laws.
-/
import Derived.Test.YtdhhhmehkldliaaBPSum
import Derived.Test.YtdhhhmehkldliaaBDrawn
set_option linter.unusedVariables false
set_option maxRecDepth 100000
namespace Wh

/-- The value of an integer. -/
abbrev vI (n : Int) : V := ⟨2, n, ⟨#[]⟩⟩
abbrev k3 : List En := [⟨[vI 1], 2⟩, ⟨[vI 2], 1⟩, ⟨[vI 1], -2⟩]

theorem fit_I {n c : Int} (h1 : -10 ≤ n) (h2 : n ≤ 10) (h3 : -10 ≤ c) (h4 : c ≤ 10) : fitE ⟨[vI n], c⟩ = 0 :=
  fitE_of (by simp) (by show -65536 ≤ c; omega) (by show c ≤ 65536; omega) (by simp [okRow, validB]; omega)
theorem ok_I {n c : Int} (h1 : -10 ≤ n) (h2 : n ≤ 10) (h3 : -10 ≤ c) (h4 : c ≤ 10) (h0 : ¬ c = 0) : OkBag [⟨[vI n], c⟩] where
  len := by simp
  bag := ⟨List.pairwise_singleton _ _, fun e he => by simp only [List.mem_singleton] at he; subst he; exact h0⟩
  fit := fun e he => by simp only [List.mem_singleton] at he; subst he; exact fit_I h1 h2 h3 h4
theorem known_norm : normOut k3 = ([⟨[vI 2], 1⟩], 0) := by
  have h0 : fitsE k3 = 0 := fitsE_of fun e he => by
    simp only [List.mem_cons, List.not_mem_nil, or_false] at he
    rcases he with rfl | rfl | rfl
    · exact fit_I (by omega) (by omega) (by omega) (by omega)
    · exact fit_I (by omega) (by omega) (by omega) (by omega)
    · exact fit_I (by omega) (by omega) (by omega) (by omega)
  have h1 : bagL k3 = [⟨[vI 2], 1⟩] := bag_ext (bagL_bag _) ⟨List.pairwise_singleton _ _, by simp⟩ fun r => by
    rw [bagL_cnt]
    simp only [cntL]
    split <;> split <;> omega
  unfold normOut
  rw [if_pos h0, sumOut_eq, h1]
  exact resP_good (by simp) (by simp [smallB])
theorem known_sub : subOut [⟨[vI 1], 1⟩] [⟨[vI 1], 3⟩] = ([⟨[vI 1], -2⟩], 0) := by
  have h0 : twoE [⟨[vI 1], 1⟩] [⟨[vI 1], 3⟩] = 0 := twoE_zero.2 ⟨bagE_zero.2 (ok_I (by omega) (by omega) (by omega) (by omega) (by omega)), bagE_zero.2 (ok_I (by omega) (by omega) (by omega) (by omega) (by omega))⟩
  have hc : cmpR [vI 1] [vI 1] = 0 := (cmpR_zero _ _).2 rfl
  have h1 : mergeL [⟨[vI 1], 1⟩] (negL [⟨[vI 1], 3⟩]) = [⟨[vI 1], -2⟩] := by
    show mergeL [⟨[vI 1], 1⟩] [⟨[vI 1], -3⟩] = _
    rw [mergeL_cons, if_neg (by show ¬ cmpR [vI 1] [vI 1] < 0; omega), if_neg (by show ¬ 0 < cmpR [vI 1] [vI 1]; omega), mergeL_nil]
    rfl
  unfold subOut
  rw [if_pos h0, h1, resOut_eq, nzL_self (by simp)]
  exact resP_good (by simp) (by simp [smallB])
theorem table_yes : tableB [⟨[vI 2], 1⟩] = true := by
  unfold tableB
  rw [bagE_zero.2 (ok_I (by omega) (by omega) (by omega) (by omega) (by omega))]
  rfl
theorem table_no : tableB [⟨[vI 1], -2⟩] = false := by
  unfold tableB
  rw [bagE_zero.2 (ok_I (by omega) (by omega) (by omega) (by omega) (by omega))]
  rfl

end Wh
namespace Go.Proofs.Ytdhhhmehkldliaa
open Go.RowKit Wh

theorem one_any (n : Int) (w : World) : Calls Try.prog 47 #[.int .i64 n] w fun e w' => e = .returned (.slice (some ⟨w.heap.size, 0, none⟩) 1 1) ∧ IsVals w' (some ⟨w.heap.size, 0, none⟩) 1 [vI n] ∧ Below w.heap.size w w' := by
  go_enter Try.func47, Try.ntmps47
  go_wp2_with fail
  go_ret
  refine ⟨rfl, ⟨rfl, .inr ⟨w.heap.size, 0, rfl, by simp, fun i v hv => ?_⟩⟩, (Below.refl _ _).alloc (Nat.le_refl _) _⟩
  match i, hv with
  | 0, hv => cases hv; exact ⟨cell_of_row _ _ 0 _ _ _ (heap_alloc_new w _), cell_of_row _ _ 1 _ _ _ (heap_alloc_new w _), cell_of_row _ _ 2 _ _ _ (heap_alloc_new w _)⟩

/-- A list of entries that is written out. -/
theorem ents_lit {w : World} {es : List En} {l : List T2} (hl : l.length = es.length) (hat : ∀ (i : Nat) (e : En), es[i]? = some e → ∃ rv, l[i]? = some (rv, .int .i64 e.cnt) ∧ IsRow w rv e.row) :
    IsEnts (w.alloc (.cells (flat2 l).toArray 30)) (some ⟨w.heap.size, 0, none⟩) es.length es := by
  refine ⟨rfl, .inr ⟨w.heap.size, 0, rfl, by simp, fun i e he => ?_⟩⟩
  obtain ⟨rv, h1, h2⟩ := hat i e he
  obtain ⟨f0, f1⟩ := flat2_at l i _ h1
  have hc : ∀ j u, (flat2 l)[j]? = some u → (w.alloc (.cells (flat2 l).toArray 30)).cell? ⟨w.heap.size, j, none⟩ = some u := fun j u h => by
    rw [cell_of_row _ _ j _ _ _ (heap_alloc_new w _)]
    simpa using h
  refine ⟨rv, ?_, ?_, h2.below ((Below.refl _ _).alloc (Nat.le_refl _) _) (Nat.le_refl _)⟩
  · rw [Nat.zero_add]; exact hc _ _ f0
  · rw [Nat.zero_add]; exact hc _ _ f1

theorem ents_lit1 {w : World} {rv : Value} {r : List V} {n : Int} (h : IsRow w rv r) : IsEnts (w.alloc (.cells #[rv, .int .i64 n] 30)) (some ⟨w.heap.size, 0, none⟩) 1 [⟨r, n⟩] :=
  ents_lit (w := w) (es := [⟨r, n⟩]) (l := [(rv, .int .i64 n)]) rfl fun i e he => by
    match i, he with
    | 0, he => cases he; exact ⟨rv, rfl, h⟩
theorem ents_lit3 {w : World} {rv1 rv2 rv3 : Value} {r1 r2 r3 : List V} {n1 n2 n3 : Int} (h1 : IsRow w rv1 r1) (h2 : IsRow w rv2 r2) (h3 : IsRow w rv3 r3) :
    IsEnts (w.alloc (.cells #[rv1, .int .i64 n1, rv2, .int .i64 n2, rv3, .int .i64 n3] 30)) (some ⟨w.heap.size, 0, none⟩) 3 [⟨r1, n1⟩, ⟨r2, n2⟩, ⟨r3, n3⟩] :=
  ents_lit (w := w) (es := [⟨r1, n1⟩, ⟨r2, n2⟩, ⟨r3, n3⟩]) (l := [(rv1, .int .i64 n1), (rv2, .int .i64 n2), (rv3, .int .i64 n3)]) rfl fun i e he => by
    match i, he with
    | 0, he => cases he; exact ⟨rv1, rfl, h1⟩
    | 1, he => cases he; exact ⟨rv2, rfl, h2⟩
    | 2, he => cases he; exact ⟨rv3, rfl, h3⟩

theorem row_one {w : World} {g : Nat} {r : List V} (h : IsVals w (some ⟨g, 0, none⟩) 1 r) : IsRow w (.slice (some ⟨g, 0, none⟩) 1 1) r := ⟨_, 1, 1, rfl, h, Nat.le_refl _, by unfold maxLen; omega, by simp⟩

set_option maxHeartbeats 4000000 in
theorem known_any (w : World) : Calls Try.prog 13 #[] w fun e w' => e = .returned (.bool true) ∧ Below w.heap.size w w' := by
  have CN := Lib.hid (fun W g (h : IsEnts W (some ⟨g, 0, none⟩) 3 k3) => normalize_any (some ⟨g, 0, none⟩) 3 3 k3 W h (Nat.le_refl _) (by unfold maxLen; omega) (by simp) (by omega))
  rw [known_norm] at CN
  have CB := Lib.hid (fun W g g' (h : IsEnts W (some ⟨g, 0, none⟩) 1 [⟨[vI 1], 1⟩]) (h' : IsEnts W (some ⟨g', 0, none⟩) 1 [⟨[vI 1], 3⟩]) => subtract_any6 (some ⟨g, 0, none⟩) 1 1 _ (some ⟨g', 0, none⟩) 1 1 _ W h (by omega) h' (by omega) (Nat.le_refl _) (by unfold maxLen; omega) (by simp) (Nat.le_refl _) (by unfold maxLen; omega) (by simp))
  rw [known_sub] at CB
  go_enter Try.func13, Try.ntmps13
  go_wp2_with fail
  refine (one_any 1 _).mono ?_
  rintro e w1 ⟨rfl, hv1, hb1⟩
  go_wp2_with fail
  refine (one_any 2 _).mono ?_
  rintro e w2 ⟨rfl, hv2, hb2⟩
  go_wp2_with fail
  refine (one_any 1 _).mono ?_
  rintro e w3 ⟨rfl, hv3, hb3⟩
  have hI := ents_lit3 (n1 := 2) (n2 := 1) (n3 := -2) (row_one ((hv1.below hb2 (Nat.le_refl _)).below hb3 (Nat.le_refl _))) (row_one (hv2.below hb3 (Nat.le_refl _))) (row_one hv3)
  have hB3 := hb1.trans ((hb2.trans (hb3.mono hb2.size)).mono hb1.size)
  have HI := Lib.hid hI
  clear hI hv1 hv2 hv3
  go_wp2_with fail
  refine (CN.out _ _ HI.out).mono ?_
  rintro e w4 ⟨v4, rfl, ho4, hb4⟩
  obtain ⟨a4, c4, rfl, hi4, p1, p2, p3, _⟩ := own_ents ho4
  have hB4 : Below w.heap.size w w4 := hB3.trans ((((Below.refl _ _).alloc (Nat.le_refl _) _).trans (hb4.mono (by simp))).mono hB3.size)
  have HI4 := Lib.hid hi4
  clear ho4 hi4 HI CN
  go_wp2_with fail
  refine (one_any 1 _).mono ?_
  rintro e w5 ⟨rfl, hv5, hb5⟩
  have HI5 := Lib.hid (ents_lit1 (n := 1) (row_one hv5))
  have hB5 := hB4.trans (hb5.mono hB4.size)
  have hA5 : Below w5.heap.size w5 (w5.alloc (.cells #[.slice (some ⟨w4.heap.size, 0, none⟩) 1 1, .int .i64 1] 30)) := (Below.refl _ _).alloc (Nat.le_refl _) _
  clear hv5
  go_wp2_with fail
  refine (one_any 1 _).mono ?_
  rintro e w6 ⟨rfl, hv6, hb6⟩
  rw [show (w5.alloc (.cells #[.slice (some ⟨w4.heap.size, 0, none⟩) 1 1, .int .i64 1] 30)).heap.size = w5.heap.size + 1 by simp] at hv6
  have hB6 := hB5.trans ((hA5.trans (hb6.mono hA5.size)).mono hB5.size)
  have HI6 := Lib.hid (ents_lit1 (n := 3) (row_one hv6))
  have HJ6 := Lib.hid ((HI5.out.below hb6 (Nat.le_refl _)).below ((Below.refl _ _).alloc (Nat.le_refl _) (.cells #[.slice (some ⟨w5.heap.size + 1, 0, none⟩) 1 1, .int .i64 3] 30)) (Nat.le_refl _))
  have HK6 := Lib.hid (HI4.out.below (hb5.trans ((hA5.trans (hb6.mono hA5.size)).mono hb5.size)) (Nat.le_refl _))
  clear hv6 HI5 HI4
  go_wp2_with fail
  refine (CB.out _ _ _ HJ6.out HI6.out).mono ?_
  rintro e w7 ⟨v7, rfl, ho7, hb7⟩
  obtain ⟨a7, c7, rfl, hi7, q1, q2, q3, _⟩ := own_ents ho7
  have hb7' : Below w6.heap.size w6 w7 := ((Below.refl _ _).alloc (Nat.le_refl _) _).trans (hb7.mono (by simp))
  have hB7 := hB6.trans (hb7'.mono hB6.size)
  have HI7 := Lib.hid hi7
  have HK7 := Lib.hid (HK6.out.below hb7' (Nat.le_refl _))
  clear ho7 hi7 HI6 HJ6 HK6 CB hb7
  go_wp2_with fail
  refine (one_any 2 _).mono ?_
  rintro e w8 ⟨rfl, hv8, hb8⟩
  have HI8 := Lib.hid (ents_lit1 (n := 1) (row_one hv8))
  have hA8 : ∀ o, Below w8.heap.size w8 (w8.alloc o) := fun o => (Below.refl _ _).alloc (Nat.le_refl _) o
  have HK8 := Lib.hid (fun o => (HK7.out.below hb8 (Nat.le_refl _)).below (hA8 o) (Nat.le_refl _))
  have hB8 := hB7.trans (hb8.mono hB7.size)
  clear hv8
  go_wp2_with fail
  refine (rsame_true (HK8.out _) HI8.out (by simp)).mono ?_
  rintro e w9 ⟨rfl, hb9⟩
  have hb9' : Below w8.heap.size w8 w9 := (hA8 _).trans (hb9.mono (by simp))
  have hB9 := hB8.trans (hb9'.mono hB8.size)
  have HK9 := Lib.hid ((HK7.out.below hb8 (Nat.le_refl _)).below hb9' (Nat.le_refl _))
  have HI9 := Lib.hid ((HI7.out.below hb8 (Nat.le_refl _)).below hb9' (Nat.le_refl _))
  clear HI8 HK8 HK7 HI7 hb9
  go_wp2_with fail
  refine (one_any 1 _).mono ?_
  rintro e w10 ⟨rfl, hv10, hb10⟩
  have HI10 := Lib.hid (ents_lit1 (n := -2) (row_one hv10))
  have hA10 : ∀ o, Below w10.heap.size w10 (w10.alloc o) := fun o => (Below.refl _ _).alloc (Nat.le_refl _) o
  have HK10 := Lib.hid (fun o => (HI9.out.below hb10 (Nat.le_refl _)).below (hA10 o) (Nat.le_refl _))
  have hB10 := hB9.trans (hb10.mono hB9.size)
  clear hv10
  go_wp2_with fail
  refine (rsame_true (HK10.out _) HI10.out (by simp)).mono ?_
  rintro e w11 ⟨rfl, hb11⟩
  have hb11' : Below w10.heap.size w10 w11 := (hA10 _).trans (hb11.mono (by simp))
  have hB11 := hB10.trans (hb11'.mono hB10.size)
  have HK11 := Lib.hid ((HK9.out.below hb10 (Nat.le_refl _)).below hb11' (Nat.le_refl _))
  have HI11 := Lib.hid ((HI9.out.below hb10 (Nat.le_refl _)).below hb11' (Nat.le_refl _))
  clear HI10 HK10 HK9 HI9 hb11
  go_wp2_with fail
  refine (istable_any a4 1 c4 [⟨[vI 2], 1⟩] _ HK11.out (by omega)).mono ?_
  rintro e w12 ⟨rfl, hb12⟩
  have hB12 := hB11.trans (hb12.mono hB11.size)
  rw [table_yes]
  go_wp2_with fail
  refine (istable_any a7 1 c7 [⟨[vI 1], -2⟩] _ (HI11.out.below hb12 (Nat.le_refl _)) (by omega)).mono ?_
  rintro e w13 ⟨rfl, hb13⟩
  have hB13 := hB12.trans (hb13.mono hB12.size)
  rw [table_no]
  go_wp2_with fail
  go_ret
  exact ⟨rfl, hB13⟩

end Go.Proofs.Ytdhhhmehkldliaa
