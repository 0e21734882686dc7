/-
  The program: Arity, isColumn, isUsable, isMacro, isNode. · The reference's parser: not. · The reference's parser: unary. · The reference's parser: day. · The reference's parser: call. · The program: infixOfWord, infixOfOp. · The reference's parser: compare. · The reference's parser: or. · The reference's parser: and, concat, sum, product (written by gen8loop · The reference's parser: named, primary; all levels. · The program's parser: word, take, constant, wordConstant, isCall, begi
-/
import Derived.Test.YtmdpjahhhfajaaaDoorJA07
import Derived.Test.YtmdpjahhhfajaaaDoorJA02
import Derived.Test.YtmdpjahhhfajaaaDoorJA06
import Derived.LoopTactic
import Derived.BigQuiet
import Derived.Deep.QuietTactic
set_option linter.unusedVariables false
set_option linter.unusedSimpArgs false
set_option maxRecDepth 100000
namespace Wh
open Go Go.Proofs.YtmdpjahhhfajaaaDoor
theorem bltO_isSome (s : ByteArray) : (bltO s).isSome = bltB s := by
  unfold bltO bltB hasB bltL
  rw [Bool.eq_iff_iff, List.find?_isSome, List.any_eq_true]
  simp [bltP]
end Wh
namespace Go.Proofs.YtmdpjahhhfajaaaDoor
open Go.RowKit Wh
set_option maxHeartbeats 1000000 in
theorem parity_any (t : Nd) (w : World) : Calls Tryd.prog 11 #[ndV t] w fun e w' => e = .returned (.int .i64 (arN t)) ∧ Below w.heap.size w w' := by
  obtain ⟨op, ⟨k, n, s⟩, nm, ar⟩ := t
  unfold ndV
  simp only
  go_enter Tryd.func11, Tryd.ntmps11
  go_wp2
  all_goals
    go_ret
    refine ⟨ret_int ?_, (Below.refl _ _).alloc (Nat.le_refl _) _⟩
    unfold arN
    simp only
    simp_all
    try omega
set_option maxHeartbeats 1000000 in
theorem pcol_any (s : ByteArray) (w : World) (hs : s.size ≤ 9223372036854775800) : Calls Tryd.prog 38 #[.string s] w fun e w' => e = .returned (.bool (colB s)) ∧ Below w.heap.size w w' := by
  unfold colB
  have C1 := Lib.hid (isName_any s w)
  have C2 := Lib.hid (fun W => tReserved_any s W)
  generalize nameB s = b1 at *
  generalize resB s = b2 at *
  cases b1
  · go_enter Tryd.func38, Tryd.ntmps38
    go_wp2_with fail
    refine C1.out.mono ?_
    rintro e w1 ⟨rfl, hb⟩
    have HB := Lib.hid hb
    clear hb
    go_wp2_with fail
    go_ret
    exact ⟨rfl, HB.out⟩
  · go_enter Tryd.func38, Tryd.ntmps38
    go_wp2_with fail
    refine C1.out.mono ?_
    rintro e w1 ⟨rfl, hb⟩
    have HB := Lib.hid hb
    clear hb
    go_wp2_with fail
    refine (C2.out _).mono ?_
    rintro e w1 ⟨rfl, rfl⟩
    go_wp2_with fail
    go_ret
    exact ⟨rfl, HB.out⟩
set_option maxHeartbeats 1000000 in
theorem pref_any (s : ByteArray) (w : World) (hs : s.size ≤ 9223372036854775800) : Calls Tryd.prog 39 #[.string s] w fun e w' => e = .returned (.bool (refB s)) ∧ Below w.heap.size w w' := by
  unfold refB
  have C1 := Lib.hid (isQualified_any s hs w)
  have C2 := Lib.hid (fun W => tReserved_any s W)
  generalize qualB s = b1 at *
  generalize resB s = b2 at *
  cases b1
  · go_enter Tryd.func39, Tryd.ntmps39
    go_wp2_with fail
    refine C1.out.mono ?_
    rintro e w1 ⟨rfl, hb⟩
    have HB := Lib.hid hb
    clear hb
    go_wp2_with fail
    go_ret
    exact ⟨rfl, HB.out⟩
  · go_enter Tryd.func39, Tryd.ntmps39
    go_wp2_with fail
    refine C1.out.mono ?_
    rintro e w1 ⟨rfl, hb⟩
    have HB := Lib.hid hb
    clear hb
    go_wp2_with fail
    refine (C2.out _).mono ?_
    rintro e w1 ⟨rfl, rfl⟩
    go_wp2_with fail
    go_ret
    exact ⟨rfl, HB.out⟩
set_option maxHeartbeats 1000000 in
theorem pmacro_any (s : ByteArray) (w : World) (hs : s.size ≤ 9223372036854775800) (hT : TabB w) : Calls Tryd.prog 40 #[.string s] w fun e w' => e = .returned (.bool (refB s && !bltB s)) ∧ Below w.heap.size w w' := by
  have C1 := Lib.hid (builtinOp_any s w hT)
  rw [bltO_isSome] at C1
  have C2 := Lib.hid (fun W => pref_any s W hs)
  generalize refB s = b1 at *
  generalize bltB s = b2 at *
  generalize ((bltO s).map (·.2) |>.getD 0) = z at *
  cases b1
  all_goals
    go_enter Tryd.func40, Tryd.ntmps40
    go_wp2_with fail
    refine C1.out.mono ?_
    rintro e w1 ⟨rfl, hb⟩
    have HB := Lib.hid hb
    clear hb
    go_wp2_with fail
    refine (C2.out _).mono ?_
    rintro e w2 ⟨rfl, hb⟩
    have HB2 := Lib.hid (HB.out.trans (hb.mono HB.out.size))
    clear hb
    go_wp2_with fail
    go_ret
    exact ⟨rfl, HB2.out⟩
set_option maxHeartbeats 8000000 in
theorem pnode_any (t : Nd) (w : World) (hs : t.nm.size ≤ 9223372036854775800) (hT : TabB w) : Calls Tryd.prog 23 #[ndV t] w fun e w' => e = .returned (.bool (nodB t)) ∧ Below w.heap.size w w' := by
  obtain ⟨op, ⟨k, n, s⟩, nm, ar⟩ := t
  have hb0 : Below w.heap.size w (w.alloc (.cells #[.int .i64 op, .int .i64 k, .int .i64 n, .string s, .string nm, .int .i64 ar] 26)) := (Below.refl _ _).alloc (Nat.le_refl _) _
  have AR := Lib.hid (fun W => parity_any ⟨op, ⟨k, n, s⟩, nm, ar⟩ W)
  have HT := Lib.hid (hT.below hb0 (Nat.le_refl _))
  have HB0 := Lib.hid hb0
  have HZ := Lib.hid hs
  clear hb0 hT hs
  unfold ndV at AR ⊢
  simp only at AR HZ ⊢
  have hE : (⟨#[]⟩ : ByteArray).toList = [] := by decide +kernel
  obtain ⟨en, hen⟩ : ∃ q, empB nm = q := ⟨_, rfl⟩
  have hen2 : (nm.toList == []) = en := by rw [← hen, emp_list]; by_cases h : nm.toList = [] <;> simp [h]
  by_cases h0 : op = 0
  · subst h0
    have CV := Lib.hid (fun W => valid_any k n s W)
    unfold agg at CV
    have hR : nodB ⟨0, ⟨k, n, s⟩, nm, ar⟩ = (validB k n s && (en && decide (ar = 0))) := by unfold nodB; rw [if_pos rfl, hen]
    rw [hR]
    generalize validB k n s = vb at *
    clear hR AR hen HT
    have hcase : en = false ∨ (en = true ∧ (ar == 0) = false) ∨ (en = true ∧ (ar == 0) = true) := by
      cases en
      · exact .inl rfl
      · by_cases h : ar = 0
        · exact .inr (.inr ⟨rfl, by simpa using h⟩)
        · exact .inr (.inl ⟨rfl, by simpa using h⟩)
    rcases hcase with rfl | ⟨rfl, ha⟩ | ⟨rfl, ha⟩
    · go_enter Tryd.func23, Tryd.ntmps23
      go_wp2_with fail
      go_ret
      exact ⟨ret_bool (by simp), HB0.out⟩
    · have ha2 : ¬ ar = 0 := by simpa using ha
      go_enter Tryd.func23, Tryd.ntmps23
      go_wp2_with fail
      go_ret
      exact ⟨ret_bool (by simp [ha2]), HB0.out⟩
    · have ha2 : ar = 0 := by simpa using ha
      rw [decide_eq_true ha2]
      clear ha2
      go_enter Tryd.func23, Tryd.ntmps23
      go_wp2_with fail
      refine (CV.out _).mono ?_
      rintro e w1 ⟨rfl, hb⟩
      have HB := Lib.hid (below_box hb)
      clear hb CV
      go_wp2_with fail
      go_ret
      exact ⟨ret_bool (by simp), HB.out⟩
  have hzc : zeroV ⟨k, n, s⟩ = true ∨ (zeroV ⟨k, n, s⟩ = false ∧ ((k == 0) = false ∨ ((k == 0) = true ∧ (n == 0) = false) ∨ ((k == 0) = true ∧ (n == 0) = true ∧ (s.toList == []) = false))) := by
    by_cases h1 : k = 0
    · by_cases h2 : n = 0
      · by_cases h3 : s.toList = []
        · left; unfold zeroV; simp [h1, h2, emp_list, h3]
        · right; exact ⟨by unfold zeroV; simp [emp_list, h3], .inr (.inr ⟨by simpa using h1, by simpa using h2, by simpa using h3⟩)⟩
      · right; exact ⟨by unfold zeroV; simp [h2], .inr (.inl ⟨by simpa using h1, by simpa using h2⟩)⟩
    · right; exact ⟨by unfold zeroV; simp [h1], .inl (by simpa using h1)⟩
  have hopb : ¬ op = 0 := h0
  rcases hzc with hz | ⟨hz, hzf⟩
  rotate_left
  · have hR : nodB ⟨op, ⟨k, n, s⟩, nm, ar⟩ = false := by
      unfold nodB
      simp only [h0, if_false, hz, Bool.false_and, Bool.and_false, ite_self]
    rw [hR]
    clear hR hen AR HT hz
    by_cases h1 : op = 1
    · subst h1
      rcases hzf with hk | ⟨hk, hn⟩ | ⟨hk, hn, hss⟩
      all_goals
        go_enter Tryd.func23, Tryd.ntmps23
        go_wp2_with fail
        go_ret
        exact ⟨rfl, HB0.out⟩
    by_cases h20 : op = 20
    · subst h20
      rcases hzf with hk | ⟨hk, hn⟩ | ⟨hk, hn, hss⟩
      all_goals
        go_enter Tryd.func23, Tryd.ntmps23
        go_wp2_with fail
        go_ret
        exact ⟨rfl, HB0.out⟩
    by_cases h21 : op = 21
    · subst h21
      rcases hzf with hk | ⟨hk, hn⟩ | ⟨hk, hn, hss⟩
      all_goals
        go_enter Tryd.func23, Tryd.ntmps23
        go_wp2_with fail
        go_ret
        exact ⟨rfl, HB0.out⟩
    · rcases hzf with hk | ⟨hk, hn⟩ | ⟨hk, hn, hss⟩
      all_goals
        go_enter Tryd.func23, Tryd.ntmps23
        go_wp2_with fail
        go_ret
        exact ⟨rfl, HB0.out⟩
  obtain ⟨rfl, rfl, rfl⟩ : k = 0 ∧ n = 0 ∧ s = ⟨#[]⟩ := by
    unfold zeroV at hz
    simp only [Bool.and_eq_true, decide_eq_true_eq] at hz
    exact ⟨hz.1, hz.2.1, empty_of_size (by have := hz.2.2; unfold empB at this; exact of_decide_eq_true this)⟩
  by_cases h1 : op = 1
  · subst h1
    have C := Lib.hid (fun W => pcol_any nm W HZ.out)
    have hR : nodB ⟨1, ⟨0, 0, ⟨#[]⟩⟩, nm, ar⟩ = (decide (ar = 0) && colB nm) := by unfold nodB; rw [if_neg (by simp), if_pos rfl, hz, Bool.true_and]
    rw [hR]
    generalize colB nm = cb at *
    clear hR AR HT hz hen hen2
    by_cases ha : ar = 0
    · subst ha
      go_enter Tryd.func23, Tryd.ntmps23
      go_wp2_with fail
      refine (C.out _).mono ?_
      rintro e w1 ⟨rfl, hb⟩
      have HB := Lib.hid (below_box hb)
      clear hb C
      go_wp2_with fail
      go_ret
      exact ⟨ret_bool (by simp), HB.out⟩
    · have hab : (ar == 0) = false := by simpa using ha
      go_enter Tryd.func23, Tryd.ntmps23
      go_wp2_with fail
      go_ret
      exact ⟨ret_bool (by simp [ha]), HB0.out⟩
  by_cases h20 : op = 20
  · subst h20
    have C := Lib.hid (fun W => pref_any nm W HZ.out)
    have hR : nodB ⟨20, ⟨0, 0, ⟨#[]⟩⟩, nm, ar⟩ = (decide (ar = 0) && refB nm) := by unfold nodB; rw [if_neg (by simp), if_neg (by simp), if_pos rfl, hz, Bool.true_and]
    rw [hR]
    generalize refB nm = cb at *
    clear hR AR HT hz hen hen2
    by_cases ha : ar = 0
    · subst ha
      go_enter Tryd.func23, Tryd.ntmps23
      go_wp2_with fail
      refine (C.out _).mono ?_
      rintro e w1 ⟨rfl, hb⟩
      have HB := Lib.hid (below_box hb)
      clear hb C
      go_wp2_with fail
      go_ret
      exact ⟨ret_bool (by simp), HB.out⟩
    · have hab : (ar == 0) = false := by simpa using ha
      go_enter Tryd.func23, Tryd.ntmps23
      go_wp2_with fail
      go_ret
      exact ⟨ret_bool (by simp [ha]), HB0.out⟩
  by_cases h21 : op = 21
  · subst h21
    have C := Lib.hid (pmacro_any nm _ HZ.out HT.out)
    have hR : nodB ⟨21, ⟨0, 0, ⟨#[]⟩⟩, nm, ar⟩ = (decide (0 ≤ ar) && (decide (ar ≤ 8) && (refB nm && !bltB nm))) := by unfold nodB; rw [if_neg (by simp), if_neg (by simp), if_neg (by simp), if_pos rfl, hz, Bool.true_and]
    rw [hR]
    generalize (refB nm && !bltB nm) = cb at *
    clear hR AR HT hz hen hen2
    go_enter Tryd.func23, Tryd.ntmps23
    go_wp2_with fail
    refine C.out.mono ?_
    rintro e w1 ⟨rfl, hb⟩
    obtain ⟨b0, b1, b2, b3, b4, b5⟩ := box6 hb
    have HB := Lib.hid (below_box hb)
    clear hb C
    cases cb
    · go_wp2_with fail
      go_ret
      exact ⟨ret_bool (by simp), HB.out⟩
    · go_wp2_with fail
      all_goals
        go_ret
        refine ⟨ret_bool ?_, HB.out⟩
        simp_all
        try omega
  · have hR : nodB ⟨op, ⟨0, 0, ⟨#[]⟩⟩, nm, ar⟩ = (decide (0 ≤ arN ⟨op, ⟨0, 0, ⟨#[]⟩⟩, nm, ar⟩) && (en && decide (ar = 0))) := by unfold nodB; rw [if_neg h0, if_neg h1, if_neg h20, if_neg h21, hz, Bool.true_and, hen]
    rw [hR]
    generalize arN ⟨op, ⟨0, 0, ⟨#[]⟩⟩, nm, ar⟩ = z at *
    clear hR HT hz hen
    cases en
    · go_enter Tryd.func23, Tryd.ntmps23
      go_wp2_with fail
      go_ret
      exact ⟨ret_bool (by simp), HB0.out⟩
    · by_cases ha : ar = 0
      · subst ha
        go_enter Tryd.func23, Tryd.ntmps23
        go_wp2_with fail
        refine (AR.out _).mono ?_
        rintro e w1 ⟨rfl, hb⟩
        have HB := Lib.hid (below_box hb)
        clear hb AR
        go_wp2_with fail
        go_ret
        exact ⟨ret_bool (by simp), HB.out⟩
      · have hab : (ar == 0) = false := by simpa using ha
        go_enter Tryd.func23, Tryd.ntmps23
        go_wp2_with fail
        go_ret
        exact ⟨ret_bool (by simp [ha]), HB0.out⟩
end Go.Proofs.YtmdpjahhhfajaaaDoor
namespace Go.Proofs.YtmdpjahhhfajaaaDoor
open Go.RowKit Wh
end Go.Proofs.YtmdpjahhhfajaaaDoor
namespace Go.Proofs.YtmdpjahhhfajaaaDoor
open Go.RowKit Wh
end Go.Proofs.YtmdpjahhhfajaaaDoor
namespace Go.Proofs.YtmdpjahhhfajaaaDoor
open Go.RowKit Wh
end Go.Proofs.YtmdpjahhhfajaaaDoor
namespace Wh
open Go Go.Proofs.YtmdpjahhhfajaaaDoor
end Wh
namespace Go.Proofs.YtmdpjahhhfajaaaDoor
open Go.RowKit Wh
end Go.Proofs.YtmdpjahhhfajaaaDoor
namespace Go.Proofs.YtmdpjahhhfajaaaDoor
open Go.RowKit Wh
end Go.Proofs.YtmdpjahhhfajaaaDoor
namespace Wh
open Go Go.Proofs.YtmdpjahhhfajaaaDoor
end Wh
namespace Go.Proofs.YtmdpjahhhfajaaaDoor
open Go.RowKit Wh
end Go.Proofs.YtmdpjahhhfajaaaDoor
namespace Go.Proofs.YtmdpjahhhfajaaaDoor
open Go.RowKit Wh
end Go.Proofs.YtmdpjahhhfajaaaDoor
namespace Wh
open Go Go.Proofs.YtmdpjahhhfajaaaDoor
end Wh
namespace Go.Proofs.YtmdpjahhhfajaaaDoor
open Go.RowKit Wh
end Go.Proofs.YtmdpjahhhfajaaaDoor
namespace Go.Proofs.YtmdpjahhhfajaaaDoor
open Go.RowKit Wh
end Go.Proofs.YtmdpjahhhfajaaaDoor
namespace Go.Proofs.YtmdpjahhhfajaaaDoor
open Go.RowKit Wh
end Go.Proofs.YtmdpjahhhfajaaaDoor
