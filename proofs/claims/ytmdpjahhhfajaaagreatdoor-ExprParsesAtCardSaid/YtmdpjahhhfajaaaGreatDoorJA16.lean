/-
  The program: Arity, isColumn, isUsable, isMacro, isNode. · The reference's parser: not.
-/
import Derived.Test.YtmdpjahhhfajaaaGreatDoorJA15
import Derived.Test.YtmdpjahhhfajaaaGreatDoorJA07
import Derived.Test.YtmdpjahhhfajaaaGreatDoorJA14
set_option linter.unusedVariables false
set_option linter.unusedSimpArgs false
set_option maxRecDepth 100000
namespace Wh
open Go Go.Proofs.YtmdpjahhhfajaaaGreatDoor
theorem bltO_isSome (s : ByteArray) : (bltO s).isSome = bltB s := by
  unfold bltO bltB hasB bltL
  rw [Bool.eq_iff_iff, List.find?_isSome, List.any_eq_true]
  simp [bltP]
end Wh
namespace Go.Proofs.YtmdpjahhhfajaaaGreatDoor
open Go.RowKit Wh

set_option maxHeartbeats 1000000 in
theorem parity_any (t : Nd) (w : World) : Calls Tryz.prog 35 #[ndV t] w fun e w' => e = .returned (.int .i64 (arN t)) ∧ Below w.heap.size w w' := by
  obtain ⟨op, ⟨k, n, s⟩, nm, ar⟩ := t
  unfold ndV
  simp only
  go_enter Tryz.func35, Tryz.ntmps35
  go_wp2
  all_goals
    go_ret
    refine ⟨ret_int ?_, (Below.refl _ _).alloc (Nat.le_refl _) _⟩
    unfold arN
    simp only
    simp_all
    try omega

set_option maxHeartbeats 1000000 in
theorem pcol_any (s : ByteArray) (w : World) (hs : s.size ≤ 9223372036854775800) : Calls Tryz.prog 95 #[.string s] w fun e w' => e = .returned (.bool (colB s)) ∧ Below w.heap.size w w' := by
  unfold colB
  have C1 := Lib.hid (isName_any s w)
  have C2 := Lib.hid (fun W => tReserved_any s W)
  generalize nameB s = b1 at *
  generalize resB s = b2 at *
  cases b1
  · go_enter Tryz.func95, Tryz.ntmps95
    go_wp2_with fail
    refine C1.out.mono ?_
    rintro e w1 ⟨rfl, hb⟩
    have HB := Lib.hid hb
    clear hb
    go_wp2_with fail
    go_ret
    exact ⟨rfl, HB.out⟩
  · go_enter Tryz.func95, Tryz.ntmps95
    go_wp2_with fail
    refine C1.out.mono ?_
    rintro e w1 ⟨rfl, hb⟩
    have HB := Lib.hid hb
    clear hb
    go_wp2_with fail
    refine (C2.out _).mono ?_
    rintro e w1 ⟨rfl, rfl⟩
    go_wp2_with fail
    go_ret
    exact ⟨rfl, HB.out⟩

set_option maxHeartbeats 1000000 in
theorem pref_any (s : ByteArray) (w : World) (hs : s.size ≤ 9223372036854775800) : Calls Tryz.prog 96 #[.string s] w fun e w' => e = .returned (.bool (refB s)) ∧ Below w.heap.size w w' := by
  unfold refB
  have C1 := Lib.hid (isQualified_any s hs w)
  have C2 := Lib.hid (fun W => tReserved_any s W)
  generalize qualB s = b1 at *
  generalize resB s = b2 at *
  cases b1
  · go_enter Tryz.func96, Tryz.ntmps96
    go_wp2_with fail
    refine C1.out.mono ?_
    rintro e w1 ⟨rfl, hb⟩
    have HB := Lib.hid hb
    clear hb
    go_wp2_with fail
    go_ret
    exact ⟨rfl, HB.out⟩
  · go_enter Tryz.func96, Tryz.ntmps96
    go_wp2_with fail
    refine C1.out.mono ?_
    rintro e w1 ⟨rfl, hb⟩
    have HB := Lib.hid hb
    clear hb
    go_wp2_with fail
    refine (C2.out _).mono ?_
    rintro e w1 ⟨rfl, rfl⟩
    go_wp2_with fail
    go_ret
    exact ⟨rfl, HB.out⟩

set_option maxHeartbeats 1000000 in
theorem pmacro_any (s : ByteArray) (w : World) (hs : s.size ≤ 9223372036854775800) (hT : TabB w) : Calls Tryz.prog 97 #[.string s] w fun e w' => e = .returned (.bool (refB s && !bltB s)) ∧ Below w.heap.size w w' := by
  have C1 := Lib.hid (builtinOp_any s w hT)
  rw [bltO_isSome] at C1
  have C2 := Lib.hid (fun W => pref_any s W hs)
  generalize refB s = b1 at *
  generalize bltB s = b2 at *
  generalize ((bltO s).map (·.2) |>.getD 0) = z at *
  cases b1
  all_goals
    go_enter Tryz.func97, Tryz.ntmps97
    go_wp2_with fail
    refine C1.out.mono ?_
    rintro e w1 ⟨rfl, hb⟩
    have HB := Lib.hid hb
    clear hb
    go_wp2_with fail
    refine (C2.out _).mono ?_
    rintro e w2 ⟨rfl, hb⟩
    have HB2 := Lib.hid (HB.out.trans (hb.mono HB.out.size))
    clear hb
    go_wp2_with fail
    go_ret
    exact ⟨rfl, HB2.out⟩

set_option maxHeartbeats 8000000 in
theorem pnode_any (t : Nd) (w : World) (hs : t.nm.size ≤ 9223372036854775800) (hT : TabB w) : Calls Tryz.prog 54 #[ndV t] w fun e w' => e = .returned (.bool (nodB t)) ∧ Below w.heap.size w w' := by
  obtain ⟨op, ⟨k, n, s⟩, nm, ar⟩ := t
  have hb0 : Below w.heap.size w (w.alloc (.cells #[.int .i64 op, .int .i64 k, .int .i64 n, .string s, .string nm, .int .i64 ar] 53)) := (Below.refl _ _).alloc (Nat.le_refl _) _
  have AR := Lib.hid (fun W => parity_any ⟨op, ⟨k, n, s⟩, nm, ar⟩ W)
  have HT := Lib.hid (hT.below hb0 (Nat.le_refl _))
  have HB0 := Lib.hid hb0
  have HZ := Lib.hid hs
  clear hb0 hT hs
  unfold ndV at AR ⊢
  simp only at AR HZ ⊢
  have hE : (⟨#[]⟩ : ByteArray).toList = [] := by decide +kernel
  obtain ⟨en, hen⟩ : ∃ q, empB nm = q := ⟨_, rfl⟩
  have hen2 : (nm.toList == []) = en := by rw [← hen, emp_list]; by_cases h : nm.toList = [] <;> simp [h]
  by_cases h0 : op = 0
  · subst h0
    have CV := Lib.hid (fun W => valid_any k n s W)
    unfold agg at CV
    have hR : nodB ⟨0, ⟨k, n, s⟩, nm, ar⟩ = (validB k n s && (en && decide (ar = 0))) := by unfold nodB; rw [if_pos rfl, hen]
    rw [hR]
    generalize validB k n s = vb at *
    clear hR AR hen HT
    have hcase : en = false ∨ (en = true ∧ (ar == 0) = false) ∨ (en = true ∧ (ar == 0) = true) := by
      cases en
      · exact .inl rfl
      · by_cases h : ar = 0
        · exact .inr (.inr ⟨rfl, by simpa using h⟩)
        · exact .inr (.inl ⟨rfl, by simpa using h⟩)
    rcases hcase with rfl | ⟨rfl, ha⟩ | ⟨rfl, ha⟩
    · go_enter Tryz.func54, Tryz.ntmps54
      go_wp2_with fail
      go_ret
      exact ⟨ret_bool (by simp), HB0.out⟩
    · have ha2 : ¬ ar = 0 := by simpa using ha
      go_enter Tryz.func54, Tryz.ntmps54
      go_wp2_with fail
      go_ret
      exact ⟨ret_bool (by simp [ha2]), HB0.out⟩
    · have ha2 : ar = 0 := by simpa using ha
      rw [decide_eq_true ha2]
      clear ha2
      go_enter Tryz.func54, Tryz.ntmps54
      go_wp2_with fail
      refine (CV.out _).mono ?_
      rintro e w1 ⟨rfl, hb⟩
      have HB := Lib.hid (below_box hb)
      clear hb CV
      go_wp2_with fail
      go_ret
      exact ⟨ret_bool (by simp), HB.out⟩
  have hzc : zeroV ⟨k, n, s⟩ = true ∨ (zeroV ⟨k, n, s⟩ = false ∧ ((k == 0) = false ∨ ((k == 0) = true ∧ (n == 0) = false) ∨ ((k == 0) = true ∧ (n == 0) = true ∧ (s.toList == []) = false))) := by
    by_cases h1 : k = 0
    · by_cases h2 : n = 0
      · by_cases h3 : s.toList = []
        · left; unfold zeroV; simp [h1, h2, emp_list, h3]
        · right; exact ⟨by unfold zeroV; simp [emp_list, h3], .inr (.inr ⟨by simpa using h1, by simpa using h2, by simpa using h3⟩)⟩
      · right; exact ⟨by unfold zeroV; simp [h2], .inr (.inl ⟨by simpa using h1, by simpa using h2⟩)⟩
    · right; exact ⟨by unfold zeroV; simp [h1], .inl (by simpa using h1)⟩
  have hopb : ¬ op = 0 := h0
  rcases hzc with hz | ⟨hz, hzf⟩
  rotate_left
  · have hR : nodB ⟨op, ⟨k, n, s⟩, nm, ar⟩ = false := by
      unfold nodB
      simp only [h0, if_false, hz, Bool.false_and, Bool.and_false, ite_self]
    rw [hR]
    clear hR hen AR HT hz
    by_cases h1 : op = 1
    · subst h1
      rcases hzf with hk | ⟨hk, hn⟩ | ⟨hk, hn, hss⟩
      all_goals
        go_enter Tryz.func54, Tryz.ntmps54
        go_wp2_with fail
        go_ret
        exact ⟨rfl, HB0.out⟩
    by_cases h20 : op = 20
    · subst h20
      rcases hzf with hk | ⟨hk, hn⟩ | ⟨hk, hn, hss⟩
      all_goals
        go_enter Tryz.func54, Tryz.ntmps54
        go_wp2_with fail
        go_ret
        exact ⟨rfl, HB0.out⟩
    by_cases h21 : op = 21
    · subst h21
      rcases hzf with hk | ⟨hk, hn⟩ | ⟨hk, hn, hss⟩
      all_goals
        go_enter Tryz.func54, Tryz.ntmps54
        go_wp2_with fail
        go_ret
        exact ⟨rfl, HB0.out⟩
    · rcases hzf with hk | ⟨hk, hn⟩ | ⟨hk, hn, hss⟩
      all_goals
        go_enter Tryz.func54, Tryz.ntmps54
        go_wp2_with fail
        go_ret
        exact ⟨rfl, HB0.out⟩
  obtain ⟨rfl, rfl, rfl⟩ : k = 0 ∧ n = 0 ∧ s = ⟨#[]⟩ := by
    unfold zeroV at hz
    simp only [Bool.and_eq_true, decide_eq_true_eq] at hz
    exact ⟨hz.1, hz.2.1, empty_of_size (by have := hz.2.2; unfold empB at this; exact of_decide_eq_true this)⟩
  by_cases h1 : op = 1
  · subst h1
    have C := Lib.hid (fun W => pcol_any nm W HZ.out)
    have hR : nodB ⟨1, ⟨0, 0, ⟨#[]⟩⟩, nm, ar⟩ = (decide (ar = 0) && colB nm) := by unfold nodB; rw [if_neg (by simp), if_pos rfl, hz, Bool.true_and]
    rw [hR]
    generalize colB nm = cb at *
    clear hR AR HT hz hen hen2
    by_cases ha : ar = 0
    · subst ha
      go_enter Tryz.func54, Tryz.ntmps54
      go_wp2_with fail
      refine (C.out _).mono ?_
      rintro e w1 ⟨rfl, hb⟩
      have HB := Lib.hid (below_box hb)
      clear hb C
      go_wp2_with fail
      go_ret
      exact ⟨ret_bool (by simp), HB.out⟩
    · have hab : (ar == 0) = false := by simpa using ha
      go_enter Tryz.func54, Tryz.ntmps54
      go_wp2_with fail
      go_ret
      exact ⟨ret_bool (by simp [ha]), HB0.out⟩
  by_cases h20 : op = 20
  · subst h20
    have C := Lib.hid (fun W => pref_any nm W HZ.out)
    have hR : nodB ⟨20, ⟨0, 0, ⟨#[]⟩⟩, nm, ar⟩ = (decide (ar = 0) && refB nm) := by unfold nodB; rw [if_neg (by simp), if_neg (by simp), if_pos rfl, hz, Bool.true_and]
    rw [hR]
    generalize refB nm = cb at *
    clear hR AR HT hz hen hen2
    by_cases ha : ar = 0
    · subst ha
      go_enter Tryz.func54, Tryz.ntmps54
      go_wp2_with fail
      refine (C.out _).mono ?_
      rintro e w1 ⟨rfl, hb⟩
      have HB := Lib.hid (below_box hb)
      clear hb C
      go_wp2_with fail
      go_ret
      exact ⟨ret_bool (by simp), HB.out⟩
    · have hab : (ar == 0) = false := by simpa using ha
      go_enter Tryz.func54, Tryz.ntmps54
      go_wp2_with fail
      go_ret
      exact ⟨ret_bool (by simp [ha]), HB0.out⟩
  by_cases h21 : op = 21
  · subst h21
    have C := Lib.hid (pmacro_any nm _ HZ.out HT.out)
    have hR : nodB ⟨21, ⟨0, 0, ⟨#[]⟩⟩, nm, ar⟩ = (decide (0 ≤ ar) && (decide (ar ≤ 8) && (refB nm && !bltB nm))) := by unfold nodB; rw [if_neg (by simp), if_neg (by simp), if_neg (by simp), if_pos rfl, hz, Bool.true_and]
    rw [hR]
    generalize (refB nm && !bltB nm) = cb at *
    clear hR AR HT hz hen hen2
    go_enter Tryz.func54, Tryz.ntmps54
    go_wp2_with fail
    refine C.out.mono ?_
    rintro e w1 ⟨rfl, hb⟩
    obtain ⟨b0, b1, b2, b3, b4, b5⟩ := box6 hb
    have HB := Lib.hid (below_box hb)
    clear hb C
    cases cb
    · go_wp2_with fail
      go_ret
      exact ⟨ret_bool (by simp), HB.out⟩
    · go_wp2_with fail
      all_goals
        go_ret
        refine ⟨ret_bool ?_, HB.out⟩
        simp_all
        try omega
  · have hR : nodB ⟨op, ⟨0, 0, ⟨#[]⟩⟩, nm, ar⟩ = (decide (0 ≤ arN ⟨op, ⟨0, 0, ⟨#[]⟩⟩, nm, ar⟩) && (en && decide (ar = 0))) := by unfold nodB; rw [if_neg h0, if_neg h1, if_neg h20, if_neg h21, hz, Bool.true_and, hen]
    rw [hR]
    generalize arN ⟨op, ⟨0, 0, ⟨#[]⟩⟩, nm, ar⟩ = z at *
    clear hR HT hz hen
    cases en
    · go_enter Tryz.func54, Tryz.ntmps54
      go_wp2_with fail
      go_ret
      exact ⟨ret_bool (by simp), HB0.out⟩
    · by_cases ha : ar = 0
      · subst ha
        go_enter Tryz.func54, Tryz.ntmps54
        go_wp2_with fail
        refine (AR.out _).mono ?_
        rintro e w1 ⟨rfl, hb⟩
        have HB := Lib.hid (below_box hb)
        clear hb AR
        go_wp2_with fail
        go_ret
        exact ⟨ret_bool (by simp), HB.out⟩
      · have hab : (ar == 0) = false := by simpa using ha
        go_enter Tryz.func54, Tryz.ntmps54
        go_wp2_with fail
        go_ret
        exact ⟨ret_bool (by simp [ha]), HB0.out⟩

end Go.Proofs.YtmdpjahhhfajaaaGreatDoor
set_option linter.unusedVariables false
set_option linter.unusedSimpArgs false
set_option maxRecDepth 100000
namespace Go.Proofs.YtmdpjahhhfajaaaGreatDoor
open Go.RowKit Wh

theorem RdP.from {w w1 w' : World} {b : Nat} {sl : Value} {len i d : Nat} {P : PO} {e : Ending} (hg : w.grownBy w1 (some b)) (h : RdP w1 b sl len i d P e w') : RdP w b sl len i d P e w' := by
  obtain ⟨v, l, j, dd, x, rfl, hown, hb, hP, hg1, hc⟩ := h
  exact ⟨v, l, j, dd, x, rfl, own_mono hown hg.size, hb, hP, hg.trans hg1, hc⟩
theorem RdP.ret {w w' : World} {b : Nat} {sl : Value} {len i d : Nat} {P : PO} {e : Ending} (h : RdP w b sl len i d P e w') : ∃ v, e = .returned v := by
  obtain ⟨v, l, j, dd, x, rfl, _⟩ := h
  exact ⟨v, rfl⟩
/-- An error where nothing is handed back. -/
theorem RdP.nil {w w' : World} {b : Nat} {sl : Value} {len i d j dd : Nat} {P : PO} {x : Int} (hP : Pr w' b sl j dd x) (hx : ¬ x = 0) (hR : P = .bad x j) (hj : j < len) (hd : d ≤ dd) (hdd : dd ≤ 300) (hg : w.grownBy w' (some b)) : RdP w b sl len i d P (.returned (.slice none 0 0)) w' :=
  ⟨_, [], j, dd, x, rfl, World.ownsRow_nil _ _ _ _, ⟨Nat.zero_le _, hj, hdd⟩, hP, hg, .inr ⟨hx, hR, hd⟩⟩
theorem deepE_lo {d : Nat} (h : ¬ 256 < d) : deepE d 0 = 0 := by unfold deepE; rw [if_neg (fun h' => h h'.2)]
theorem deepE_hi {d : Nat} (h : 256 < d) : deepE d 0 = 2 := by unfold deepE; rw [if_pos ⟨rfl, h⟩]

/-- What is read and a node behind it. -/
theorem RdP.push {w w5 : World} {b : Nat} {sl : Value} {len i i1 d j dd : Nat} {f lvl : Nat} {ts : List TA} {x : Int} {l : List Nd} {t : Nd} {v5 : Value} {P : PO}
    (hb : l.length ≤ len - i1 ∧ j < len ∧ dd ≤ 300) (hi : i < i1) (hin : i1 ≤ len - 1) (hil : i < len) (hP : Pr w5 b sl j (dd - 1) x) (hg : w.grownBy w5 (some b)) (hown : w5.ownsRow w.heap.size 53 6 v5 (l.length + 1) (nodesL (l ++ [t])))
    (hc : (x = 0 ∧ prT ts f lvl i1 (d + 1) = .ok l j ∧ dd = d + 1) ∨ (¬ x = 0 ∧ prT ts f lvl i1 (d + 1) = .bad x j ∧ d + 1 ≤ dd)) (hR : P = seqP (prT ts f lvl i1 (d + 1)) fun e j => .ok (e ++ [t]) j) :
    RdP w b sl len i d P (.returned v5) w5 := by
  have e : (l ++ [t]).length = l.length + 1 := by simp only [List.length_append, List.length_cons, List.length_nil]
  refine ⟨v5, l ++ [t], j, dd - 1, x, rfl, by rw [e]; exact hown, ⟨by rw [e]; omega, hb.2.1, by omega⟩, hP, hg, ?_⟩
  rcases hc with ⟨h1, h2, h3⟩ | ⟨h1, h2, h3⟩
  · exact .inl ⟨h1, by rw [hR, h2]; rfl, by omega⟩
  · exact .inr ⟨h1, by rw [hR, h2]; rfl, by omega⟩

set_option maxHeartbeats 8000000 in
theorem pnot_step {ts : List TA} {a : Option Addr} {len cap f : Nat} (hT : TkH ts a len) (H2 : Reads8 ts a len cap f 2 99) (H3 : Reads8 ts a len cap f 3 134) : Reads8 ts a len cap (f + 1) 2 99 := by
  intro i d b w hP hK hfar hi hm hd h8 h88
  have hbw := hP.lt
  have hil : i < 100000 := by have := hT.le; omega
  have CW := Lib.hid (pword_any b a len cap ts i d 0 notS w hP hK hT.one (by have := hT.le; omega) (by omega) (tkA ts i) (hT.get i))
  by_cases hw : wrdT (tkA ts i) notS = true
  · rw [isS_wrd, hw] at CW
    have hin := hT.next hi (by rw [(wrdT_k hw).1]; decide)
    have CD := Lib.hid (fun W (h : Below w.heap.size w W) => pdeep_any b (.slice a len cap) i d 0 W (hP.below h hP.lt))
    by_cases hdd : 256 < d
    · have hR : prT ts (f + 1) 2 i d = .bad 2 i := by rw [prT, if_pos rfl, if_pos hw, if_pos hdd]
      rw [hR]
      rw [deepE_hi hdd] at CD
      clear hP hK hfar hw H2 H3 hR
      go_enter Tryz.func99, Tryz.ntmps99
      go_wp2_with fail
      refine CW.out.mono ?_
      rintro e w1 ⟨rfl, hb1⟩
      have HB1 := Lib.hid hb1
      clear hb1 CW
      go_wp2_with fail
      refine (CD.out _ HB1.out).mono ?_
      rintro e w2 ⟨rfl, hP2, hg2⟩
      have F := Lib.hid (RdP.nil (w := w) (len := len) (i := i) hP2 (by decide) rfl hi (Nat.le_refl _) (by omega) ((grown_below HB1.out _).trans hg2))
      clear hP2 hg2 CD HB1
      go_wp2_with fail
      go_ret
      exact F.out
    · have hR : prT ts (f + 1) 2 i d = seqP (prT ts f 2 (i + 1) (d + 1)) fun e j => .ok (e ++ [opN 2]) j := by rw [prT, if_pos rfl, if_pos hw, if_neg hdd]; rfl
      rw [hR]
      rw [deepE_lo hdd] at CD
      have HH := Lib.hid (fun W (hP' : Pr W b (.slice a len cap) (i + 1) (d + 1) 0) (hg : w.grownBy W (some b)) => H2 (i + 1) (d + 1) b W hP' (toks_grown hK hg hfar) hfar hin (by omega) (by omega) (At8.no (by omega)) (by omega))
      clear hP hK hfar hw H2 H3 hR
      go_enter Tryz.func99, Tryz.ntmps99
      go_wp2_with fail
      refine CW.out.mono ?_
      rintro e w1 ⟨rfl, hb1⟩
      have HB1 := Lib.hid hb1
      clear hb1 CW
      go_wp2_with fail
      refine (CD.out _ HB1.out).mono ?_
      rintro e w2 ⟨rfl, hP2, hg2⟩
      have HG2 := Lib.hid ((grown_below HB1.out _).trans hg2)
      have HP2 := Lib.hid hP2
      have q1 := hP2.c1
      have q2 := hP2.c2
      have qf := hP2.free
      clear hP2 hg2 CD HB1
      go_wp2_with fail
      have hP3 := Pr.inc2 (Pr.inc1 HP2.out)
      have hg3 := (HG2.out.trans (grown_set w2 b 1 (.int .i64 ((i : Int) + 1)))).trans (grown_set _ b 2 (.int .i64 ((d : Int) + 1)))
      have C3 := Lib.hid (HH.out _ hP3 hg3)
      have HG3 := Lib.hid hg3
      have hs3 := hg3.size
      generalize (w2.setCell ⟨b, 1, none⟩ (.int .i64 ((i : Int) + 1))).setCell ⟨b, 2, none⟩ (.int .i64 ((d : Int) + 1)) = w3 at *
      clear HH hP3 hg3 HP2 HG2 q1 q2 qf
      refine C3.out.mono ?_
      rintro e w4 ⟨v, l, j, dd, x, rfl, hown, hbd, hP4, hg4, hc⟩
      have hdd1 : 1 ≤ dd := by rcases hc with ⟨_, _, h⟩ | ⟨_, _, h⟩ <;> omega
      have hdd3 := hbd.2.2
      have hg4' := HG3.out.trans hg4
      have HP4 := Lib.hid hP4
      have HOW := Lib.hid (own_mono hown hs3)
      have hs4 := hg4'.size
      have HR := Lib.hid (And.intro hg4' (And.intro hbd hc))
      have q1 := hP4.c1
      have q2 := hP4.c2
      have qf := hP4.free
      clear C3 hown hP4 hg4 hg4' hc hbd HG3
      have HP5 := Lib.hid (Pr.dec2 HP4.out hdd1)
      have hg5 := grown_set w4 b 2 (.int .i64 ((dd : Int) - 1))
      have HG5 := Lib.hid (HR.out.1.trans hg5)
      have hs5 := HG5.out.size
      have HO5 := Lib.hid (own_parser HOW.out hg5 hbw)
      have hll : l.length ≤ 100000 := by have := HR.out.2.1.1; have := hT.le; omega
      clear hg5
      have HL := Lib.hid (lit_node_set w4 b 2 (.int .i64 ((dd : Int) - 1)) (opN 2))
      go_wp2_with (at_builtin; refine wpList_app rfl (.tmp 34) (.tmp 36) rfl rfl rfl (HO5.out.alloc _) (by simp; omega) HL.out (fun h => by cases h) (by omega) (by omega) ?_)
      intro v5 w5 ho5 hg5
      obtain ⟨k1, k2⟩ := app_keeps HP5.out HG5.out hbw HO5.out hg5
      have F := Lib.hid (RdP.push (t := opN 2) HR.out.2.1 (Nat.lt_succ_self i) (by omega) hi k1 k2 ho5 HR.out.2.2 rfl)
      clear k1 k2 ho5 hg5 HP5 HG5 HO5 HL HR HOW HP4 q1 q2 qf
      go_wp2_with fail
      go_ret
      exact F.out
  · have hw' : wrdT (tkA ts i) notS = false := by simpa using hw
    rw [isS_wrd, hw'] at CW
    have hR : prT ts (f + 1) 2 i d = prT ts f 3 i d := by rw [prT, if_pos rfl, if_neg hw]
    rw [hR]
    have HH := Lib.hid (fun W (h : Below w.heap.size w W) => H3 i d b W (hP.below h hP.lt) (hK.below h (Nat.le_refl _)) hfar hi (by omega) hd (At8.no (by omega)) (by omega))
    clear hP hK hfar hw H2 H3 hR hw'
    go_enter Tryz.func99, Tryz.ntmps99
    go_wp2_with fail
    refine CW.out.mono ?_
    rintro e w1 ⟨rfl, hb1⟩
    have HB1 := Lib.hid hb1
    clear hb1 CW
    go_wp2_with fail
    refine (HH.out _ HB1.out).mono ?_
    intro e w2 hr
    have hr2 := hr.from (grown_below HB1.out (some b))
    obtain ⟨v, rfl⟩ := hr2.ret
    have F := Lib.hid hr2
    clear hr hr2 HH HB1
    go_wp2_with fail
    go_ret
    exact F.out

end Go.Proofs.YtmdpjahhhfajaaaGreatDoor
