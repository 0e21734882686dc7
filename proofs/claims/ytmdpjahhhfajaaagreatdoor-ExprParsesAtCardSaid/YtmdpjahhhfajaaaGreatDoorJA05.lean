/-
  Parse of the reference. · For every layer: boxes of the call's own, and what lies in them while callees make new memory. · For every layer: texts in memory (what came in, what lies in a row); the small functions of schema.
-/
import Derived.Test.YtmdpjahhhfajaaaGreatDoorJA04
import Derived.Test.YtmdpjahhhfajaaaGreatDoorRows
import Derived.WalkKit
import Derived.Below
import Derived.Laws.OwnMore
import Derived.Deep.Draws
import Derived.Deep.QuietTactic
import Derived.Test.YtmdpjahhhfajaaaGreatDoorJA01
import Derived.WalkLawsBesides
import Derived.WalkSpells
import Derived.Outline
import Derived.BigQuiet
import Derived.IntWalk
import Derived.Lib.Hide
import Derived.Lib.Bytealg
import Derived.LoopTactic
import Derived.Deep.RegionWith
import Derived.OwnWalk
set_option linter.unusedVariables false
namespace Wh

theorem form_fixed {s : ByteArray} (h : formB s = true) : btN s 4 = 45 ∧ btN s 7 = 45 ∧ btN s 10 = 84 ∧ btN s 13 = 58 := by
  have a := (formB_all h).2
  have a4 := a 4 (by omega)
  have a7 := a 7 (by omega)
  have a10 := a 10 (by omega)
  have a13 := a 13 (by omega)
  exact ⟨of_decide_eq_true a4, of_decide_eq_true a7, of_decide_eq_true a10, of_decide_eq_true a13⟩

theorem form_of {s : ByteArray} (hs : s.size = 16) (h4 : btN s 4 = 45) (h7 : btN s 7 = 45) (h10 : btN s 10 = 84) (h13 : btN s 13 = 58)
    (d1 : digAt s 0 4 = true) (d2 : digAt s 5 2 = true) (d3 : digAt s 8 2 = true) (d4 : digAt s 11 2 = true) (d5 : digAt s 14 2 = true) : formB s = true := by
  refine formB_yes hs fun i hi => ?_
  have dig : ∀ {j : Nat}, (48 ≤ btN s j ∧ btN s j ≤ 57) → j ≠ 4 → j ≠ 7 → j ≠ 10 → j ≠ 13 → okAt j (btN s j) = true := by
    intro j hj e4 e7 e10 e13
    unfold okAt
    rw [if_neg (by omega), if_neg e10, if_neg e13, decide_eq_true hj.1, decide_eq_true hj.2]
    rfl
  rcases (show i < 4 ∨ i = 4 ∨ i = 5 ∨ i = 6 ∨ i = 7 ∨ i = 8 ∨ i = 9 ∨ i = 10 ∨ i = 11 ∨ i = 12 ∨ i = 13 ∨ i = 14 ∨ i = 15 by omega) with e | e | e | e | e | e | e | e | e | e | e | e | e
  · have := digAt_at d1 e
    rw [Nat.zero_add] at this
    exact dig this (by omega) (by omega) (by omega) (by omega)
  all_goals subst e
  · exact decide_eq_true h4
  · exact dig (digAt_at d2 (i := 0) (by omega)) (by omega) (by omega) (by omega) (by omega)
  · exact dig (digAt_at d2 (i := 1) (by omega)) (by omega) (by omega) (by omega) (by omega)
  · exact decide_eq_true h7
  · exact dig (digAt_at d3 (i := 0) (by omega)) (by omega) (by omega) (by omega) (by omega)
  · exact dig (digAt_at d3 (i := 1) (by omega)) (by omega) (by omega) (by omega) (by omega)
  · exact decide_eq_true h10
  · exact dig (digAt_at d4 (i := 0) (by omega)) (by omega) (by omega) (by omega) (by omega)
  · exact dig (digAt_at d4 (i := 1) (by omega)) (by omega) (by omega) (by omega) (by omega)
  · exact decide_eq_true h13
  · exact dig (digAt_at d5 (i := 0) (by omega)) (by omega) (by omega) (by omega) (by omega)
  · exact dig (digAt_at d5 (i := 1) (by omega)) (by omega) (by omega) (by omega) (by omega)

theorem parse_bad {s : ByteArray} (h : formB s = false) : parseZ s = 0 ∧ parseE s = 3 := by
  unfold parseZ parseE
  rw [h]
  exact ⟨rfl, rfl⟩

end Wh
namespace Go.Proofs.YtmdpjahhhfajaaaGreatDoor
open Go.RowKit Wh

theorem digZ_bd {s : ByteArray} {a k : Nat} (hk : k ≤ 4) : (digAt s a k = true ∧ digZ s a k = numAt s a k ∧ 0 ≤ numAt s a k ∧ numAt s a k + 1 ≤ 10 ^ k) ∨ (digAt s a k = false ∧ digZ s a k = -1) := by
  unfold digZ
  cases h : digAt s a k
  · exact .inr ⟨rfl, rfl⟩
  · exact .inl ⟨rfl, rfl, numAt_bd hk h⟩

theorem rparse_short (s : ByteArray) (hs : ¬ s.size = 16) (w : World) :
    Calls Tryz.prog 65 #[.string s] w (IsErr 0 3 w) := by
  have hs2 : ¬ (s.size : Int) = 16 := by omega
  clear hs
  go_enter Tryz.func65, Tryz.ntmps65
  go_wp2_with fail
  go_ret2
  exact ⟨rfl, Below.refl _ _⟩

theorem rparse_fixed (s : ByteArray) (hs : s.size = 16) (h : ¬ (btN s 4 = 45 ∧ btN s 7 = 45 ∧ btN s 10 = 84 ∧ btN s 13 = 58)) (w : World) :
    Calls Tryz.prog 65 #[.string s] w (IsErr 0 3 w) := by
  have i4 : ∀ W, (Instr.index 9 (.string s) (.int .i64 4)).run Tryz.prog W = .ok (.int .u8 (btN s 4)) W := fun W => index_str s 4 (by omega) W
  have i7 : ∀ W, (Instr.index 9 (.string s) (.int .i64 7)).run Tryz.prog W = .ok (.int .u8 (btN s 7)) W := fun W => index_str s 7 (by omega) W
  have i10 : ∀ W, (Instr.index 9 (.string s) (.int .i64 10)).run Tryz.prog W = .ok (.int .u8 (btN s 10)) W := fun W => index_str s 10 (by omega) W
  have i13 : ∀ W, (Instr.index 9 (.string s) (.int .i64 13)).run Tryz.prog W = .ok (.int .u8 (btN s 13)) W := fun W => index_str s 13 (by omega) W
  have hs2 : (s.size : Int) = 16 := by omega
  generalize btN s 4 = x4 at *
  generalize btN s 7 = x7 at *
  generalize btN s 10 = x10 at *
  generalize btN s 13 = x13 at *
  clear hs
  have z4 : ¬ x4 = 45 → ((x4 : Int) == 45) = false := fun h => beq_eq_false_iff_ne.2 (by omega)
  have z7 : ¬ x7 = 45 → ((x7 : Int) == 45) = false := fun h => beq_eq_false_iff_ne.2 (by omega)
  have z10 : ¬ x10 = 84 → ((x10 : Int) == 84) = false := fun h => beq_eq_false_iff_ne.2 (by omega)
  have z13 : ¬ x13 = 58 → ((x13 : Int) == 58) = false := fun h => beq_eq_false_iff_ne.2 (by omega)
  rcases (show ¬ x4 = 45 ∨ (x4 = 45 ∧ ¬ x7 = 45) ∨ (x4 = 45 ∧ x7 = 45 ∧ ¬ x10 = 84) ∨ (x4 = 45 ∧ x7 = 45 ∧ x10 = 84 ∧ ¬ x13 = 58) by omega) with e4 | ⟨e4, e7⟩ | ⟨e4, e7, e10⟩ | ⟨e4, e7, e10, e13⟩
  · have f := z4 e4
    clear z4 z7 z10 z13 h
    go_enter Tryz.func65, Tryz.ntmps65
    go_wp2_with fail
    go_ret2
    exact ⟨rfl, Below.refl _ _⟩
  · have f := z7 e7
    subst e4
    clear z4 z7 z10 z13 h
    go_enter Tryz.func65, Tryz.ntmps65
    go_wp2_with fail
    go_ret2
    exact ⟨rfl, Below.refl _ _⟩
  · have f := z10 e10
    subst e4 e7
    clear z4 z7 z10 z13 h
    go_enter Tryz.func65, Tryz.ntmps65
    go_wp2_with fail
    go_ret2
    exact ⟨rfl, Below.refl _ _⟩
  · have f := z13 e13
    subst e4 e7 e10
    clear z4 z7 z10 z13 h
    go_enter Tryz.func65, Tryz.ntmps65
    go_wp2_with fail
    go_ret2
    exact ⟨rfl, Below.refl _ _⟩

set_option maxHeartbeats 1000000 in
theorem rparse_rest (s : ByteArray) (hs : s.size = 16) (h4 : btN s 4 = 45) (h7 : btN s 7 = 45) (h10 : btN s 10 = 84) (h13 : btN s 13 = 58) (w : World) :
    Calls Tryz.prog 65 #[.string s] w (IsErr (parseZ s) (parseE s) w) := by
  have i4 : ∀ W, (Instr.index 9 (.string s) (.int .i64 4)).run Tryz.prog W = .ok (.int .u8 45) W := fun W => by have := index_str s 4 (by omega) W; rw [h4] at this; exact this
  have i7 : ∀ W, (Instr.index 9 (.string s) (.int .i64 7)).run Tryz.prog W = .ok (.int .u8 45) W := fun W => by have := index_str s 7 (by omega) W; rw [h7] at this; exact this
  have i10 : ∀ W, (Instr.index 9 (.string s) (.int .i64 10)).run Tryz.prog W = .ok (.int .u8 84) W := fun W => by have := index_str s 10 (by omega) W; rw [h10] at this; exact this
  have i13 : ∀ W, (Instr.index 9 (.string s) (.int .i64 13)).run Tryz.prog W = .ok (.int .u8 58) W := fun W => by have := index_str s 13 (by omega) W; rw [h13] at this; exact this
  have hs2 : (s.size : Int) = 16 := by omega
  have c1 := fun W => digits_at s 0 4 (by omega) (by omega) W
  have c2 := fun W => digits_at s 5 2 (by omega) (by omega) W
  have c3 := fun W => digits_at s 8 2 (by omega) (by omega) W
  have c4 := fun W => digits_at s 11 2 (by omega) (by omega) W
  have c5 := fun W => digits_at s 14 2 (by omega) (by omega) W
  have s1 : ∀ W, (Instr.slice 9 (.string s) none (some (.int .i64 4)) none).run Tryz.prog W = .ok (.string (s.extract 0 4)) W := fun W => slice_str_to s 4 (by omega) W
  have s2 : ∀ W, (Instr.slice 9 (.string s) (some (.int .i64 5)) (some (.int .i64 7)) none).run Tryz.prog W = .ok (.string (s.extract 5 7)) W := fun W => slice_str s 5 7 (by omega) (by omega) W
  have s3 : ∀ W, (Instr.slice 9 (.string s) (some (.int .i64 8)) (some (.int .i64 10)) none).run Tryz.prog W = .ok (.string (s.extract 8 10)) W := fun W => slice_str s 8 10 (by omega) (by omega) W
  have s4 : ∀ W, (Instr.slice 9 (.string s) (some (.int .i64 11)) (some (.int .i64 13)) none).run Tryz.prog W = .ok (.string (s.extract 11 13)) W := fun W => slice_str s 11 13 (by omega) (by omega) W
  have s5 : ∀ W, (Instr.slice 9 (.string s) (some (.int .i64 14)) none none).run Tryz.prog W = .ok (.string (s.extract 14 16)) W := fun W => by have := slice_str_from s 14 (by omega) W; rw [hs] at this; exact this
  simp only [Nat.zero_add, Nat.reduceAdd] at c1 c2 c3 c4 c5
  have FO := Lib.hid (fun d1 d2 d3 d4 d5 => form_of hs h4 h7 h10 h13 d1 d2 d3 d4 d5)
  have FD := Lib.hid (fun h => form_digits (s := s) h)
  have PB := Lib.hid (fun h => parse_bad (s := s) h)
  have PG := Lib.hid (fun (h : formB s = true) => (⟨by unfold parseZ; rw [h]; rfl, by unfold parseE; rw [h]; rfl⟩ : parseZ s = partZ (numAt s 0 4) (numAt s 5 2) (numAt s 8 2) (numAt s 11 2) (numAt s 14 2) ∧ parseE s = partE (numAt s 0 4) (numAt s 5 2) (numAt s 8 2) (numAt s 11 2) (numAt s 14 2)))
  have b1 := digZ_bd (s := s) (a := 0) (k := 4) (by omega)
  have b2 := digZ_bd (s := s) (a := 5) (k := 2) (by omega)
  have b3 := digZ_bd (s := s) (a := 8) (k := 2) (by omega)
  have b4 := digZ_bd (s := s) (a := 11) (k := 2) (by omega)
  have b5 := digZ_bd (s := s) (a := 14) (k := 2) (by omega)
  generalize s.extract 0 4 = t1 at *
  generalize s.extract 5 7 = t2 at *
  generalize s.extract 8 10 = t3 at *
  generalize s.extract 11 13 = t4 at *
  generalize s.extract 14 16 = t5 at *
  generalize digZ s 0 4 = y at *
  generalize digZ s 5 2 = mo at *
  generalize digZ s 8 2 = d at *
  generalize digZ s 11 2 = h at *
  generalize digZ s 14 2 = mi at *
  have C1 := Lib.hid c1
  have C2 := Lib.hid c2
  have C3 := Lib.hid c3
  have C4 := Lib.hid c4
  have C5 := Lib.hid c5
  clear c1 c2 c3 c4 c5 hs h4 h7 h10 h13
  generalize digAt s 0 4 = g1 at *
  generalize digAt s 5 2 = g2 at *
  generalize digAt s 8 2 = g3 at *
  generalize digAt s 11 2 = g4 at *
  generalize digAt s 14 2 = g5 at *
  generalize numAt s 0 4 = n1 at *
  generalize numAt s 5 2 = n2 at *
  generalize numAt s 8 2 = n3 at *
  generalize numAt s 11 2 = n4 at *
  generalize numAt s 14 2 = n5 at *
  generalize formB s = fb at *
  generalize parseZ s = z at *
  generalize parseE s = x at *
  have bad : (y < 0 ∨ mo < 0 ∨ d < 0 ∨ h < 0 ∨ mi < 0) → z = 0 ∧ x = 3 := by
    intro hh
    refine PB.out ?_
    cases fb with
    | false => rfl
    | true =>
      exfalso
      obtain ⟨e1, e2, e3, e4, e5⟩ := FD.out rfl
      subst e1 e2 e3 e4 e5
      simp at b1 b2 b3 b4 b5
      omega
  have good : 0 ≤ y → 0 ≤ mo → 0 ≤ d → 0 ≤ h → 0 ≤ mi → z = partZ y mo d h mi ∧ x = partE y mo d h mi ∧ h ≤ 99 ∧ mi ≤ 99 := by
    intro a1 a2 a3 a4 a5
    rcases b1 with ⟨e1, rfl, _, _⟩ | ⟨_, rfl⟩
    · rcases b2 with ⟨e2, rfl, _, _⟩ | ⟨_, rfl⟩
      · rcases b3 with ⟨e3, rfl, _, _⟩ | ⟨_, rfl⟩
        · rcases b4 with ⟨e4, rfl, _, q4⟩ | ⟨_, rfl⟩
          · rcases b5 with ⟨e5, rfl, _, q5⟩ | ⟨_, rfl⟩
            · obtain ⟨p1, p2⟩ := PG.out (FO.out e1 e2 e3 e4 e5)
              exact ⟨p1, p2, by omega, by omega⟩
            · omega
          · omega
        · omega
      · omega
    · omega
  clear b1 b2 b3 b4 b5 FO FD PB PG
  have BD := Lib.hid bad
  have GD := Lib.hid good
  clear bad good
  go_enter Tryz.func65, Tryz.ntmps65
  go_wp2_with fail
  go_quiet (first | (go_at_call_of 102 (Value.string t1); exact quiet_eq (C1.out _)) | (go_at_call_of 102 (Value.string t2); exact quiet_eq (C2.out _)) | (go_at_call_of 102 (Value.string t3); exact quiet_eq (C3.out _)) | (go_at_call_of 102 (Value.string t4); exact quiet_eq (C4.out _)) | (go_at_call_of 102 (Value.string t5); exact quiet_eq (C5.out _)))
  clear C1 C2 C3 C4 C5 s1 s2 s3 s4 s5 i4 i7 i10 i13
  have HB := Lib.hid (below_drewN (Below.refl w.heap.size w) nq)
  generalize w.drewN nq = w2 at *
  rcases (show y < 0 ∨ (0 ≤ y ∧ mo < 0) ∨ (0 ≤ y ∧ 0 ≤ mo ∧ d < 0) ∨ (0 ≤ y ∧ 0 ≤ mo ∧ 0 ≤ d ∧ h < 0) ∨ (0 ≤ y ∧ 0 ≤ mo ∧ 0 ≤ d ∧ 0 ≤ h ∧ mi < 0) ∨ (0 ≤ y ∧ 0 ≤ mo ∧ 0 ≤ d ∧ 0 ≤ h ∧ 0 ≤ mi) by omega) with e | ⟨a1, e⟩ | ⟨a1, a2, e⟩ | ⟨a1, a2, a3, e⟩ | ⟨a1, a2, a3, a4, e⟩ | ⟨a1, a2, a3, a4, a5⟩
  case inl =>
    obtain ⟨rfl, rfl⟩ := BD.out (by omega)
    clear BD GD
    go_wp2_with fail
    go_ret2
    exact ⟨rfl, HB.out⟩
  case inr.inl =>
    obtain ⟨rfl, rfl⟩ := BD.out (by omega)
    clear BD GD
    go_wp2_with fail
    go_ret2
    exact ⟨rfl, HB.out⟩
  case inr.inr.inl =>
    obtain ⟨rfl, rfl⟩ := BD.out (by omega)
    clear BD GD
    go_wp2_with fail
    go_ret2
    exact ⟨rfl, HB.out⟩
  case inr.inr.inr.inl =>
    obtain ⟨rfl, rfl⟩ := BD.out (by omega)
    clear BD GD
    go_wp2_with fail
    go_ret2
    exact ⟨rfl, HB.out⟩
  case inr.inr.inr.inr.inl =>
    obtain ⟨rfl, rfl⟩ := BD.out (by omega)
    clear BD GD
    go_wp2_with fail
    go_ret2
    exact ⟨rfl, HB.out⟩
  case inr.inr.inr.inr.inr =>
    obtain ⟨ez, ex, h9, m9⟩ := GD.out a1 a2 a3 a4 a5
    subst ez ex
    clear BD GD
    have BA := Lib.hid (fun hh => part_bad (y := y) (mo := mo) (d := d) (h := h) (mi := mi) hh)
    have GO := Lib.hid (fun h1 h2 h3 h4 => part_good (y := y) (mo := mo) (d := d) (h := h) (mi := mi) h1 h2 h3 h4)
    generalize partZ y mo d h mi = z at *
    generalize partE y mo d h mi = x at *
    have MZ := Lib.hid (show minZ y mo d h mi = daysZ y mo d * 1440 + h * 60 + mi from rfl)
    generalize minZ y mo d h mi = n at *
    have nb := daysZ_bd y mo d
    have cd := fun W => rdays_any y mo d W
    have nz := MZ.out
    generalize daysZ y mo d = dz at *
    generalize daysB y mo d = db at *
    have CD := Lib.hid cd
    have NZ := Lib.hid nz
    clear cd nz MZ
    cases db
    · obtain ⟨rfl, rfl⟩ := BA.out (.inr (.inr (.inl rfl)))
      clear BA GO
      go_wp2_with (go_at_call 103; refine (CD.out _).mono ?_; rintro e w' ⟨rfl, rfl⟩)
      go_ret2
      exact ⟨rfl, HB.out⟩
    · rcases (show 24 ≤ h ∨ (h < 24 ∧ 60 ≤ mi) ∨ (h < 24 ∧ mi < 60 ∧ 575999999 < n) ∨ (h < 24 ∧ mi < 60 ∧ n ≤ 575999999) by omega) with e1 | ⟨e1, e2⟩ | ⟨e1, e2, e3⟩ | ⟨e1, e2, e3⟩
      · obtain ⟨rfl, rfl⟩ := BA.out (.inl e1)
        clear BA GO
        go_wp2_with (go_at_call 103; refine (CD.out _).mono ?_; rintro e w' ⟨rfl, rfl⟩)
        go_ret2
        exact ⟨rfl, HB.out⟩
      · obtain ⟨rfl, rfl⟩ := BA.out (.inr (.inl e2))
        clear BA GO
        go_wp2_with (go_at_call 103; refine (CD.out _).mono ?_; rintro e w' ⟨rfl, rfl⟩)
        go_ret2
        exact ⟨rfl, HB.out⟩
      · obtain ⟨rfl, rfl⟩ := BA.out (.inr (.inr (.inr e3)))
        have hn2 : 575999999 < dz * 1440 + h * 60 + mi := by have := NZ.out; omega
        clear BA GO
        go_wp2_with (go_at_call 103; refine (CD.out _).mono ?_; rintro e w' ⟨rfl, rfl⟩)
        go_ret2
        exact ⟨rfl, HB.out⟩
      · obtain ⟨rfl, rfl⟩ := GO.out e1 e2 rfl e3
        have hn2 : dz * 1440 + h * 60 + mi ≤ 575999999 := by have := NZ.out; omega
        clear BA GO
        go_wp2_with (go_at_call 103; refine (CD.out _).mono ?_; rintro e w' ⟨rfl, rfl⟩)
        go_ret2
        exact ⟨ret_err NZ.out.symm rfl, HB.out⟩

theorem rparse_any (s : ByteArray) (w : World) : Calls Tryz.prog 65 #[.string s] w (IsErr (parseZ s) (parseE s) w) := by
  by_cases hs : s.size = 16
  · by_cases hf : btN s 4 = 45 ∧ btN s 7 = 45 ∧ btN s 10 = 84 ∧ btN s 13 = 58
    · obtain ⟨h4, h7, h10, h13⟩ := hf
      exact rparse_rest s hs h4 h7 h10 h13 w
    · have e : formB s = false := by
        cases e : formB s with
        | false => rfl
        | true => exact absurd (form_fixed e) hf
      obtain ⟨e1, e2⟩ := parse_bad e
      rw [e1, e2]
      exact rparse_fixed s hs hf w
  · obtain ⟨e1, e2⟩ := parse_bad (formB_size hs)
    rw [e1, e2]
    exact rparse_short s hs w

end Go.Proofs.YtmdpjahhhfajaaaGreatDoor
set_option linter.unusedVariables false
namespace Go.Proofs.YtmdpjahhhfajaaaGreatDoor
open Go.RowKit

theorem bcell {W w1 : World} (hb : Below W.heap.size W w1) : (∀ b o, b < W.heap.size → w1.cell? ⟨b, o, none⟩ = W.cell? ⟨b, o, none⟩) ∧ (∀ b o, b < W.heap.size → w1.frozen? ⟨b, o, none⟩ = W.frozen? ⟨b, o, none⟩) :=
  ⟨fun b o h => hb.cell (p := ⟨b, o, none⟩) h, fun b o h => hb.frozen (p := ⟨b, o, none⟩) h⟩

theorem Below.drewN' {B : Nat} {a w : World} (h : Below B a w) (n : Nat) : Below B a (w.drewN n) := ⟨h.os, h.tape, h.output, h.size, h.block⟩

/-- Three cells in a box of the call's own. -/
theorem box_cells {w wr : World} {v0 v1 v2 : Value} {t : TypeId} (h : Below (w.heap.size + 1) (w.alloc (.cells #[v0, v1, v2] t)) wr) :
    wr.cell? ⟨w.heap.size, 0, none⟩ = some v0 ∧ wr.cell? ⟨w.heap.size, 1, none⟩ = some v1 ∧ wr.cell? ⟨w.heap.size, 2, none⟩ = some v2 ∧ w.heap.size + 1 ≤ wr.heap.size ∧ Below w.heap.size w wr := by
  have e : (w.alloc (.cells #[v0, v1, v2] t)).heap[w.heap.size]? = some (.cells #[v0, v1, v2] t) := heap_alloc_new w _
  have hs := h.size
  simp only [World.size_alloc] at hs
  refine ⟨?_, ?_, ?_, hs, ((Below.refl _ _).alloc (Nat.le_refl _) _).trans (h.mono (by omega))⟩
  · rw [h.cell (p := ⟨w.heap.size, 0, none⟩) (by show w.heap.size < _; omega)]
    exact cell_of_row _ _ 0 _ _ _ e
  · rw [h.cell (p := ⟨w.heap.size, 1, none⟩) (by show w.heap.size < _; omega)]
    exact cell_of_row _ _ 1 _ _ _ e
  · rw [h.cell (p := ⟨w.heap.size, 2, none⟩) (by show w.heap.size < _; omega)]
    exact cell_of_row _ _ 2 _ _ _ e

/-- A box of three cells and one of one cell, while callees make new memory. -/
theorem keepPair {W w' : World} {B1 B2 : Nat} {v0 v1 v2 x : Value}
    (h : W.cell? ⟨B1, 0, none⟩ = some v0 ∧ W.cell? ⟨B1, 1, none⟩ = some v1 ∧ W.cell? ⟨B1, 2, none⟩ = some v2 ∧ W.cell? ⟨B2, 0, none⟩ = some x) (h1 : B1 < W.heap.size) (h2 : B2 < W.heap.size) (hb : Below W.heap.size W w') :
    w'.cell? ⟨B1, 0, none⟩ = some v0 ∧ w'.cell? ⟨B1, 1, none⟩ = some v1 ∧ w'.cell? ⟨B1, 2, none⟩ = some v2 ∧ w'.cell? ⟨B2, 0, none⟩ = some x := by
  obtain ⟨c0, c1, c2, c3⟩ := h
  have hc := (bcell hb).1
  refine ⟨?_, ?_, ?_, ?_⟩ <;> (rw [hc _ _ (by omega)]; assumption)

theorem two_boxes (w : World) (v0 v1 v2 x : Value) (t u : TypeId) {W0 : World} (hW0 : W0 = (w.alloc (.cells #[v0, v1, v2] t)).alloc (.cells #[x] u)) :
    W0.heap.size = w.heap.size + 1 + 1 ∧ Below w.heap.size w W0 ∧ W0.cell? ⟨w.heap.size, 0, none⟩ = some v0 ∧ W0.cell? ⟨w.heap.size, 1, none⟩ = some v1 ∧ W0.cell? ⟨w.heap.size, 2, none⟩ = some v2 ∧ W0.cell? ⟨w.heap.size + 1, 0, none⟩ = some x := by
  have e0 : W0.heap[w.heap.size]? = some (.cells #[v0, v1, v2] t) := by
    rw [hW0, Below.heap_alloc _ _ _ (by simp)]
    exact heap_alloc_new w _
  have e1 : W0.heap[w.heap.size + 1]? = some (.cells #[x] u) := by
    have := heap_alloc_new (w.alloc (.cells #[v0, v1, v2] t)) (.cells #[x] u)
    rw [World.size_alloc] at this
    rw [hW0]
    exact this
  exact ⟨by rw [hW0]; simp, by rw [hW0]; exact ((Below.refl _ w).alloc (Nat.le_refl _) _).alloc (by simp) _, cell_of_row _ _ 0 _ _ _ e0, cell_of_row _ _ 1 _ _ _ e0, cell_of_row _ _ 2 _ _ _ e0, cell_of_row _ _ 0 _ _ _ e1⟩

/-- A box of three cells, while callees make new memory. -/
theorem keepZone {W0 W w' : World} {B : Nat} {v0 v1 v2 : Value}
    (h : W.cell? ⟨B, 0, none⟩ = some v0 ∧ W.cell? ⟨B, 1, none⟩ = some v1 ∧ W.cell? ⟨B, 2, none⟩ = some v2 ∧ B + 1 ≤ W.heap.size ∧ Below B W0 W) (hb : Below W.heap.size W w') :
    w'.cell? ⟨B, 0, none⟩ = some v0 ∧ w'.cell? ⟨B, 1, none⟩ = some v1 ∧ w'.cell? ⟨B, 2, none⟩ = some v2 ∧ B + 1 ≤ w'.heap.size ∧ Below B W0 w' := by
  obtain ⟨h0, h1, h2, h3, h4⟩ := h
  have hc := (bcell hb).1
  have hs := hb.size
  refine ⟨?_, ?_, ?_, by omega, h4.trans (hb.mono (by omega))⟩ <;> (rw [hc _ _ (by omega)]; assumption)

/-- Two boxes of three cells. -/
theorem keepTwo {W0 W w' : World} {B0 B1 B2 : Nat} {a0 a1 a2 b0 b1 b2 : Value}
    (h : W.cell? ⟨B1, 0, none⟩ = some a0 ∧ W.cell? ⟨B1, 1, none⟩ = some a1 ∧ W.cell? ⟨B1, 2, none⟩ = some a2 ∧ W.cell? ⟨B2, 0, none⟩ = some b0 ∧ W.cell? ⟨B2, 1, none⟩ = some b1 ∧ W.cell? ⟨B2, 2, none⟩ = some b2 ∧
      B1 < W.heap.size ∧ B2 < W.heap.size ∧ B0 ≤ W.heap.size ∧ Below B0 W0 W)
    (hb : Below W.heap.size W w') :
    w'.cell? ⟨B1, 0, none⟩ = some a0 ∧ w'.cell? ⟨B1, 1, none⟩ = some a1 ∧ w'.cell? ⟨B1, 2, none⟩ = some a2 ∧ w'.cell? ⟨B2, 0, none⟩ = some b0 ∧ w'.cell? ⟨B2, 1, none⟩ = some b1 ∧ w'.cell? ⟨B2, 2, none⟩ = some b2 ∧
      B1 < w'.heap.size ∧ B2 < w'.heap.size ∧ B0 ≤ w'.heap.size ∧ Below B0 W0 w' := by
  obtain ⟨h0, h1, h2, h3, h4, h5, h6, h7, h8, h9⟩ := h
  have hc := (bcell hb).1
  have hs := hb.size
  refine ⟨?_, ?_, ?_, ?_, ?_, ?_, by omega, by omega, by omega, h9.trans (hb.mono (by omega))⟩ <;> (rw [hc _ _ (by omega)]; assumption)

theorem own_mono {w : World} {base base' E sz n : Nat} {v : Value} {xs : List Value} (h : w.ownsRow base E sz v n xs) (hb : base' ≤ base) : w.ownsRow base' E sz v n xs := by
  refine ⟨h.1, ?_⟩
  rcases h.2 with h | ⟨g, cap, cur, e, hg, rest⟩
  · exact .inl h
  · exact .inr ⟨g, cap, cur, e, by omega, rest⟩

/-- A block of three cells. -/
structure Box3 (w : World) (b : Nat) (x y z : Value) (t : TypeId) : Prop where
  block : w.heap[b]? = some (.cells #[x, y, z] t (0, 0))

theorem Box3.c0 {w : World} {b : Nat} {x y z : Value} {t : TypeId} (h : Box3 w b x y z t) : w.cell? ⟨b, 0, none⟩ = some x := cell_of_row _ _ 0 _ _ _ h.block
theorem Box3.c1 {w : World} {b : Nat} {x y z : Value} {t : TypeId} (h : Box3 w b x y z t) : w.cell? ⟨b, 1, none⟩ = some y := cell_of_row _ _ 1 _ _ _ h.block
theorem Box3.c2 {w : World} {b : Nat} {x y z : Value} {t : TypeId} (h : Box3 w b x y z t) : w.cell? ⟨b, 2, none⟩ = some z := cell_of_row _ _ 2 _ _ _ h.block
theorem Box3.free {w : World} {b : Nat} {x y z : Value} {t : TypeId} (h : Box3 w b x y z t) (j : Nat) : w.frozen? ⟨b, j, none⟩ = false := by simp [World.frozen?, h.block]
theorem Box3.lt {w : World} {b : Nat} {x y z : Value} {t : TypeId} (h : Box3 w b x y z t) : b < w.heap.size := (Array.getElem?_eq_some_iff.1 h.block).1
theorem Box3.set2 {w : World} {b : Nat} {x y z u : Value} {t : TypeId} (h : Box3 w b x y z t) : Box3 (w.setCell ⟨b, 2, none⟩ u) b x y u t := by
  refine ⟨?_⟩
  have hb := h.block
  simp only [World.setCell, Array.getElem?_modify, if_pos]
  rw [hb]
  rfl
theorem Box3.far {w : World} {b : Nat} {x y z u : Value} {t : TypeId} (h : Box3 w b x y z t) {a : Addr} (ha : b ≠ a.block) : Box3 (w.setCell a u) b x y z t := ⟨by rw [Below.heap_setCell _ _ _ _ ha]; exact h.block⟩
theorem Box3.alloc {w : World} {b : Nat} {x y z : Value} {t : TypeId} (h : Box3 w b x y z t) (o : Obj) : Box3 (w.alloc o) b x y z t := ⟨by rw [Below.heap_alloc _ _ _ h.lt]; exact h.block⟩
theorem Box3.drew {w : World} {b : Nat} {x y z : Value} {t : TypeId} (h : Box3 w b x y z t) : Box3 w.drew b x y z t := ⟨h.block⟩
theorem Box3.grown {w w' : World} {b : Nat} {x y z : Value} {t : TypeId} {row : Option Nat} (h : Box3 w b x y z t) (hg : w.grownBy w' row) (hne : some b ≠ row) : Box3 w' b x y z t := ⟨by rw [hg.block b h.lt hne]; exact h.block⟩

theorem choose_list {α : Type} (P : Nat → α → Prop) : ∀ n : Nat, (∀ i, i < n → ∃ v, P i v) → ∃ vs : List α, vs.length = n ∧ ∀ i v, vs[i]? = some v → P i v
  | 0, _ => ⟨[], rfl, by simp⟩
  | n + 1, h => by
    obtain ⟨vs, hl, hv⟩ := choose_list P n fun i hi => h i (by omega)
    obtain ⟨v, hp⟩ := h n (by omega)
    refine ⟨vs ++ [v], by simp [hl], fun i u hu => ?_⟩
    by_cases hi : i < n
    · rw [List.getElem?_append_left (by omega)] at hu
      exact hv i u hu
    · have hlt := (List.getElem?_eq_some_iff.1 hu).1
      simp only [List.length_append, List.length_cons, List.length_nil] at hlt
      obtain rfl : i = n := by omega
      rw [List.getElem?_append_right (by omega), hl] at hu
      simp at hu
      subst hu
      exact hp

end Go.Proofs.YtmdpjahhhfajaaaGreatDoor
set_option linter.unusedVariables false
namespace Wh
open Go

/-- Are two texts the same? -/
def eqS (s t : ByteArray) : Bool := s.toList == t.toList

theorem toList_bts (s : ByteArray) : s.toList = bts s := Lib.toList_data s
theorem eqS_iff {s t : ByteArray} : eqS s t = true ↔ s = t := by
  unfold eqS
  rw [toList_bts, toList_bts, beq_iff_eq]
  constructor
  · intro h
    apply ByteArray.ext
    exact Array.toList_inj.1 h
  · rintro rfl; rfl
theorem eqS_refl (s : ByteArray) : eqS s s = true := eqS_iff.2 rfl
theorem eqS_comm (s t : ByteArray) : eqS s t = eqS t s := by
  cases h : eqS t s with
  | true => rw [eqS_iff.1 h]; exact eqS_refl _
  | false =>
    cases h2 : eqS s t with
    | false => rfl
    | true => rw [eqS_iff.1 h2, eqS_refl] at h; cases h

end Wh
namespace Go.Proofs.YtmdpjahhhfajaaaGreatDoor
open Go.RowKit Wh

theorem info_str : (Tryz.prog.info? 9).map (fun i => (i.zero, i.size, i.bytes)) = some (some (.string ⟨#[]⟩), 1, 16) := by kernel_rfl
theorem size_str (W : World) : (sizeOf 9).run Tryz.prog W = .ok 1 W := by
  obtain ⟨i0, hi, _, h1, _⟩ := info_parts info_str
  simp [sizeOf, typeInfo, hi, h1]

theorem slice_to_strs (b off len cap k : Nat) (hk : k ≤ cap) (hc : 0 < cap) (W : World) :
    (Instr.slice 46 (.slice (some ⟨b, off, none⟩) len cap) none (some (.int .i64 k)) none).run Tryz.prog W = .ok (.slice (some ⟨b, off, none⟩) k cap) W := by
  have ht : Tryz.prog.underlying 46 = some (.slice (Tryz.prog.elem 46)) := by simp [Program.elem, Tryz.underlying46]
  have he : Tryz.prog.elem 46 = 9 := by simp [Program.elem, Tryz.underlying46]
  rw [run_slice_h W _ _ _ _ ht .i64 _ (by omega) (by omega), he, size_str]
  have hadd : (⟨b, off, none⟩ : Addr).add 0 = ⟨b, off, none⟩ := by unfold Addr.add; split <;> simp_all
  simp [Result.andThen, sliced, hadd, show ¬ cap = 0 by omega]

/-- The slice (a, len) has the texts ss. -/
def IsStrs (w : World) (a : Option Addr) (len : Nat) (ss : List ByteArray) : Prop :=
  ss.length = len ∧ (ss = [] ∨ ∃ b off, a = some ⟨b, off, none⟩ ∧ b < w.heap.size ∧ ∀ i s, ss[i]? = some s → w.cell? ⟨b, off + i, none⟩ = some (.string s))

theorem IsStrs.below {w w' : World} {a : Option Addr} {len B : Nat} {cs : List ByteArray} (h : IsStrs w a len cs) (hb : Below B w w') (hB : w.heap.size ≤ B) : IsStrs w' a len cs := by
  obtain ⟨h1, h2⟩ := h
  refine ⟨h1, ?_⟩
  rcases h2 with h2 | ⟨b, off, ha, hlt, hc⟩
  · exact .inl h2
  · refine .inr ⟨b, off, ha, by have := hb.size; omega, fun i s hs => ?_⟩
    rw [hb.cell (p := ⟨b, off + i, none⟩) (by show b < B; omega)]
    exact hc i s hs

theorem IsStrs.at {w : World} {a : Option Addr} {len : Nat} {ss : List ByteArray} (h : IsStrs w a len ss) {k : Nat} (hk : k < len) :
    ∃ s b off, ss[k]? = some s ∧ a = some ⟨b, off, none⟩ ∧ b < w.heap.size ∧ w.cell? ⟨b, off + k, none⟩ = some (.string s) := by
  obtain ⟨h1, h2⟩ := h
  obtain ⟨s, hs⟩ : ∃ s, ss[k]? = some s := ⟨_, List.getElem?_eq_getElem (by omega)⟩
  rcases h2 with rfl | ⟨b, off, ha, hlt, hc⟩
  · simp at hs
  · exact ⟨s, b, off, hs, ha, hlt, hc k _ hs⟩

theorem IsStrs.take {w : World} {a : Option Addr} {len : Nat} {cs : List ByteArray} (h : IsStrs w a len cs) {k : Nat} (hk : k ≤ len) : IsStrs w a k (cs.take k) := by
  obtain ⟨h1, h2⟩ := h
  refine ⟨by rw [List.length_take]; omega, ?_⟩
  rcases h2 with rfl | ⟨b, off, ha, hlt, hc⟩
  · exact .inl (by simp)
  · refine .inr ⟨b, off, ha, hlt, fun i c hi => hc i c ?_⟩
    have hlt := (List.getElem?_eq_some_iff.1 hi).1
    rw [List.length_take] at hlt
    rw [List.getElem?_take_of_lt (by omega)] at hi
    exact hi

/-- Is it a letter, a digit? -/
def letB (c : Int) : Bool := decide (97 ≤ c) && decide (c ≤ 122)
def digB (c : Int) : Bool := decide (48 ≤ c) && decide (c ≤ 57)

theorem isLetter_any (c : Int) (w : World) : Calls Tryz.prog 165 #[.int .i32 c] w fun e w' => e = .returned (.bool (letB c)) ∧ w = w' := by
  go_enter Tryz.func165, Tryz.ntmps165
  go_wp2
  all_goals
    go_ret
    refine ⟨ret_bool ?_, rfl⟩
    unfold letB
    first | (rw [decide_eq_true (p := 97 ≤ c) (by assumption), Bool.true_and]) | (rw [decide_eq_false (p := 97 ≤ c) (by assumption), Bool.false_and]) | (rw [decide_eq_false (p := 97 ≤ c) (by omega), Bool.false_and])

theorem isDigit_any (c : Int) (w : World) : Calls Tryz.prog 166 #[.int .i32 c] w fun e w' => e = .returned (.bool (digB c)) ∧ w = w' := by
  go_enter Tryz.func166, Tryz.ntmps166
  go_wp2
  all_goals
    go_ret
    refine ⟨ret_bool ?_, rfl⟩
    unfold digB
    first | (rw [decide_eq_true (p := 48 ≤ c) (by assumption), Bool.true_and]) | (rw [decide_eq_false (p := 48 ≤ c) (by assumption), Bool.false_and]) | (rw [decide_eq_false (p := 48 ≤ c) (by omega), Bool.false_and])

end Go.Proofs.YtmdpjahhhfajaaaGreatDoor
