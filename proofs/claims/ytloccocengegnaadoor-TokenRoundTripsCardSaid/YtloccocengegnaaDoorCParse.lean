/-
  Parse, of civil and of its reference.
-/
import Derived.Test.YtloccocengegnaaDoorCDays
import Derived.Test.YtloccocengegnaaDoorCText
import Derived.Deep.RegionWith
set_option linter.unusedVariables false
namespace Wh

/-- The number of minutes that the parts of a text give. -/
def minZ (y mo d h mi : Int) : Int := daysZ y mo d * 1440 + h * 60 + mi
/-- The error that the parts give. -/
def partE (y mo d h mi : Int) : Int := if 24 ≤ h ∨ 60 ≤ mi ∨ daysB y mo d = false ∨ 575999999 < minZ y mo d h mi then 1 else 0
def partZ (y mo d h mi : Int) : Int := if partE y mo d h mi = 0 then minZ y mo d h mi else 0

theorem part_bad {y mo d h mi : Int} (hh : 24 ≤ h ∨ 60 ≤ mi ∨ daysB y mo d = false ∨ 575999999 < minZ y mo d h mi) : partE y mo d h mi = 1 ∧ partZ y mo d h mi = 0 := by
  have e : partE y mo d h mi = 1 := by unfold partE; rw [if_pos hh]
  exact ⟨e, by unfold partZ; rw [e]; rfl⟩
theorem part_good {y mo d h mi : Int} (h1 : h < 24) (h2 : mi < 60) (h3 : daysB y mo d = true) (h4 : minZ y mo d h mi ≤ 575999999) : partE y mo d h mi = 0 ∧ partZ y mo d h mi = minZ y mo d h mi := by
  have e : partE y mo d h mi = 0 := by
    unfold partE
    rw [if_neg]
    rintro (h | h | h | h)
    · omega
    · omega
    · rw [h3] at h; cases h
    · omega
  exact ⟨e, by unfold partZ; rw [e]; rfl⟩

/-- What Parse returns: the error and the number. -/
def parseE (s : ByteArray) : Int := if formB s = true then partE (numAt s 0 4) (numAt s 5 2) (numAt s 8 2) (numAt s 11 2) (numAt s 14 2) else 3
def parseZ (s : ByteArray) : Int := if formB s = true then partZ (numAt s 0 4) (numAt s 5 2) (numAt s 8 2) (numAt s 11 2) (numAt s 14 2) else 0

theorem form_digits {s : ByteArray} (h : formB s = true) : digAt s 0 4 = true ∧ digAt s 5 2 = true ∧ digAt s 8 2 = true ∧ digAt s 11 2 = true ∧ digAt s 14 2 = true := by
  have a := (formB_all h).2
  refine ⟨digAt_of fun i hi => ?_, digAt_of fun i hi => ?_, digAt_of fun i hi => ?_, digAt_of fun i hi => ?_, digAt_of fun i hi => ?_⟩
  · have := a (0 + i) (by omega)
    unfold okAt at this
    rw [if_neg (by omega), if_neg (by omega), if_neg (by omega)] at this
    simpa using this
  · have := a (5 + i) (by omega)
    unfold okAt at this
    rw [if_neg (by omega), if_neg (by omega), if_neg (by omega)] at this
    simpa using this
  · have := a (8 + i) (by omega)
    unfold okAt at this
    rw [if_neg (by omega), if_neg (by omega), if_neg (by omega)] at this
    simpa using this
  · have := a (11 + i) (by omega)
    unfold okAt at this
    rw [if_neg (by omega), if_neg (by omega), if_neg (by omega)] at this
    simpa using this
  · have := a (14 + i) (by omega)
    unfold okAt at this
    rw [if_neg (by omega), if_neg (by omega), if_neg (by omega)] at this
    simpa using this

theorem daysZ_bd (y m d : Int) : 0 ≤ daysZ y m d ∧ daysZ y m d ≤ 400000 := by
  cases h : daysB y m d with
  | false => rw [daysZ_no h]; omega
  | true =>
    obtain ⟨k, _, hd, e⟩ := daysB_dt h
    rw [e]
    exact ⟨hd.n0, hd.n1⟩

end Wh
namespace Go.Proofs.YtloccocengegnaaDoor
open Go.RowKit Wh

/-- The call returns a number and an error, and nothing that was there has changed. -/
def IsErr (z x : Int) (w : World) (e : Ending) (w' : World) : Prop := e = .returned (.tuple #[.int .i64 z, .int .i64 x]) ∧ Below w.heap.size w w'
theorem ret_err {a b x y : Int} (h : a = b) (g : x = y) : Ending.returned (.tuple #[.int .i64 a, .int .i64 x]) = .returned (.tuple #[.int .i64 b, .int .i64 y]) := by rw [h, g]

theorem number_at (s : ByteArray) (a k : Nat) (hk : k ≤ 4) (hs : a + k ≤ s.size) (hd : digAt s a k = true) (w : World) :
    Calls Tryd.prog 70 #[.string (s.extract a (a + k))] w fun e w' => e = .returned (.int .i64 (numAt s a k)) ∧ w = w' := by
  have h := number_any (s.extract a (a + k)) k hk (by rw [size_extract (by omega) hs]; omega) (by rw [digAt_extract (by omega)]; exact hd) w
  rw [numAt_extract (by omega)] at h
  exact h

theorem parse_any (s : ByteArray) (w : World) (ht : Tab w) :
    Calls Tryd.prog 54 #[.string s] w (IsErr (parseZ s) (parseE s) w) := by
  have cf := fun W => hasForm_any s W
  cases hf : formB s
  · rw [show parseZ s = 0 by unfold parseZ; rw [hf]; rfl, show parseE s = 3 by unfold parseE; rw [hf]; rfl]
    rw [hf] at cf
    have CF := Lib.hid cf
    clear cf hf
    go_enter Tryd.func54, Tryd.ntmps54
    go_wp2_with fail
    refine (CF.out _).mono ?_
    rintro e w1 ⟨rfl, hb⟩
    go_wp2_with fail
    go_ret2
    exact ⟨rfl, hb⟩
  · rw [show parseZ s = partZ (numAt s 0 4) (numAt s 5 2) (numAt s 8 2) (numAt s 11 2) (numAt s 14 2) by unfold parseZ; rw [hf]; rfl, show parseE s = partE (numAt s 0 4) (numAt s 5 2) (numAt s 8 2) (numAt s 11 2) (numAt s 14 2) by unfold parseE; rw [hf]; rfl]
    rw [hf] at cf
    obtain ⟨d1, d2, d3, d4, d5⟩ := form_digits hf
    have hs := (formB_all hf).1
    have c1 := fun W => number_at s 0 4 (by omega) (by omega) d1 W
    have c2 := fun W => number_at s 5 2 (by omega) (by omega) d2 W
    have c3 := fun W => number_at s 8 2 (by omega) (by omega) d3 W
    have c4 := fun W => number_at s 11 2 (by omega) (by omega) d4 W
    have c5 := fun W => number_at s 14 2 (by omega) (by omega) d5 W
    have s1 : ∀ W, (Instr.slice 9 (.string s) (some (.int .i64 0)) (some (.int .i64 4)) none).run Tryd.prog W = .ok (.string (s.extract 0 4)) W := fun W => slice_str s 0 4 (by omega) (by omega) W
    have s2 : ∀ W, (Instr.slice 9 (.string s) (some (.int .i64 5)) (some (.int .i64 7)) none).run Tryd.prog W = .ok (.string (s.extract 5 7)) W := fun W => slice_str s 5 7 (by omega) (by omega) W
    have s3 : ∀ W, (Instr.slice 9 (.string s) (some (.int .i64 8)) (some (.int .i64 10)) none).run Tryd.prog W = .ok (.string (s.extract 8 10)) W := fun W => slice_str s 8 10 (by omega) (by omega) W
    have s4 : ∀ W, (Instr.slice 9 (.string s) (some (.int .i64 11)) (some (.int .i64 13)) none).run Tryd.prog W = .ok (.string (s.extract 11 13)) W := fun W => slice_str s 11 13 (by omega) (by omega) W
    have s5 : ∀ W, (Instr.slice 9 (.string s) (some (.int .i64 14)) (some (.int .i64 16)) none).run Tryd.prog W = .ok (.string (s.extract 14 16)) W := fun W => slice_str s 14 16 (by omega) (by omega) W
    have b4 := (numAt_bd (by omega) d4)
    have b5 := (numAt_bd (by omega) d5)
    simp only [Nat.zero_add, Nat.reduceAdd] at c1 c2 c3 c4 c5
    generalize s.extract 0 4 = t1 at *
    generalize s.extract 5 7 = t2 at *
    generalize s.extract 8 10 = t3 at *
    generalize s.extract 11 13 = t4 at *
    generalize s.extract 14 16 = t5 at *
    generalize numAt s 0 4 = y at *
    generalize numAt s 5 2 = mo at *
    generalize numAt s 8 2 = d at *
    generalize numAt s 11 2 = h at *
    generalize numAt s 14 2 = mi at *
    have h0 := b4.1
    have h9 : h ≤ 99 := by omega
    have m0 := b5.1
    have m9 : mi ≤ 99 := by omega
    have CF := Lib.hid cf
    have C1 := Lib.hid c1
    have C2 := Lib.hid c2
    have C3 := Lib.hid c3
    have C4 := Lib.hid c4
    have C5 := Lib.hid c5
    have TW := Lib.hid (fun W (hb : Below w.heap.size w W) => ht.below hb (Nat.le_refl _))
    have BA := Lib.hid (fun hh => part_bad (y := y) (mo := mo) (d := d) (h := h) (mi := mi) hh)
    have GO := Lib.hid (fun h1 h2 h3 h4 => part_good (y := y) (mo := mo) (d := d) (h := h) (mi := mi) h1 h2 h3 h4)
    generalize partZ y mo d h mi = z at *
    generalize partE y mo d h mi = x at *
    have MZ := Lib.hid (show minZ y mo d h mi = daysZ y mo d * 1440 + h * 60 + mi from rfl)
    generalize minZ y mo d h mi = n at *
    have nb := daysZ_bd y mo d
    clear cf c1 c2 c3 c4 c5 d1 d2 d3 d4 d5 hf hs ht b4 b5
    go_enter Tryd.func54, Tryd.ntmps54
    go_wp2_with fail
    refine (CF.out _).mono ?_
    rintro e w1 ⟨rfl, hb⟩
    have HB := Lib.hid hb
    clear hb
    go_wp2_with fail
    go_quiet (first | (go_at_call_of 70 (Value.string t4); exact quiet_eq (C4.out _)) | (go_at_call_of 70 (Value.string t5); exact quiet_eq (C5.out _)))
    clear C4 C5 s4 s5
    have HB2 := Lib.hid (below_drewN HB.out nq)
    generalize w1.drewN nq = w2 at *
    clear HB CF
    rcases (show 24 ≤ h ∨ (h < 24 ∧ 60 ≤ mi) ∨ (h < 24 ∧ mi < 60) by omega) with e1 | ⟨e1, e2⟩ | ⟨e1, e2⟩
    · obtain ⟨rfl, rfl⟩ := BA.out (.inl e1)
      clear BA GO
      go_wp2_with fail
      go_ret2
      exact ⟨rfl, HB2.out⟩
    · obtain ⟨rfl, rfl⟩ := BA.out (.inr (.inl e2))
      clear BA GO
      go_wp2_with fail
      go_ret2
      exact ⟨rfl, HB2.out⟩
    · have cd := fun k => days_any y mo d (w2.drewN k) (TW.out _ (below_drewN HB2.out k))
      have nz := MZ.out
      generalize daysZ y mo d = dz at *
      generalize daysB y mo d = db at *
      have CD := Lib.hid cd
      have NZ := Lib.hid nz
      clear cd nz MZ
      cases db
      · obtain ⟨rfl, rfl⟩ := BA.out (.inr (.inr (.inl rfl)))
        clear BA GO
        go_wp2_with fail
        go_quiet (first | (go_at_call_of 70 (Value.string t1); exact quiet_eq (C1.out _)) | (go_at_call_of 70 (Value.string t2); exact quiet_eq (C2.out _)) | (go_at_call_of 70 (Value.string t3); exact quiet_eq (C3.out _)) | (go_at_call 71; exact quiet_eq (CD.out _)))
        go_wp2_with fail
        go_ret2
        exact ⟨rfl, below_drewN HB2.out _⟩
      · by_cases hn : 575999999 < n
        · obtain ⟨rfl, rfl⟩ := BA.out (.inr (.inr (.inr hn)))
          have hn2 : 575999999 < dz * 1440 + h * 60 + mi := by have := NZ.out; omega
          clear BA GO
          go_wp2_with fail
          go_quiet (first | (go_at_call_of 70 (Value.string t1); exact quiet_eq (C1.out _)) | (go_at_call_of 70 (Value.string t2); exact quiet_eq (C2.out _)) | (go_at_call_of 70 (Value.string t3); exact quiet_eq (C3.out _)) | (go_at_call 71; exact quiet_eq (CD.out _)))
          go_wp2_with fail
          go_ret2
          exact ⟨rfl, below_drewN HB2.out _⟩
        · obtain ⟨rfl, rfl⟩ := GO.out e1 e2 rfl (by omega)
          have hn2 : dz * 1440 + h * 60 + mi ≤ 575999999 := by have := NZ.out; omega
          clear BA GO
          go_wp2_with fail
          go_quiet (first | (go_at_call_of 70 (Value.string t1); exact quiet_eq (C1.out _)) | (go_at_call_of 70 (Value.string t2); exact quiet_eq (C2.out _)) | (go_at_call_of 70 (Value.string t3); exact quiet_eq (C3.out _)) | (go_at_call 71; exact quiet_eq (CD.out _)))
          go_wp2_with fail
          go_ret2
          exact ⟨ret_err NZ.out.symm rfl, below_drewN HB2.out _⟩

end Go.Proofs.YtloccocengegnaaDoor

