/-
  literalSize and readText, of package token.
-/
import Derived.Test.YtmdpjahhhfajaaaGreatDoorJA36
set_option linter.unusedVariables false
set_option maxRecDepth 100000
namespace Wh
open Go Go.Proofs.YtmdpjahhhfajaaaGreatDoor

/-- Where the literal ends whose text goes on at place i; 0: it has no end. -/
def litAt (s : ByteArray) (i : Nat) : Nat := match litL ((bts s).drop i) with | none => 0 | some p => i + p.2
theorem litAt_end {s : ByteArray} {i : Nat} (h : s.size ≤ i) : litAt s i = 0 := by
  unfold litAt
  rw [List.drop_of_length_le (by rw [bts_length]; exact h)]
  rfl
theorem litAt_byte {s : ByteArray} {i : Nat} (h : i < s.size) (hb : ¬ btN s i = 39) : litAt s i = litAt s (i + 1) := by
  obtain ⟨x, e, hx⟩ := drop_at h
  unfold litAt
  rw [e, litL_byte (by rintro rfl; exact hb (by rw [← hx]; rfl))]
  cases litL ((bts s).drop (i + 1)) with
  | none => rfl
  | some p => simp only [Option.map_some]; omega
theorem litAt_pair {s : ByteArray} {i : Nat} (h : i + 1 < s.size) (hb : btN s i = 39) (hb2 : btN s (i + 1) = 39) : litAt s i = litAt s (i + 2) := by
  obtain ⟨x, e, hx⟩ := drop_at (s := s) (i := i) (by omega)
  obtain ⟨y, e2, hy⟩ := drop_at h
  obtain rfl : x = 39 := UInt8.toNat_inj.1 (by rw [hx, hb]; rfl)
  obtain rfl : y = 39 := UInt8.toNat_inj.1 (by rw [hy, hb2]; rfl)
  unfold litAt
  rw [e, e2, litL_pair]
  cases litL ((bts s).drop (i + 1 + 1)) with
  | none => rfl
  | some p => simp only [Option.map_some]; omega
theorem litAt_stop {s : ByteArray} {i : Nat} (h : i < s.size) (hb : btN s i = 39) (hb2 : i + 1 = s.size ∨ ¬ btN s (i + 1) = 39) : litAt s i = i + 1 := by
  obtain ⟨x, e, hx⟩ := drop_at h
  obtain rfl : x = 39 := UInt8.toNat_inj.1 (by rw [hx, hb]; rfl)
  unfold litAt
  rw [e, litL_stop]
  intro y hy
  rintro rfl
  rw [List.getElem?_drop, Nat.add_zero] at hy
  have hlt := (List.getElem?_eq_some_iff.1 hy).1
  rw [bts_length] at hlt
  rcases hb2 with hb2 | hb2
  · omega
  · rw [btN_of hy] at hb2
    exact hb2 rfl
/-- What a literal's place and text are. -/
theorem litO_none {s : ByteArray} (h : litAt s 1 = 0) : litO s = (3, [], 0) := by
  unfold litAt at h
  unfold litO
  cases hl : litL ((bts s).drop 1) with
  | none => rfl
  | some p => rw [hl] at h; simp only at h; omega
theorem litO_some {s : ByteArray} {E : Nat} (h : litAt s 1 = E) (h0 : ¬ E = 0) : 2 ≤ E ∧ E ≤ s.size ∧ litO s = (if 64 < (unp (bts (s.extract 1 (E - 1)))).length then (2, [], 0) else (0, unp (bts (s.extract 1 (E - 1))), E)) := by
  unfold litAt at h
  unfold litO
  cases hl : litL ((bts s).drop 1) with
  | none => rw [hl] at h; exact absurd h.symm h0
  | some p =>
    rw [hl] at h
    simp only at h ⊢
    obtain ⟨a, b, c, _⟩ := litL_facts _ _ (Nat.le_refl _) p.1 p.2 hl
    rw [List.length_drop, bts_length] at b
    have e : unp (bts (s.extract 1 (E - 1))) = p.1 := by
      rw [bts_extract, show E - 1 - 1 = p.2 - 1 by omega]
      exact c
    rw [e]
    refine ⟨by omega, by omega, ?_⟩
    split
    · rfl
    · rw [show p.2 + 1 = E by omega]

end Wh
namespace Go.Proofs.YtmdpjahhhfajaaaGreatDoor
open Go.RowKit Wh

set_option maxHeartbeats 1000000 in
theorem literalSize_any (s : ByteArray) (hs : s.size ≤ 1000000) (hp : 0 < s.size) (w : World) : Calls Tryz.prog 147 #[.string s] w fun e w' => e = .returned (.int .i64 (litAt s 1)) ∧ w = w' := by
  obtain ⟨E, hE⟩ : ∃ E, litAt s 1 = E := ⟨_, rfl⟩
  rw [hE]
  have HE0 := Lib.hid hE
  clear hE
  go_enter Tryz.func147, Tryz.ntmps147
  go_wp2_with fail
  go_loop [3] (fun iv => ∃ k : Nat, 1 ≤ k ∧ k ≤ s.size ∧ iv = .int .i64 k ∧ Hid (litAt s k = E)) (fun i => s.size - (intOf i).toNat)
  case atStart => exact ⟨1, Nat.le_refl _, hp, rfl, HE0⟩
  case round =>
    obtain ⟨k, hk1, hk, rfl, HE⟩ := hrel
    clear HE0
    by_cases hlt : k < s.size
    · have ix := fun W => index_str s k hlt W
      by_cases hb : btN s k = 39
      · by_cases hl : k + 1 < s.size
        · have ix1 : ∀ W, (Instr.index 9 (.string s) (.int .i64 ((k : Int) + 1))).run Tryz.prog W = .ok (.int .u8 (btN s (k + 1))) W := fun W => by
            have := index_str s (k + 1) hl W
            rw [show ((k + 1 : Nat) : Int) = (k : Int) + 1 by omega] at this
            exact this
          have e1 : ((k : Int) + 1 == (s.size : Int)) = false := by simp; omega
          by_cases hb2 : btN s (k + 1) = 39
          · have HE2 := Lib.hid ((litAt_pair hl hb hb2).symm.trans HE.out)
            rw [hb] at ix
            rw [hb2] at ix1
            clear HE hb hb2
            go_wp2_with fail
            go_round
            case rel => exact ⟨k + 2, by omega, by omega, by go_num, HE2⟩
            case measure => simp [intOf]; omega
          · have HE2 := (litAt_stop hlt hb (.inr hb2)).symm.trans HE.out
            subst HE2
            rw [hb] at ix
            have e2 : ((btN s (k + 1) : Int) != 39) = true := by simp; omega
            generalize btN s (k + 1) = c1 at *
            clear HE hb hb2
            go_wp2_with fail
            go_ret
            exact ⟨ret_int (by omega), rfl⟩
        · have e1 : ((k : Int) + 1 == (s.size : Int)) = true := by simp; omega
          have HE2 := (litAt_stop hlt hb (.inl (by omega))).symm.trans HE.out
          subst HE2
          rw [hb] at ix
          clear HE hb
          go_wp2_with fail
          go_ret
          exact ⟨ret_int (by omega), rfl⟩
      · have HE2 := Lib.hid ((litAt_byte hlt hb).symm.trans HE.out)
        have e2 : ((btN s k : Int) != 39) = true := by simp; omega
        generalize btN s k = c at *
        clear HE hb
        go_wp2_with fail
        go_round
        case rel => exact ⟨k + 1, by omega, by omega, by go_num, HE2⟩
        case measure => simp [intOf]; omega
    · have HE2 := (litAt_end (s := s) (i := k) (by omega)).symm.trans HE.out
      subst HE2
      clear HE
      go_wp2_with fail
      go_ret
      exact ⟨rfl, rfl⟩

set_option maxHeartbeats 2000000 in
theorem readText_any (s : ByteArray) (hs : s.size ≤ 1000000) (hp : 0 < s.size) (h0 : btN s 0 = 39) (w : World) (hg : Glo w) : Calls Tryz.prog 118 #[.string s] w (IsNx (nx s) w) := by
  rw [nx_lit h0]
  have LS := Lib.hid (literalSize_any s hs hp)
  obtain ⟨E, hE⟩ : ∃ E, litAt s 1 = E := ⟨_, rfl⟩
  rw [hE] at LS
  have hbel0 : Below w.heap.size w (w.alloc (.cells #[.int .i64 0, .string ⟨#[]⟩, .int .i64 0, .int .i64 0] 71)) := (Below.refl _ _).alloc (Nat.le_refl _) _
  by_cases hz : E = 0
  · subst hz
    rw [litO_none hE]
    clear hE
    go_enter Tryz.func118, Tryz.ntmps118
    go_wp2_with fail
    refine (LS.out _).mono ?_
    rintro e w1 ⟨rfl, rfl⟩
    go_wp2_with fail
    exact bodyPost_ret (v := .tuple #[tokV (noT, 0), .int .i64 0, .int .i64 3]) (by simp [results, Tryz.results118, go_sem, tokV, noT]) rfl
      (IsNx.of noT 0 3 rfl rfl (fun h => by cases h) hbel0)
  · obtain ⟨h2, h3, hO⟩ := litO_some hE hz
    have sl : ∀ W, (Instr.slice 9 (.string s) (some (.int .i64 1)) (some (.int .i64 ((E : Int) - 1))) none).run Tryz.prog W = .ok (.string (s.extract 1 (E - 1))) W := fun W => by
      have := slice_str s 1 (E - 1) (by omega) (by omega) W
      rw [show ((E - 1 : Nat) : Int) = (E : Int) - 1 by omega] at this
      exact this
    have hx : (s.extract 1 (E - 1)).size ≤ 1000000 := by rw [size_extract (by omega) (by omega)]; omega
    have U := Lib.hid (fun W (hW : Below w.heap.size w W) => unp_any (s.extract 1 (E - 1)) hx W (hg.next hW))
    rw [hO]
    clear hO hE hx
    generalize s.extract 1 (E - 1) = t0 at *
    generalize unp (bts t0) = c at *
    have hsz : Hid ((⟨c.toArray⟩ : ByteArray).size = c.length) := by show c.toArray.size = c.length; simp
    have UU : Hid (∀ W, Below w.heap.size w W → Calls Tryz.prog 148 #[.string t0, .string ⟨#[39, 39]⟩, .string ⟨#[39]⟩] W fun e w' => e = .returned (.string ⟨c.toArray⟩) ∧ Below W.heap.size W w') := U.out
    clear U
    generalize hT : (⟨c.toArray⟩ : ByteArray) = tx at *
    have HT := Lib.hid hT
    clear hT
    have hE0 : ((E : Int) == 0) = false := by simp; omega
    by_cases h64 : 64 < c.length
    · rw [if_pos h64]
      have h64' : (64 : Int) < (tx.size : Int) := by have := hsz.out; omega
      go_enter Tryz.func118, Tryz.ntmps118
      go_wp2_with fail
      refine (LS.out _).mono ?_
      rintro e w1 ⟨rfl, rfl⟩
      go_wp2_with fail
      refine (UU.out _ hbel0).mono ?_
      rintro e w1 ⟨rfl, hb⟩
      obtain ⟨hc, hf⟩ := bcell hb
      have hsz1 : w.heap.size < w1.heap.size := by have := hb.size; simp at this; omega
      go_wp2_with fail
      exact bodyPost_ret (v := .tuple #[tokV (noT, 0), .int .i64 0, .int .i64 2]) (by simp [results, Tryz.results118, go_sem, hc, tokV, noT]) rfl
        (IsNx.of noT 0 2 rfl rfl (fun h => by cases h) (((((hbel0.trans (hb.mono (by simp))).setCell (Nat.le_refl _) _).setCell (Nat.le_refl _) _).setCell (Nat.le_refl _) _).setCell (Nat.le_refl _) _))
    · rw [if_neg h64]
      have h64' : ¬ (64 : Int) < (tx.size : Int) := by have := hsz.out; omega
      go_enter Tryz.func118, Tryz.ntmps118
      go_wp2_with fail
      refine (LS.out _).mono ?_
      rintro e w1 ⟨rfl, rfl⟩
      go_wp2_with fail
      refine (UU.out _ hbel0).mono ?_
      rintro e w1 ⟨rfl, hb⟩
      obtain ⟨hc, hf⟩ := bcell hb
      have hsz1 : w.heap.size < w1.heap.size := by have := hb.size; simp at this; omega
      go_wp2_with fail
      exact bodyPost_ret (v := .tuple #[tokV (⟨3, tx, 0⟩, 0), .int .i64 (E : Int), .int .i64 0]) (by simp [results, Tryz.results118, go_sem, hc, tokV]) rfl
        (IsNx.of ⟨3, tx, 0⟩ E 0 rfl rfl (fun _ => ⟨by rw [HT.out], rfl⟩) (((((hbel0.trans (hb.mono (by simp))).setCell (Nat.le_refl _) _).setCell (Nat.le_refl _) _).setCell (Nat.le_refl _) _).setCell (Nat.le_refl _) _))

end Go.Proofs.YtmdpjahhhfajaaaGreatDoor
