/-
  text, of the reference. · symbol, of the reference. · next, of the reference.
-/
import Derived.Test.YtmdpjahhhfajaaaGreatDoorJA37
import Derived.Test.YtmdpjahhhfajaaaGreatDoorJA24
import Derived.Test.YtmdpjahhhfajaaaGreatDoorJA10
import Derived.Test.YtmdpjahhhfajaaaGreatDoorJA09
set_option linter.unusedVariables false
set_option maxRecDepth 100000
namespace Wh
open Go Go.Proofs.YtmdpjahhhfajaaaGreatDoor

/-- What the literal is whose text goes on at place i, behind the text a. -/
def resAt (s : ByteArray) (a : List UInt8) (i : Nat) : Int × List UInt8 × Nat :=
  match litL ((bts s).drop i) with
  | none => (3, [], 0)
  | some p => if 64 < (a ++ p.1).length then (2, [], 0) else (0, a ++ p.1, i + p.2)
theorem resAt_start (s : ByteArray) : resAt s [] 1 = litO s := by
  unfold resAt litO
  cases litL ((bts s).drop 1) with
  | none => rfl
  | some p =>
    simp only [List.nil_append]
    rw [Nat.add_comm]
theorem resAt_end {s : ByteArray} {a : List UInt8} {i : Nat} (h : s.size ≤ i) : resAt s a i = (3, [], 0) := by
  unfold resAt
  rw [List.drop_of_length_le (by rw [bts_length]; exact h)]
  rfl
theorem resAt_byte {s : ByteArray} {a : List UInt8} {i : Nat} {x : UInt8} (hx : (bts s)[i]? = some x) (hb : ¬ x = 39) : resAt s a i = resAt s (a ++ [x]) (i + 1) := by
  have hk := List.getElem?_eq_some_iff.1 hx
  unfold resAt
  rw [List.drop_eq_getElem_cons hk.1, hk.2, litL_byte hb]
  cases litL ((bts s).drop (i + 1)) with
  | none => rfl
  | some p =>
    simp only [Option.map_some, List.append_assoc, List.singleton_append]
    rw [show i + (p.2 + 1) = i + 1 + p.2 by omega]
theorem resAt_pair {s : ByteArray} {a : List UInt8} {i : Nat} (h : i + 1 < s.size) (hb : btN s i = 39) (hb2 : btN s (i + 1) = 39) : resAt s a i = resAt s (a ++ [39]) (i + 2) := by
  obtain ⟨x, e, hx⟩ := drop_at (s := s) (i := i) (by omega)
  obtain ⟨y, e2, hy⟩ := drop_at h
  obtain rfl : x = 39 := UInt8.toNat_inj.1 (by rw [hx, hb]; rfl)
  obtain rfl : y = 39 := UInt8.toNat_inj.1 (by rw [hy, hb2]; rfl)
  unfold resAt
  rw [e, e2, litL_pair]
  cases litL ((bts s).drop (i + 1 + 1)) with
  | none => rfl
  | some p =>
    simp only [Option.map_some, List.append_assoc, List.singleton_append]
    rw [show i + (p.2 + 2) = i + 2 + p.2 by omega]
theorem resAt_stop {s : ByteArray} {a : List UInt8} {i : Nat} (h : i < s.size) (hb : btN s i = 39) (hb2 : i + 1 = s.size ∨ ¬ btN s (i + 1) = 39) : resAt s a i = if 64 < a.length then (2, [], 0) else (0, a, i + 1) := by
  obtain ⟨x, e, hx⟩ := drop_at h
  obtain rfl : x = 39 := UInt8.toNat_inj.1 (by rw [hx, hb]; rfl)
  unfold resAt
  rw [e, litL_stop]
  · simp only [List.append_nil]
  · intro y hy
    rintro rfl
    rw [List.getElem?_drop, Nat.add_zero] at hy
    have hlt := (List.getElem?_eq_some_iff.1 hy).1
    rw [bts_length] at hlt
    rcases hb2 with hb2 | hb2
    · omega
    · rw [btN_of hy] at hb2
      exact hb2 rfl

end Wh
namespace Go.Proofs.YtmdpjahhhfajaaaGreatDoor
open Go.RowKit Wh

/-- The call returns the literal's text, its length, its error. -/
def IsLit (o : Int × List UInt8 × Nat) (w : World) (e : Ending) (w' : World) : Prop := e = .returned (.tuple #[.string ⟨o.2.1.toArray⟩, .int .i64 o.2.2, .int .i64 o.1]) ∧ Below w.heap.size w w'

set_option maxHeartbeats 4000000 in
theorem rtext_any (s : ByteArray) (hs : s.size ≤ 1000000) (hp : 0 < s.size) (w : World) : Calls Tryz.prog 64 #[.string s] w (IsLit (litO s) w) := by
  obtain ⟨E, hE⟩ : ∃ E, litO s = E := ⟨_, rfl⟩
  rw [hE]
  have HE0 : Hid (resAt s [] 1 = E) := by show _ = _; rw [resAt_start, hE]
  obtain ⟨i0, hi, hz0, hz1, hz2⟩ := info_parts info_u8
  clear hE
  go_enter Tryz.func64, Tryz.ntmps64
  go_wp2_with fail
  go_loopw [5, 6] (fun bv iv wr => ∃ (k : Nat) (l : List UInt8), 1 ≤ k ∧ k ≤ s.size ∧ iv = .int .i64 k ∧ wr.ownsRow w.heap.size 5 1 bv l.length (byC l) ∧ Hid (l = [] → bv = .slice none 0 0) ∧ l.length ≤ k ∧ Hid (resAt s l k = E) ∧ Below w.heap.size w wr) (fun _ iv _ => s.size - (intOf iv).toNat)
  case atStart => exact ⟨1, [], Nat.le_refl _, hp, rfl, World.ownsRow_nil _ _ _ _, fun _ => rfl, Nat.zero_le _, HE0, Below.refl _ _⟩
  case round =>
    obtain ⟨k, l, hk1, hk, rfl, hown, HNIL, hln, HE, hbel⟩ := hrel
    clear HE0
    have hs9 := hbel.size
    by_cases hlt : k < s.size
    · have ix := fun W => index_str s k hlt W
      obtain ⟨x, hx⟩ := bts_at hlt
      have hbx := btN_of hx
      by_cases h39 : x = 39
      · subst h39
        have hb : btN s k = 39 := hbx
        rw [hb] at ix
        have ix0 : ∀ W, (Instr.index 9 (.string s) (.int .i64 k)).run Tryz.prog W = .ok (.int .u8 39) W := fun W => ix W
        by_cases hl : k + 1 < s.size
        · have ix1 : ∀ W, (Instr.index 9 (.string s) (.int .i64 ((k : Int) + 1))).run Tryz.prog W = .ok (.int .u8 (btN s (k + 1))) W := fun W => by
            have := index_str s (k + 1) hl W
            rw [show ((k + 1 : Nat) : Int) = (k : Int) + 1 by omega] at this
            exact this
          have hli : ((k : Int) + 1) < (s.size : Int) := by omega
          by_cases hb2 : btN s (k + 1) = 39
          · have HE2 : Hid (resAt s (l ++ [39]) (k + 2) = E) := by show _ = _; rw [← HE.out, resAt_pair hl hb hb2]
            rw [hb2] at ix1
            have ix1b : ∀ W, (Instr.index 9 (.string s) (.int .i64 ((k : Int) + 1))).run Tryz.prog W = .ok (.int .u8 39) W := fun W => ix1 W
            clear HE hb hb2 hx hbx ix ix1 HNIL
            go_wp2_with (at_builtin; refine wpList_append_lies _ rfl _ _ 127 rfl w.heap.size 5 i0 _ 1 1 Tryz.underlying127 hi hz0 hz1 hz2 rfl (by decide) _ _ _ rfl (hown.alloc _) ⟨wr.heap.size, 0, none⟩ 1 1 [.int .u8 39] rfl rfl (by have h := heap_alloc_new wr (.cells #[.int .u8 39] 5); exact World.news_of_block (cs := #[.int .u8 39]) (t := 5) (fr := (0, 0)) h) (by simp [Value.oneCell']) (by omega) (by unfold maxLen; omega) (by omega) (by simp; omega) (wr.heap.size + 1) (by simp) ?_)
            intro gg cc w9 hown9 hgrow9 hat9 hlt9
            have hB9 := (hbel.alloc (by omega) _).grown hgrow9 (by simp; omega) (fun j hj => (hown.lt j hj).1)
            rw [byC_push l 39 39 rfl] at hown9
            clear hgrow9 hat9 hlt9 hown
            go_wp2_with fail
            go_roundw
            case rel => exact ⟨k + 2, l ++ [39], by omega, by omega, by go_num, by rw [List.length_append]; exact hown9, fun h => absurd h (by simp), by simp; omega, HE2, hB9⟩
            case measure => simp [intOf]; omega
          · have HE2 := (resAt_stop (a := l) hlt hb (.inr hb2)).symm.trans HE.out
            have e2 : ((btN s (k + 1) : Int) == 39) = false := by simp; omega
            generalize btN s (k + 1) = c1 at *
            clear HE hb hb2 hx hbx ix
            by_cases h64 : 64 < l.length
            · rw [if_pos h64] at HE2
              subst HE2
              have h64i : (64 : Int) < (l.length : Int) := by omega
              obtain ⟨bv, hbv⟩ : ∃ bv, bv = u5 := ⟨_, rfl⟩
              have hsl : ∃ a c, u5 = .slice a l.length c := by
                rcases hown.2 with ⟨h1, h2⟩ | ⟨g, cap, cur, h1, _⟩
                · exact ⟨none, 0, by rw [h1, h2]⟩
                · exact ⟨_, _, h1⟩
              obtain ⟨a9, c9, rfl⟩ := hsl
              clear hbv hown HNIL
              generalize l.length = n9 at *
              go_wp2_with fail
              go_ret3
              exact ⟨rfl, hbel⟩
            · rw [if_neg h64] at HE2
              subst HE2
              have h64i : ¬ (64 : Int) < (l.length : Int) := by omega
              by_cases hl0 : l = []
              · obtain rfl := HNIL.out hl0
                subst hl0
                have hcv := conv_nil wr
                have HB := Lib.hid hbel
                clear hown HNIL hbel h64 h64i hln
                go_wp2_with fail
                go_ret3
                exact ⟨rfl, HB.out⟩
              · rcases hown.2 with ⟨h1, h2⟩ | ⟨g, cap, cur, h1, _⟩
                · exact absurd (List.eq_nil_of_length_eq_zero h2) hl0
                · subst h1
                  have hcv := conv_own hown rfl
                  have HB := Lib.hid hbel
                  clear HNIL hl0 h64 hbel hown
                  generalize htx : (⟨l.toArray⟩ : ByteArray) = tx at *
                  have HTX := Lib.hid htx
                  clear htx
                  generalize l.length = n9 at *
                  go_wp2_with fail
                  go_ret3
                  exact ⟨by rw [← HTX.out]; rfl, HB.out⟩
        · have hli : ¬ ((k : Int) + 1) < (s.size : Int) := by omega
          have HE2 := (resAt_stop (a := l) hlt hb (.inl (by omega))).symm.trans HE.out
          clear HE hb hx hbx ix
          by_cases h64 : 64 < l.length
          · rw [if_pos h64] at HE2
            subst HE2
            have h64i : (64 : Int) < (l.length : Int) := by omega
            obtain ⟨bv, hbv⟩ : ∃ bv, bv = u5 := ⟨_, rfl⟩
            have hsl : ∃ a c, u5 = .slice a l.length c := by
              rcases hown.2 with ⟨h1, h2⟩ | ⟨g, cap, cur, h1, _⟩
              · exact ⟨none, 0, by rw [h1, h2]⟩
              · exact ⟨_, _, h1⟩
            obtain ⟨a9, c9, rfl⟩ := hsl
            clear hbv hown HNIL
            generalize l.length = n9 at *
            go_wp2_with fail
            go_ret3
            exact ⟨rfl, hbel⟩
          · rw [if_neg h64] at HE2
            subst HE2
            have h64i : ¬ (64 : Int) < (l.length : Int) := by omega
            by_cases hl0 : l = []
            · obtain rfl := HNIL.out hl0
              subst hl0
              have hcv := conv_nil wr
              have HB := Lib.hid hbel
              clear hown HNIL hbel h64 h64i hln
              go_wp2_with fail
              go_ret3
              exact ⟨rfl, HB.out⟩
            · rcases hown.2 with ⟨h1, h2⟩ | ⟨g, cap, cur, h1, _⟩
              · exact absurd (List.eq_nil_of_length_eq_zero h2) hl0
              · subst h1
                have hcv := conv_own hown rfl
                have HB := Lib.hid hbel
                clear HNIL hl0 h64 hbel hown
                generalize htx : (⟨l.toArray⟩ : ByteArray) = tx at *
                have HTX := Lib.hid htx
                clear htx
                generalize l.length = n9 at *
                go_wp2_with fail
                go_ret3
                exact ⟨by rw [← HTX.out]; rfl, HB.out⟩
      · have HE2 : Hid (resAt s (l ++ [x]) (k + 1) = E) := by show _ = _; rw [← HE.out, resAt_byte hx h39]
        rw [hbx] at ix
        have hne : ((x.toNat : Int) != 39) = true := by
          have : ¬ x.toNat = 39 := fun h => h39 (UInt8.toNat_inj.1 h)
          simp
          omega
        have HP := Lib.hid (byC_push l x x.toNat rfl)
        clear HE hx hbx h39 HNIL
        generalize (x.toNat : Int) = c at *
        go_wp2_with (at_builtin; refine wpList_append_lies _ rfl _ _ 127 rfl w.heap.size 5 i0 _ 1 1 Tryz.underlying127 hi hz0 hz1 hz2 rfl (by decide) _ _ _ rfl (hown.alloc _) ⟨wr.heap.size, 0, none⟩ 1 1 [.int .u8 c] rfl rfl (by have h := heap_alloc_new wr (.cells #[.int .u8 c] 5); exact World.news_of_block (cs := #[.int .u8 c]) (t := 5) (fr := (0, 0)) h) (by simp [Value.oneCell']) (by omega) (by unfold maxLen; omega) (by omega) (by simp; omega) (wr.heap.size + 1) (by simp) ?_)
        intro gg cc w9 hown9 hgrow9 hat9 hlt9
        have hB9 := (hbel.alloc (by omega) _).grown hgrow9 (by simp; omega) (fun j hj => (hown.lt j hj).1)
        rw [HP.out] at hown9
        clear hgrow9 hat9 hlt9 hown
        go_wp2_with fail
        go_roundw
        case rel => exact ⟨k + 1, l ++ [x], by omega, by omega, by go_num, by rw [List.length_append]; exact hown9, fun h => absurd h (by simp), by simp; omega, HE2, hB9⟩
        case measure => simp [intOf]; omega
    · have HE2 := (resAt_end (s := s) (a := l) (i := k) (by omega)).symm.trans HE.out
      subst HE2
      clear HE
      go_wp2_with fail
      go_ret3
      exact ⟨rfl, hbel⟩

end Go.Proofs.YtmdpjahhhfajaaaGreatDoor

set_option linter.unusedVariables false
set_option maxRecDepth 100000
namespace Go.Proofs.YtmdpjahhhfajaaaGreatDoor
open Go.RowKit Wh

/-- The four symbols of two bytes lie in block b. -/
def TwoAt7 (w : World) (b : Nat) : Prop := b < w.heap.size ∧ ∀ i, i < 4 → w.cell? ⟨b, i, none⟩ = some (.string (twoL i))
theorem TwoAt7.next {w w' : World} {b : Nat} (h : TwoAt7 w b) (hb : Below w.heap.size w w') : TwoAt7 w' b :=
  ⟨Nat.lt_of_lt_of_le h.1 hb.size, fun i hi => by rw [hb.cell (p := ⟨b, i, none⟩) h.1]; exact h.2 i hi⟩

set_option maxHeartbeats 2000000 in
theorem rsymbol_any (s : ByteArray) (hs : s.size ≤ 9223372036854775800) (w : World) : Calls Tryz.prog 66 #[.string s] w fun e w' => e = .returned (.string (symS s)) ∧ Below w.heap.size w w' := by
  have S2 := Lib.hid (fun k (hk : k < 4) h ht => symS_two (s := s) hk h ht)
  have S1 := Lib.hid (fun h => symS_one (s := s) h)
  obtain ⟨y, hy⟩ : ∃ y, symS s = y := ⟨_, rfl⟩
  rw [hy] at S2 S1 ⊢
  clear hy
  go_enter Tryz.func66, Tryz.ntmps66
  go_wp2_with fail
  have hT0 : TwoAt7 (w.alloc (.cells #[.string ⟨#[43, 43]⟩, .string ⟨#[60, 61]⟩, .string ⟨#[62, 61]⟩, .string ⟨#[33, 61]⟩] 9)) w.heap.size := by
    refine ⟨by simp, fun i hi => ?_⟩
    have e := heap_alloc_new w (.cells #[.string ⟨#[43, 43]⟩, .string ⟨#[60, 61]⟩, .string ⟨#[62, 61]⟩, .string ⟨#[33, 61]⟩] 9)
    rcases (show i = 0 ∨ i = 1 ∨ i = 2 ∨ i = 3 by omega) with rfl | rfl | rfl | rfl
    · exact cell_of_row _ _ 0 _ _ _ e
    · exact cell_of_row _ _ 1 _ _ _ e
    · exact cell_of_row _ _ 2 _ _ _ e
    · exact cell_of_row _ _ 3 _ _ _ e
  have HT0 := Lib.hid hT0
  clear hT0
  go_loopw [4] (fun iv wr => ∃ k : Nat, k ≤ 4 ∧ iv = .int .i64 k ∧ Hid (∀ j, j < k → isTwo s j = false) ∧ Hid (TwoAt7 wr w.heap.size) ∧ Below w.heap.size w wr) (fun iv _ => 4 - (intOf iv).toNat)
  case atStart => exact ⟨0, Nat.zero_le _, rfl, fun j hj => absurd hj (by omega), HT0, (Below.refl _ _).alloc (Nat.le_refl _) _⟩
  case round =>
    obtain ⟨k, hk, rfl, HI, HT, hbel⟩ := hrel
    clear HT0
    by_cases hlt : k < 4
    · have hbl := HT.out.1
      have hc := HT.out.2 k hlt
      by_cases h2 : 2 ≤ s.size
      · have sl : ∀ W, (Instr.slice 9 (.string s) none (some (.int .i64 2)) none).run Tryz.prog W = .ok (.string (s.extract 0 2)) W := fun W => slice_str_to s 2 h2 W
        have hq : isTwo s k = ((s.extract 0 2).toList == (twoL k).toList) := by unfold isTwo; rw [decide_eq_true h2, Bool.true_and]
        have h2i : (2 : Int) ≤ (s.size : Int) := by omega
        cases hb : isTwo s k with
        | true =>
          rw [hb] at hq
          obtain rfl := S2.out k hlt HI.out hb
          have hq2 := hq.symm
          clear S2 S1 HI hb hq
          generalize hU : twoL k = u0 at *
          have HU := Lib.hid hU
          clear hU
          generalize s.extract 0 2 = t0 at *
          go_wp2_with fail
          go_quiet (fail)
          go_wp2_with fail
          go_ret
          exact ⟨by rw [HU.out]; rfl, Below.drewN' hbel _⟩
        | false =>
          rw [hb] at hq
          have HI2 : Hid (∀ j, j < k + 1 → isTwo s j = false) := fun j hj => by
            by_cases e : j = k
            · rw [e]; exact hb
            · exact HI.out j (by omega)
          have hq2 := hq.symm
          clear HI hb hq
          generalize twoL k = u0 at *
          generalize s.extract 0 2 = t0 at *
          go_wp2_with fail
          go_quiet (fail)
          go_wp2_with fail
          go_roundw
          case rel => exact ⟨k + 1, by omega, by go_num, HI2, HT.out.next (Below.drewN' (Below.refl _ _) _), Below.drewN' hbel _⟩
          case measure => simp [intOf]; omega
      · have h2i : ¬ (2 : Int) ≤ (s.size : Int) := by omega
        have h2d : decide ((2 : Int) ≤ (s.size : Int)) = false := decide_eq_false h2i
        have HI2 : Hid (∀ j, j < k + 1 → isTwo s j = false) := fun j hj => by
          unfold isTwo
          rw [decide_eq_false h2]
          rfl
        clear HI
        generalize twoL k = u0 at *
        go_wp2_with fail
        go_quiet (fail)
        go_wp2_with fail
        go_roundw
        case rel => exact ⟨k + 1, by omega, by go_num, HI2, HT.out.next (Below.drewN' (Below.refl _ _) _), Below.drewN' hbel _⟩
        case measure => simp [intOf]; omega
    · have HY := Lib.hid (S1.out fun j hj => HI.out j (by omega))
      have YES : Hid (∀ i, i < 14 → isOne s i = true → y = s.extract 0 1) := fun i hi h => by
        rw [HY.out, if_pos]
        rw [List.any_eq_true]
        exact ⟨i, List.mem_range.2 hi, h⟩
      have NONE : Hid ((∀ i, i < 14 → isOne s i = false) → y = ⟨#[]⟩) := fun h => by
        rw [HY.out, if_neg]
        intro ha
        rw [List.any_eq_true] at ha
        obtain ⟨i, hi, hj⟩ := ha
        rw [h i (List.mem_range.1 hi)] at hj
        cases hj
      clear S2 S1 HI HY HT
      go_wp2_with fail
      go_loopw [6] (fun iv wr2 => ∃ k : Nat, k ≤ 14 ∧ iv = .int .i64 k ∧ Hid (∀ j, j < k → isOne s j = false) ∧ Below w.heap.size w wr2) (fun iv _ => 14 - (intOf iv).toNat)
      case atStart => exact ⟨0, Nat.zero_le _, rfl, fun j hj => absurd hj (by omega), hbel⟩
      case round =>
        obtain ⟨m, hm, rfl, HI, hbel2⟩ := hrel
        by_cases hlm : m < 14
        · have ixo : ∀ W, (Instr.index 9 (.string ⟨#[40, 41, 44, 59, 58, 124, 61, 43, 45, 42, 47, 37, 60, 62]⟩) (.int .i64 m)).run Tryz.prog W = .ok (.int .u8 (btN oneL m)) W := fun W => index_str oneL m hlm W
          by_cases h1 : 1 ≤ s.size
          · have ix : ∀ W, (Instr.index 9 (.string s) (.int .i64 0)).run Tryz.prog W = .ok (.int .u8 (btN s 0)) W := fun W => index_str s 0 h1 W
            have h1i : (1 : Int) ≤ (s.size : Int) := by omega
            have sl : ∀ W, (Instr.slice 9 (.string s) none (some (.int .i64 1)) none).run Tryz.prog W = .ok (.string (s.extract 0 1)) W := fun W => slice_str_to s 1 h1 W
            have hq : isOne s m = decide (btN s 0 = btN oneL m) := by unfold isOne; rw [decide_eq_true h1, Bool.true_and]
            cases hb : isOne s m with
            | true =>
              rw [hb] at hq
              have hq2 : btN s 0 = btN oneL m := of_decide_eq_true hq.symm
              rw [hq2] at ix
              obtain rfl := YES.out m hlm hb
              clear YES NONE HI hb hq hq2
              generalize btN oneL m = c at *
              go_wp2_with fail
              go_quiet (fail)
              go_wp2_with fail
              go_ret
              exact ⟨rfl, Below.drewN' hbel2 _⟩
            | false =>
              rw [hb] at hq
              have HI2 : Hid (∀ j, j < m + 1 → isOne s j = false) := fun j hj => by
                by_cases e : j = m
                · rw [e]; exact hb
                · exact HI.out j (by omega)
              have hq2 : ((btN s 0 : Int) == (btN oneL m : Int)) = false := by
                have := of_decide_eq_false hq.symm
                simp
                omega
              clear YES NONE HI hb hq
              generalize btN oneL m = c at *
              generalize btN s 0 = c0 at *
              go_wp2_with fail
              go_quiet (fail)
              go_wp2_with fail
              go_roundw
              case rel => exact ⟨m + 1, by omega, by go_num, HI2, Below.drewN' hbel2 _⟩
              case measure => simp [intOf]; omega
          · have h1i : ¬ (1 : Int) ≤ (s.size : Int) := by omega
            have h1d : decide ((1 : Int) ≤ (s.size : Int)) = false := decide_eq_false h1i
            have HI2 : Hid (∀ j, j < m + 1 → isOne s j = false) := fun j hj => by
              unfold isOne
              rw [decide_eq_false h1]
              rfl
            clear YES NONE HI
            go_wp2_with fail
            go_quiet (fail)
            go_wp2_with fail
            go_roundw
            case rel => exact ⟨m + 1, by omega, by go_num, HI2, Below.drewN' hbel2 _⟩
            case measure => simp [intOf]; omega
        · obtain rfl := NONE.out fun i hi => HI.out i (by omega)
          clear YES NONE HI
          go_wp2_with fail
          go_ret
          exact ⟨rfl, hbel2⟩

end Go.Proofs.YtmdpjahhhfajaaaGreatDoor

set_option linter.unusedVariables false
set_option maxRecDepth 100000
namespace Wh
open Go Go.Proofs.YtmdpjahhhfajaaaGreatDoor

theorem nameT_nat (s : ByteArray) : ∃ m : Nat, (nameT s).1 = (m : Int) ∧ m ≤ s.size := by
  have h2 := spanN_le wordB s
  unfold nameT
  by_cases h24 : 24 < spanN wordB s
  · rw [if_pos h24]; exact ⟨0, rfl, Nat.zero_le _⟩
  · rw [if_neg h24]
    split
    · rename_i hd
      have h3 := spanN_le wordB (s.extract (spanN wordB s + 1) s.size)
      rw [size_extract (by omega) (Nat.le_refl _)] at h3
      split
      · exact ⟨0, rfl, Nat.zero_le _⟩
      · exact ⟨spanN wordB s + (1 + spanN wordB (s.extract (spanN wordB s + 1) s.size)), by simp, by omega⟩
    · exact ⟨spanN wordB s, rfl, h2⟩
theorem intT_nat (s : ByteArray) : ∃ m : Nat, (intT s).2.1 = (m : Int) := by
  unfold intT
  split
  · exact ⟨0, rfl⟩
  · split
    · exact ⟨0, rfl⟩
    · exact ⟨_, rfl⟩

end Wh
namespace Go.Proofs.YtmdpjahhhfajaaaGreatDoor
open Go.RowKit Wh

set_option maxHeartbeats 4000000 in
theorem next_any (s : ByteArray) (hs : s.size ≤ 1000000) (hp : 0 < s.size) (w : World) : Calls Tryz.prog 34 #[.string s] w (IsNx (nx s) w) := by
  have hbel0 : Below w.heap.size w (w.alloc (.cells #[.int .i64 0, .string ⟨#[]⟩, .int .i64 0, .int .i64 0] 71)) := (Below.refl _ _).alloc (Nat.le_refl _) _
  have ix : ∀ W, (Instr.index 9 (.string s) (.int .i64 0)).run Tryz.prog W = .ok (.int .u8 (btN s 0)) W := fun W => index_str s 0 hp W
  have L := Lib.hid (fun W => letter_any (btN s 0) W)
  have D := Lib.hid (fun W => digit_any (btN s 0) W)
  cases h0 : lowB (btN s 0) with
  | true =>
    rw [h0] at L
    obtain ⟨m, hm, hms⟩ := nameT_nat s
    have N := Lib.hid (fun W => name_any s (by omega) W)
    rw [hm] at N
    have hO : Hid (nx s = ((nameT s).2, ⟨1, s.extract 0 m, 0⟩, m)) := by
      show _ = _
      rw [nx_name h0, hm]
      rfl
    have sl := fun W => slice_str_to s m hms W
    generalize nx s = o at *
    generalize (nameT s).2 = er at *
    generalize s.extract 0 m = tx at *
    generalize btN s 0 = b at *
    clear h0 D hm
    go_enter Tryz.func34, Tryz.ntmps34
    go_wp2_with (first | (go_at_call 60; refine (L.out _).mono ?_; rintro e w1 ⟨rfl, rfl⟩) | (go_at_call 61; refine (N.out _).mono ?_; rintro e w1 ⟨rfl, rfl⟩))
    exact bodyPost_ret (v := .tuple #[tokV (⟨1, tx, 0⟩, 0), .int .i64 (m : Int), .int .i64 er]) (by simp [results, Tryz.results34, go_sem, tokV]) rfl
      (IsNx.of (⟨1, tx, 0⟩) (m) (er) rfl (by rw [hO.out]) (fun _ => by rw [hO.out]; exact ⟨rfl, rfl⟩) ((Below.refl _ _).alloc (Nat.le_refl _) _))
  | false =>
    rw [h0] at L
    cases h1 : numB (btN s 0) with
    | true =>
      rw [h1] at D
      obtain ⟨m, hm⟩ := intT_nat s
      have N := Lib.hid (fun W => integer_any s (by omega) W)
      rw [hm] at N
      have hO : Hid (nx s = ((intT s).2.2, ⟨2, ⟨#[]⟩, (intT s).1⟩, m)) := by
        show _ = _
        rw [nx_int h0 h1, hm]
        rfl
      generalize nx s = o at *
      generalize (intT s).2.2 = er at *
      generalize (intT s).1 = vv at *
      generalize btN s 0 = b at *
      clear h0 h1 hm
      go_enter Tryz.func34, Tryz.ntmps34
      go_wp2_with (first | (go_at_call 60; refine (L.out _).mono ?_; rintro e w1 ⟨rfl, rfl⟩) | (go_at_call 62; refine (D.out _).mono ?_; rintro e w1 ⟨rfl, rfl⟩) | (go_at_call 63; refine (N.out _).mono ?_; rintro e w1 ⟨rfl, rfl⟩))
      exact bodyPost_ret (v := .tuple #[tokV (⟨2, ⟨#[]⟩, vv⟩, 0), .int .i64 (m : Int), .int .i64 er]) (by simp [results, Tryz.results34, go_sem, tokV]) rfl
        (IsNx.of (⟨2, ⟨#[]⟩, vv⟩) (m) (er) rfl (by rw [hO.out]) (fun _ => by rw [hO.out]; exact ⟨rfl, rfl⟩) ((Below.refl _ _).alloc (Nat.le_refl _) _))
    | false =>
      rw [h1] at D
      by_cases h2 : btN s 0 = 39
      · have hO := Lib.hid (nx_lit h2)
        have N := Lib.hid (fun W => rtext_any s hs hp W)
        rw [h2] at ix L D
        generalize nx s = o at *
        unfold IsLit at N
        generalize (litO s).1 = er at *
        generalize (litO s).2.2 = m at *
        generalize (⟨(litO s).2.1.toArray⟩ : ByteArray) = tx at *
        clear h0 h1 h2
        go_enter Tryz.func34, Tryz.ntmps34
        go_wp2_with (first | (go_at_call 60; refine (L.out _).mono ?_; rintro e w1 ⟨rfl, rfl⟩) | (go_at_call 62; refine (D.out _).mono ?_; rintro e w1 ⟨rfl, rfl⟩) | (go_at_call 64; refine (N.out _).mono ?_; rintro e w1 ⟨rfl, hb⟩; obtain ⟨hc, hf⟩ := bcell hb; have hsz1 : w.heap.size < w1.heap.size := (by have := hb.size; simp at this; omega)))
        exact bodyPost_ret (v := .tuple #[tokV (⟨3, tx, 0⟩, 0), .int .i64 (m : Int), .int .i64 er]) (by simp [results, Tryz.results34, go_sem, hc, tokV]) rfl
          (IsNx.of (⟨3, tx, 0⟩) (m) (er) rfl (by rw [hO.out]) (fun _ => by rw [hO.out]; exact ⟨rfl, rfl⟩) (((((hbel0.trans (hb.mono (by simp))).setCell (Nat.le_refl _) _).setCell (Nat.le_refl _) _).setCell (Nat.le_refl _) _).setCell (Nat.le_refl _) _))
      · by_cases h3 : btN s 0 = 64
        · have hO := Lib.hid (nx_time h3)
          rw [h3] at ix L D
          by_cases h17 : s.size < 17
          · have h17i : (s.size : Int) < 17 := by omega
            have hO2 : Hid (nx s = (3, noT, 0)) := by show _ = _; rw [hO.out, if_pos h17]
            clear hO h0 h1 h2 h3
            generalize nx s = o at *
            go_enter Tryz.func34, Tryz.ntmps34
            go_wp2_with (first | (go_at_call 60; refine (L.out _).mono ?_; rintro e w1 ⟨rfl, rfl⟩) | (go_at_call 62; refine (D.out _).mono ?_; rintro e w1 ⟨rfl, rfl⟩))
            exact bodyPost_ret (v := .tuple #[tokV (noT, 0), .int .i64 0, .int .i64 3]) (by simp [results, Tryz.results34, go_sem, tokV, noT]) rfl
              (IsNx.of (noT) (0) (3) rfl (by rw [hO2.out]) (fun h => by rw [hO2.out] at h; cases h) ((Below.refl _ _).alloc (Nat.le_refl _) _))
          · have h17i : ¬ (s.size : Int) < 17 := by omega
            have hO2 : Hid (nx s = (parseE (s.extract 1 17), ⟨4, ⟨#[]⟩, parseZ (s.extract 1 17)⟩, 17)) := by show _ = _; rw [hO.out, if_neg h17]
            have sl : ∀ W, (Instr.slice 9 (.string s) (some (.int .i64 1)) (some (.int .i64 17)) none).run Tryz.prog W = .ok (.string (s.extract 1 17)) W := fun W => slice_str s 1 17 (by omega) (by omega) W
            have N := Lib.hid (fun W => rparse_any (s.extract 1 17) W)
            clear hO h0 h1 h2 h3
            generalize nx s = o at *
            generalize s.extract 1 17 = t0 at *
            generalize parseE t0 = er at *
            generalize parseZ t0 = vv at *
            go_enter Tryz.func34, Tryz.ntmps34
            go_wp2_with (first | (go_at_call 60; refine (L.out _).mono ?_; rintro e w1 ⟨rfl, rfl⟩) | (go_at_call 62; refine (D.out _).mono ?_; rintro e w1 ⟨rfl, rfl⟩) | (go_at_call 65; refine (N.out _).mono ?_; rintro e w1 ⟨rfl, hb⟩; obtain ⟨hc, hf⟩ := bcell hb; have hsz1 : w.heap.size < w1.heap.size := (by have := hb.size; simp at this; omega)))
            exact bodyPost_ret (v := .tuple #[tokV (⟨4, ⟨#[]⟩, vv⟩, 0), .int .i64 17, .int .i64 er]) (by simp [results, Tryz.results34, go_sem, hc, tokV]) rfl
              (IsNx.of (⟨4, ⟨#[]⟩, vv⟩) (17) (er) rfl (by rw [hO2.out]) (fun _ => by rw [hO2.out]; exact ⟨rfl, rfl⟩) (((((hbel0.trans (hb.mono (by simp))).setCell (Nat.le_refl _) _).setCell (Nat.le_refl _) _).setCell (Nat.le_refl _) _).setCell (Nat.le_refl _) _))
        · have hO := Lib.hid (nx_sym h0 h1 h2 h3)
          have N := Lib.hid (fun W => rsymbol_any s (by omega) W)
          have e39 : ((btN s 0 : Int) == 39) = false := by simp; omega
          have e64 : ((btN s 0 : Int) == 64) = false := by simp; omega
          clear h0 h1 h2 h3
          generalize nx s = o at *
          generalize btN s 0 = b at *
          generalize symS s = y at *
          by_cases hy : y.size = 0
          · obtain rfl := empty_of_size hy
            have hO2 : Hid (o = (3, noT, 0)) := by show _ = _; rw [hO.out, if_pos hy]
            clear hO hy
            go_enter Tryz.func34, Tryz.ntmps34
            go_wp2_with (first | (go_at_call 60; refine (L.out _).mono ?_; rintro e w1 ⟨rfl, rfl⟩) | (go_at_call 62; refine (D.out _).mono ?_; rintro e w1 ⟨rfl, rfl⟩) | (go_at_call 66; refine (N.out _).mono ?_; rintro e w1 ⟨rfl, hb⟩; obtain ⟨hc, hf⟩ := bcell hb; have hsz1 : w.heap.size < w1.heap.size := (by have := hb.size; simp at this; omega)))
            exact bodyPost_ret (v := .tuple #[tokV (noT, 0), .int .i64 0, .int .i64 3]) (by simp [results, Tryz.results34, go_sem, hc, tokV, noT]) rfl
              (IsNx.of (noT) (0) (3) rfl (by rw [hO2.out]) (fun h => by rw [hO2.out] at h; cases h) (((((hbel0.trans (hb.mono (by simp))).setCell (Nat.le_refl _) _).setCell (Nat.le_refl _) _).setCell (Nat.le_refl _) _).setCell (Nat.le_refl _) _))
          · obtain ⟨q1, q2⟩ : (y.toList == ([] : List UInt8)) = false ∧ y.toList.isEmpty = false := by
              constructor
              · rw [toList_bts, beq_eq_false_iff_ne]
                intro h1
                exact hy (by rw [← bts_length, h1]; rfl)
              · rw [toList_bts]
                cases h1 : bts y with
                | nil => exact absurd (by rw [← bts_length, h1]; rfl) hy
                | cons => rfl
            have hO2 : Hid (o = (0, ⟨5, y, 0⟩, y.size)) := by show _ = _; rw [hO.out, if_neg hy]
            clear hO hy
            go_enter Tryz.func34, Tryz.ntmps34
            go_wp2_with (first | (go_at_call 60; refine (L.out _).mono ?_; rintro e w1 ⟨rfl, rfl⟩) | (go_at_call 62; refine (D.out _).mono ?_; rintro e w1 ⟨rfl, rfl⟩) | (go_at_call 66; refine (N.out _).mono ?_; rintro e w1 ⟨rfl, hb⟩; obtain ⟨hc, hf⟩ := bcell hb; have hsz1 : w.heap.size < w1.heap.size := (by have := hb.size; simp at this; omega)))
            exact bodyPost_ret (v := .tuple #[tokV (⟨5, y, 0⟩, 0), .int .i64 (y.size : Int), .int .i64 0]) (by simp [results, Tryz.results34, go_sem, hc, tokV]) rfl
              (IsNx.of (⟨5, y, 0⟩) (y.size) (0) rfl (by rw [hO2.out]) (fun _ => by rw [hO2.out]; exact ⟨rfl, rfl⟩) (((((hbel0.trans (hb.mono (by simp))).setCell (Nat.le_refl _) _).setCell (Nat.le_refl _) _).setCell (Nat.le_refl _) _).setCell (Nat.le_refl _) _))

end Go.Proofs.YtmdpjahhhfajaaaGreatDoor
