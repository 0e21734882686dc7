/-
  text, of the reference. · symbol, of the reference. · next, of the reference.
-/
import Derived.Test.YtloccocengegnaaDoorTPRead
import Derived.Test.YtloccocengegnaaDoorGByt
import Derived.Test.YtloccocengegnaaDoorTSymB
import Derived.Test.YtloccocengegnaaDoorTQV
set_option linter.unusedVariables false
set_option maxRecDepth 100000
namespace Wh
open Go Go.Proofs.YtloccocengegnaaDoor

/-- What the literal is whose text goes on at place i, behind the text a. -/
def resAt (s : ByteArray) (a : List UInt8) (i : Nat) : Int × List UInt8 × Nat :=
  match litL ((bts s).drop i) with
  | none => (3, [], 0)
  | some p => if 64 < (a ++ p.1).length then (2, [], 0) else (0, a ++ p.1, i + p.2)
theorem resAt_start (s : ByteArray) : resAt s [] 1 = litO s := by
  unfold resAt litO
  cases litL ((bts s).drop 1) with
  | none => rfl
  | some p =>
    simp only [List.nil_append]
    rw [Nat.add_comm]
theorem resAt_end {s : ByteArray} {a : List UInt8} {i : Nat} (h : s.size ≤ i) : resAt s a i = (3, [], 0) := by
  unfold resAt
  rw [List.drop_of_length_le (by rw [bts_length]; exact h)]
  rfl
theorem resAt_byte {s : ByteArray} {a : List UInt8} {i : Nat} {x : UInt8} (hx : (bts s)[i]? = some x) (hb : ¬ x = 39) : resAt s a i = resAt s (a ++ [x]) (i + 1) := by
  have hk := List.getElem?_eq_some_iff.1 hx
  unfold resAt
  rw [List.drop_eq_getElem_cons hk.1, hk.2, litL_byte hb]
  cases litL ((bts s).drop (i + 1)) with
  | none => rfl
  | some p =>
    simp only [Option.map_some, List.append_assoc, List.singleton_append]
    rw [show i + (p.2 + 1) = i + 1 + p.2 by omega]
theorem resAt_pair {s : ByteArray} {a : List UInt8} {i : Nat} (h : i + 1 < s.size) (hb : btN s i = 39) (hb2 : btN s (i + 1) = 39) : resAt s a i = resAt s (a ++ [39]) (i + 2) := by
  obtain ⟨x, e, hx⟩ := drop_at (s := s) (i := i) (by omega)
  obtain ⟨y, e2, hy⟩ := drop_at h
  obtain rfl : x = 39 := UInt8.toNat_inj.1 (by rw [hx, hb]; rfl)
  obtain rfl : y = 39 := UInt8.toNat_inj.1 (by rw [hy, hb2]; rfl)
  unfold resAt
  rw [e, e2, litL_pair]
  cases litL ((bts s).drop (i + 1 + 1)) with
  | none => rfl
  | some p =>
    simp only [Option.map_some, List.append_assoc, List.singleton_append]
    rw [show i + (p.2 + 2) = i + 2 + p.2 by omega]
theorem resAt_stop {s : ByteArray} {a : List UInt8} {i : Nat} (h : i < s.size) (hb : btN s i = 39) (hb2 : i + 1 = s.size ∨ ¬ btN s (i + 1) = 39) : resAt s a i = if 64 < a.length then (2, [], 0) else (0, a, i + 1) := by
  obtain ⟨x, e, hx⟩ := drop_at h
  obtain rfl : x = 39 := UInt8.toNat_inj.1 (by rw [hx, hb]; rfl)
  unfold resAt
  rw [e, litL_stop]
  · simp only [List.append_nil]
  · intro y hy
    rintro rfl
    rw [List.getElem?_drop, Nat.add_zero] at hy
    have hlt := (List.getElem?_eq_some_iff.1 hy).1
    rw [bts_length] at hlt
    rcases hb2 with hb2 | hb2
    · omega
    · rw [btN_of hy] at hb2
      exact hb2 rfl

end Wh
namespace Go.Proofs.YtloccocengegnaaDoor
open Go.RowKit Wh

/-- The call returns the literal's text, its length, its error. -/
def IsLit (o : Int × List UInt8 × Nat) (w : World) (e : Ending) (w' : World) : Prop := e = .returned (.tuple #[.string ⟨o.2.1.toArray⟩, .int .i64 o.2.2, .int .i64 o.1]) ∧ Below w.heap.size w w'

end Go.Proofs.YtloccocengegnaaDoor

set_option linter.unusedVariables false
set_option maxRecDepth 100000
namespace Go.Proofs.YtloccocengegnaaDoor
open Go.RowKit Wh

/-- The four symbols of two bytes lie in block b. -/
def TwoAt7 (w : World) (b : Nat) : Prop := b < w.heap.size ∧ ∀ i, i < 4 → w.cell? ⟨b, i, none⟩ = some (.string (twoL i))
theorem TwoAt7.next {w w' : World} {b : Nat} (h : TwoAt7 w b) (hb : Below w.heap.size w w') : TwoAt7 w' b :=
  ⟨Nat.lt_of_lt_of_le h.1 hb.size, fun i hi => by rw [hb.cell (p := ⟨b, i, none⟩) h.1]; exact h.2 i hi⟩

set_option maxHeartbeats 2000000 in
theorem rsymbol_any (s : ByteArray) (hs : s.size ≤ 9223372036854775800) (w : World) : Calls Tryd.prog 26 #[.string s] w fun e w' => e = .returned (.string (symS s)) ∧ Below w.heap.size w w' := by
  have S2 := Lib.hid (fun k (hk : k < 4) h ht => symS_two (s := s) hk h ht)
  have S1 := Lib.hid (fun h => symS_one (s := s) h)
  obtain ⟨y, hy⟩ : ∃ y, symS s = y := ⟨_, rfl⟩
  rw [hy] at S2 S1 ⊢
  clear hy
  go_enter Tryd.func26, Tryd.ntmps26
  go_wp2_with fail
  have hT0 : TwoAt7 (w.alloc (.cells #[.string ⟨#[43, 43]⟩, .string ⟨#[60, 61]⟩, .string ⟨#[62, 61]⟩, .string ⟨#[33, 61]⟩] 9)) w.heap.size := by
    refine ⟨by simp, fun i hi => ?_⟩
    have e := heap_alloc_new w (.cells #[.string ⟨#[43, 43]⟩, .string ⟨#[60, 61]⟩, .string ⟨#[62, 61]⟩, .string ⟨#[33, 61]⟩] 9)
    rcases (show i = 0 ∨ i = 1 ∨ i = 2 ∨ i = 3 by omega) with rfl | rfl | rfl | rfl
    · exact cell_of_row _ _ 0 _ _ _ e
    · exact cell_of_row _ _ 1 _ _ _ e
    · exact cell_of_row _ _ 2 _ _ _ e
    · exact cell_of_row _ _ 3 _ _ _ e
  have HT0 := Lib.hid hT0
  clear hT0
  go_loopw [4] (fun iv wr => ∃ k : Nat, k ≤ 4 ∧ iv = .int .i64 k ∧ Hid (∀ j, j < k → isTwo s j = false) ∧ Hid (TwoAt7 wr w.heap.size) ∧ Below w.heap.size w wr) (fun iv _ => 4 - (intOf iv).toNat)
  case atStart => exact ⟨0, Nat.zero_le _, rfl, fun j hj => absurd hj (by omega), HT0, (Below.refl _ _).alloc (Nat.le_refl _) _⟩
  case round =>
    obtain ⟨k, hk, rfl, HI, HT, hbel⟩ := hrel
    clear HT0
    by_cases hlt : k < 4
    · have hbl := HT.out.1
      have hc := HT.out.2 k hlt
      by_cases h2 : 2 ≤ s.size
      · have sl : ∀ W, (Instr.slice 9 (.string s) none (some (.int .i64 2)) none).run Tryd.prog W = .ok (.string (s.extract 0 2)) W := fun W => slice_str_to s 2 h2 W
        have hq : isTwo s k = ((s.extract 0 2).toList == (twoL k).toList) := by unfold isTwo; rw [decide_eq_true h2, Bool.true_and]
        have h2i : (2 : Int) ≤ (s.size : Int) := by omega
        cases hb : isTwo s k with
        | true =>
          rw [hb] at hq
          obtain rfl := S2.out k hlt HI.out hb
          have hq2 := hq.symm
          clear S2 S1 HI hb hq
          generalize hU : twoL k = u0 at *
          have HU := Lib.hid hU
          clear hU
          generalize s.extract 0 2 = t0 at *
          go_wp2_with fail
          go_quiet (fail)
          go_wp2_with fail
          go_ret
          exact ⟨by rw [HU.out]; rfl, Below.drewN' hbel _⟩
        | false =>
          rw [hb] at hq
          have HI2 : Hid (∀ j, j < k + 1 → isTwo s j = false) := fun j hj => by
            by_cases e : j = k
            · rw [e]; exact hb
            · exact HI.out j (by omega)
          have hq2 := hq.symm
          clear HI hb hq
          generalize twoL k = u0 at *
          generalize s.extract 0 2 = t0 at *
          go_wp2_with fail
          go_quiet (fail)
          go_wp2_with fail
          go_roundw
          case rel => exact ⟨k + 1, by omega, by go_num, HI2, HT.out.next (Below.drewN' (Below.refl _ _) _), Below.drewN' hbel _⟩
          case measure => simp [intOf]; omega
      · have h2i : ¬ (2 : Int) ≤ (s.size : Int) := by omega
        have h2d : decide ((2 : Int) ≤ (s.size : Int)) = false := decide_eq_false h2i
        have HI2 : Hid (∀ j, j < k + 1 → isTwo s j = false) := fun j hj => by
          unfold isTwo
          rw [decide_eq_false h2]
          rfl
        clear HI
        generalize twoL k = u0 at *
        go_wp2_with fail
        go_quiet (fail)
        go_wp2_with fail
        go_roundw
        case rel => exact ⟨k + 1, by omega, by go_num, HI2, HT.out.next (Below.drewN' (Below.refl _ _) _), Below.drewN' hbel _⟩
        case measure => simp [intOf]; omega
    · have HY := Lib.hid (S1.out fun j hj => HI.out j (by omega))
      have YES : Hid (∀ i, i < 14 → isOne s i = true → y = s.extract 0 1) := fun i hi h => by
        rw [HY.out, if_pos]
        rw [List.any_eq_true]
        exact ⟨i, List.mem_range.2 hi, h⟩
      have NONE : Hid ((∀ i, i < 14 → isOne s i = false) → y = ⟨#[]⟩) := fun h => by
        rw [HY.out, if_neg]
        intro ha
        rw [List.any_eq_true] at ha
        obtain ⟨i, hi, hj⟩ := ha
        rw [h i (List.mem_range.1 hi)] at hj
        cases hj
      clear S2 S1 HI HY HT
      go_wp2_with fail
      go_loopw [6] (fun iv wr2 => ∃ k : Nat, k ≤ 14 ∧ iv = .int .i64 k ∧ Hid (∀ j, j < k → isOne s j = false) ∧ Below w.heap.size w wr2) (fun iv _ => 14 - (intOf iv).toNat)
      case atStart => exact ⟨0, Nat.zero_le _, rfl, fun j hj => absurd hj (by omega), hbel⟩
      case round =>
        obtain ⟨m, hm, rfl, HI, hbel2⟩ := hrel
        by_cases hlm : m < 14
        · have ixo : ∀ W, (Instr.index 9 (.string ⟨#[40, 41, 44, 59, 58, 124, 61, 43, 45, 42, 47, 37, 60, 62]⟩) (.int .i64 m)).run Tryd.prog W = .ok (.int .u8 (btN oneL m)) W := fun W => index_str oneL m hlm W
          by_cases h1 : 1 ≤ s.size
          · have ix : ∀ W, (Instr.index 9 (.string s) (.int .i64 0)).run Tryd.prog W = .ok (.int .u8 (btN s 0)) W := fun W => index_str s 0 h1 W
            have h1i : (1 : Int) ≤ (s.size : Int) := by omega
            have sl : ∀ W, (Instr.slice 9 (.string s) none (some (.int .i64 1)) none).run Tryd.prog W = .ok (.string (s.extract 0 1)) W := fun W => slice_str_to s 1 h1 W
            have hq : isOne s m = decide (btN s 0 = btN oneL m) := by unfold isOne; rw [decide_eq_true h1, Bool.true_and]
            cases hb : isOne s m with
            | true =>
              rw [hb] at hq
              have hq2 : btN s 0 = btN oneL m := of_decide_eq_true hq.symm
              rw [hq2] at ix
              obtain rfl := YES.out m hlm hb
              clear YES NONE HI hb hq hq2
              generalize btN oneL m = c at *
              go_wp2_with fail
              go_quiet (fail)
              go_wp2_with fail
              go_ret
              exact ⟨rfl, Below.drewN' hbel2 _⟩
            | false =>
              rw [hb] at hq
              have HI2 : Hid (∀ j, j < m + 1 → isOne s j = false) := fun j hj => by
                by_cases e : j = m
                · rw [e]; exact hb
                · exact HI.out j (by omega)
              have hq2 : ((btN s 0 : Int) == (btN oneL m : Int)) = false := by
                have := of_decide_eq_false hq.symm
                simp
                omega
              clear YES NONE HI hb hq
              generalize btN oneL m = c at *
              generalize btN s 0 = c0 at *
              go_wp2_with fail
              go_quiet (fail)
              go_wp2_with fail
              go_roundw
              case rel => exact ⟨m + 1, by omega, by go_num, HI2, Below.drewN' hbel2 _⟩
              case measure => simp [intOf]; omega
          · have h1i : ¬ (1 : Int) ≤ (s.size : Int) := by omega
            have h1d : decide ((1 : Int) ≤ (s.size : Int)) = false := decide_eq_false h1i
            have HI2 : Hid (∀ j, j < m + 1 → isOne s j = false) := fun j hj => by
              unfold isOne
              rw [decide_eq_false h1]
              rfl
            clear YES NONE HI
            go_wp2_with fail
            go_quiet (fail)
            go_wp2_with fail
            go_roundw
            case rel => exact ⟨m + 1, by omega, by go_num, HI2, Below.drewN' hbel2 _⟩
            case measure => simp [intOf]; omega
        · obtain rfl := NONE.out fun i hi => HI.out i (by omega)
          clear YES NONE HI
          go_wp2_with fail
          go_ret
          exact ⟨rfl, hbel2⟩

end Go.Proofs.YtloccocengegnaaDoor

set_option linter.unusedVariables false
set_option maxRecDepth 100000
namespace Wh
open Go Go.Proofs.YtloccocengegnaaDoor

theorem nameT_nat (s : ByteArray) : ∃ m : Nat, (nameT s).1 = (m : Int) ∧ m ≤ s.size := by
  have h2 := spanN_le wordB s
  unfold nameT
  by_cases h24 : 24 < spanN wordB s
  · rw [if_pos h24]; exact ⟨0, rfl, Nat.zero_le _⟩
  · rw [if_neg h24]
    split
    · rename_i hd
      have h3 := spanN_le wordB (s.extract (spanN wordB s + 1) s.size)
      rw [size_extract (by omega) (Nat.le_refl _)] at h3
      split
      · exact ⟨0, rfl, Nat.zero_le _⟩
      · exact ⟨spanN wordB s + (1 + spanN wordB (s.extract (spanN wordB s + 1) s.size)), by simp, by omega⟩
    · exact ⟨spanN wordB s, rfl, h2⟩
theorem intT_nat (s : ByteArray) : ∃ m : Nat, (intT s).2.1 = (m : Int) := by
  unfold intT
  split
  · exact ⟨0, rfl⟩
  · split
    · exact ⟨0, rfl⟩
    · exact ⟨_, rfl⟩

end Wh
namespace Go.Proofs.YtloccocengegnaaDoor
open Go.RowKit Wh

end Go.Proofs.YtloccocengegnaaDoor

