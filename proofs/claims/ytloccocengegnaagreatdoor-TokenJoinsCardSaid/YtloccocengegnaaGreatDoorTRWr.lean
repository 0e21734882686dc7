/-
  Number, Quote, Moment and written, of the reference.
-/
import Derived.Test.YtloccocengegnaaGreatDoorTQV
import Derived.Test.YtloccocengegnaaGreatDoorGTok
import Derived.Test.YtloccocengegnaaGreatDoorGByt
import Derived.Test.YtloccocengegnaaGreatDoorCRFormat
set_option linter.unusedVariables false
set_option maxRecDepth 100000
namespace Wh
open Go Go.Proofs.YtloccocengegnaaGreatDoor

theorem decDigits_step (x : Nat) : Lib.decDigits x = if x / 10 = 0 then [dig x] else Lib.decDigits (x / 10) ++ [dig x] := by
  by_cases h : x < 10
  · rw [Lib.decDigits, dif_pos h, if_pos (by omega)]
    unfold dig
    rw [Nat.mod_eq_of_lt h]
  · rw [Lib.decDigits, dif_neg h, if_neg (by omega)]
    rfl
/-- The digits that are left, and those that are written. -/
def numR (x : Nat) (l : List UInt8) : List UInt8 := if x = 0 then l else Lib.decDigits x ++ l
theorem numR_start (n : Nat) : numR (n / 10) [dig n] = Lib.decDigits n := by
  rw [decDigits_step n]
  unfold numR
  rfl
theorem numR_step {x : Nat} (h : 0 < x) (l : List UInt8) : numR x l = numR (x / 10) (dig x :: l) := by
  unfold numR
  rw [if_neg (by omega), decDigits_step x]
  by_cases h1 : x / 10 = 0
  · rw [if_pos h1, if_pos h1]; rfl
  · rw [if_neg h1, if_neg h1, List.append_assoc]; rfl
theorem numR_len {n x : Nat} {l : List UInt8} (h : numR x l = Lib.decDigits n) (hn : n ≤ 1073741824) : l.length ≤ 1073741825 := by
  have h1 : ∀ m, Lib.nDigits m ≤ m + 1 := by
    intro m
    induction m using Nat.strongRecOn with
    | _ m ih =>
      by_cases h : m < 10
      · rw [Lib.nDigits_small h]; omega
      · rw [Lib.nDigits_big h]
        have := ih (m / 10) (by omega)
        omega
  have h2 := h1 n
  rw [← Lib.decDigits_length, ← h] at h2
  unfold numR at h2
  split at h2
  · omega
  · rw [List.length_append] at h2; omega
theorem dbl_push (l : List UInt8) (x : UInt8) : dbl (l ++ [x]) = dbl l ++ (if x = 39 then [39, 39] else [x]) := by
  induction l with
  | nil => unfold dbl; split <;> simp_all [dbl]
  | cons y l ih =>
    rw [List.cons_append]
    unfold dbl
    rw [ih]
    split <;> simp
theorem dbl_take {s : ByteArray} {k : Nat} {x : UInt8} (h : (bts s)[k]? = some x) : dbl ((bts s).take (k + 1)) = dbl ((bts s).take k) ++ (if x = 39 then [39, 39] else [x]) := by
  rw [List.take_add_one, h]
  exact dbl_push _ _
theorem str_append (a b : List UInt8) {t : ByteArray} (h : t = ⟨b.toArray⟩) : (⟨a.toArray⟩ : ByteArray) ++ t = ⟨(a ++ b).toArray⟩ := by
  subst h
  exact ba_append a b
theorem mk_bts (s : ByteArray) : (⟨(bts s).toArray⟩ : ByteArray) = s := by
  apply ByteArray.ext
  show (bts s).toArray = s.data
  unfold bts
  simp

end Wh
namespace Go.Proofs.YtloccocengegnaaGreatDoor
open Go.RowKit Wh

set_option maxHeartbeats 1000000 in
theorem number7_any (n : Nat) (hn : n ≤ 1073741824) (w : World) : Calls Tryz.prog 35 #[.int .i64 n] w (IsStr (Lib.decDigits n) w) := by
  have CV := Lib.hid (fun (W : World) (x : Nat) => conv_str (W := W.alloc (.cells #[.int .u8 (48 + (x : Int) % 10)] 5)) (b := W.heap.size) (off := 0) (c := 1) (y := 1) (l := [dig x]) rfl (fun j y hj => by
    cases j with
    | zero =>
      simp only [List.getElem?_cons_zero, Option.some.injEq] at hj
      subst hj
      rw [dig_nat]
      simp
    | succ j => simp at hj))
  have hcv := CV.out w n
  go_enter Tryz.func35, Tryz.ntmps35
  go_wp2_with fail
  clear hcv
  go_loopw [0, 3] (fun nv sv wr => ∃ (x : Nat) (l : List UInt8), x ≤ 1073741824 ∧ nv = .int .i64 x ∧ sv = .string ⟨l.toArray⟩ ∧ Hid (numR x l = Lib.decDigits n) ∧ Below w.heap.size w wr) (fun nv _ _ => (intOf nv).toNat)
  case atStart => exact ⟨n / 10, [dig n], by omega, by go_num, rfl, numR_start n, (Below.refl _ _).alloc (Nat.le_refl _) _⟩
  case round =>
    obtain ⟨x, l, hx, rfl, rfl, HD, hbel⟩ := hrel
    have hl := numR_len HD.out hn
    have hs := hbel.size
    by_cases hlt : 0 < x
    · have hcv := CV.out wr x
      have HD2 := Lib.hid ((numR_step hlt l).symm.trans HD.out)
      have hsz : ¬ (9223372036854775807 < (⟨#[dig x]⟩ : ByteArray).size + (⟨l.toArray⟩ : ByteArray).size) := by
        show ¬ (9223372036854775807 < 1 + l.toArray.size)
        simp
        omega
      have HT : Hid ((⟨#[dig x]⟩ : ByteArray) ++ ⟨l.toArray⟩ = ⟨(dig x :: l).toArray⟩) := ba_append [dig x] l
      clear HD
      generalize (⟨l.toArray⟩ : ByteArray) = t0 at *
      go_wp2_with fail
      go_roundw
      case rel => exact ⟨x / 10, dig x :: l, by omega, by go_num, by rw [← HT.out], HD2, hbel.alloc hs _⟩
      case measure => simp [intOf]; omega
    · obtain rfl : x = 0 := by omega
      go_wp2_with fail
      go_ret
      rw [← show l = Lib.decDigits n from HD.out]
      exact ⟨rfl, hbel⟩

set_option maxHeartbeats 2000000 in
theorem quote_any (s : ByteArray) (hs : s.size ≤ 1000000) (w : World) : Calls Tryz.prog 36 #[.string s] w (IsStr (39 :: (dbl (bts s) ++ [39])) w) := by
  obtain ⟨i0, hi, hz0, hz1, hz2⟩ := info_parts info_u8
  go_enter Tryz.func36, Tryz.ntmps36
  go_wp2_with fail
  go_loopw [3, 4] (fun bv iv wr => ∃ (k : Nat) (l : List UInt8), k ≤ s.size ∧ iv = .int .i64 k ∧ wr.ownsRow w.heap.size 5 1 bv l.length (byC l) ∧ l.length ≤ 1 + 2 * k ∧ Hid (l = 39 :: dbl ((bts s).take k)) ∧ Below w.heap.size w wr) (fun _ iv _ => s.size - (intOf iv).toNat)
  case atStart => exact ⟨0, [39], Nat.zero_le _, rfl, World.ownsRow_lit w #[.int .u8 39] 1 (Nat.le_refl _) (by unfold maxLen; omega) rfl, by simp, by show _ = _; simp [dbl], (Below.refl _ _).alloc (Nat.le_refl _) _⟩
  case round =>
    obtain ⟨k, l, hk, rfl, hown, hln, HL, hbel⟩ := hrel
    have hs9 := hbel.size
    by_cases hlt : k < s.size
    · have ix := fun W => index_str s k hlt W
      obtain ⟨x, hx⟩ := bts_at hlt
      have hbx := btN_of hx
      have HD := Lib.hid (dbl_take hx)
      by_cases h39 : x = 39
      · subst h39
        have HL2 : Hid ((l ++ [39]) ++ [39] = 39 :: dbl ((bts s).take (k + 1))) := by
          show _ = _
          rw [HD.out, HL.out, if_pos rfl]
          simp
        rw [hbx] at ix
        have ix2 : ∀ W, (Instr.index 9 (.string s) (.int .i64 k)).run Tryz.prog W = .ok (.int .u8 39) W := fun W => ix W
        clear HD HL hx hbx ix
        go_wp2_with (at_builtin; refine wpList_append_lies _ rfl _ _ 27 rfl w.heap.size 5 i0 _ 1 1 Tryz.underlying27 hi hz0 hz1 hz2 rfl (by decide) _ _ _ rfl (hown.alloc _) ⟨wr.heap.size, 0, none⟩ 1 1 [.int .u8 39] rfl rfl (by have h := heap_alloc_new wr (.cells #[.int .u8 39] 5); exact World.news_of_block (cs := #[.int .u8 39]) (t := 5) (fr := (0, 0)) h) (by simp [Value.oneCell']) (by omega) (by unfold maxLen; omega) (by omega) (by simp; omega) (wr.heap.size + 1) (by simp) ?_)
        intro gg cc w9 hown9 hgrow9 hat9 hlt9
        have hB9 := (hbel.alloc (by omega) _).grown hgrow9 (by simp; omega) (fun j hj => (hown.lt j hj).1)
        have hs99 := hB9.size
        have hO9 : w9.ownsRow w.heap.size 5 1 (.slice (some ⟨gg, 0, none⟩) (l.length + 1) cc) (l.length + 1) (byC (l ++ [39])) := by
          rw [← byC_push l 39 39 rfl]
          exact hown9
        clear hown9 hgrow9 hat9 hlt9 hown
        go_wp2_with (at_builtin; refine wpList_append_lies _ rfl _ _ 27 rfl w.heap.size 5 i0 _ 1 1 Tryz.underlying27 hi hz0 hz1 hz2 rfl (by decide) _ _ _ rfl (hO9.alloc _) ⟨w9.heap.size, 0, none⟩ 1 1 [.int .u8 39] rfl rfl (by have h := heap_alloc_new w9 (.cells #[.int .u8 39] 5); exact World.news_of_block (cs := #[.int .u8 39]) (t := 5) (fr := (0, 0)) h) (by simp [Value.oneCell']) (by omega) (by unfold maxLen; omega) (by omega) (by simp; omega) (w9.heap.size + 1) (by simp) ?_)
        intro g2 c2 w8 hown8 hgrow8 hat8 hlt8
        have hB8 := (hB9.alloc (by omega) _).grown hgrow8 (by simp; omega) (fun j hj => (hO9.lt j hj).1)
        have hO8 : w8.ownsRow w.heap.size 5 1 (.slice (some ⟨g2, 0, none⟩) (l.length + 1 + 1) c2) (l.length + 1 + 1) (byC ((l ++ [39]) ++ [39])) := by
          rw [← byC_push (l ++ [39]) 39 39 rfl]
          exact hown8
        clear hown8 hgrow8 hat8 hlt8 hO9 hB9
        go_wp2_with fail
        go_roundw
        case rel => exact ⟨k + 1, (l ++ [39]) ++ [39], by omega, by go_num, by rw [List.length_append, List.length_append]; exact hO8, by simp; omega, HL2, hB8⟩
        case measure => simp [intOf]; omega
      · have HL2 : Hid (l ++ [x] = 39 :: dbl ((bts s).take (k + 1))) := by
          show _ = _
          rw [HD.out, HL.out, if_neg h39]
          simp
        rw [hbx] at ix
        have hne : ((x.toNat : Int) == 39) = false := by
          have : ¬ x.toNat = 39 := fun h => h39 (UInt8.toNat_inj.1 h)
          simp
          omega
        clear HD HL hx hbx h39
        have HP := Lib.hid (byC_push l x x.toNat rfl)
        generalize (x.toNat : Int) = c at *
        go_wp2_with (at_builtin; refine wpList_append_lies _ rfl _ _ 27 rfl w.heap.size 5 i0 _ 1 1 Tryz.underlying27 hi hz0 hz1 hz2 rfl (by decide) _ _ _ rfl (hown.alloc _) ⟨wr.heap.size, 0, none⟩ 1 1 [.int .u8 c] rfl rfl (by have h := heap_alloc_new wr (.cells #[.int .u8 c] 5); exact World.news_of_block (cs := #[.int .u8 c]) (t := 5) (fr := (0, 0)) h) (by simp [Value.oneCell']) (by omega) (by unfold maxLen; omega) (by omega) (by simp; omega) (wr.heap.size + 1) (by simp) ?_)
        intro gg cc w9 hown9 hgrow9 hat9 hlt9
        have hB9 := (hbel.alloc (by omega) _).grown hgrow9 (by simp; omega) (fun j hj => (hown.lt j hj).1)
        rw [HP.out] at hown9
        clear hgrow9 hat9 hlt9 hown
        go_wp2_with fail
        go_roundw
        case rel => exact ⟨k + 1, l ++ [x], by omega, by go_num, by rw [List.length_append]; exact hown9, by simp; omega, HL2, hB9⟩
        case measure => simp [intOf]; omega
    · obtain rfl : k = s.size := by omega
      have HL2 : Hid (l ++ [39] = 39 :: (dbl (bts s) ++ [39])) := by
        show _ = _
        have := HL.out
        rw [List.take_of_length_le (by rw [bts_length]; exact Nat.le_refl _)] at this
        rw [this]
        rfl
      clear HL
      go_wp2_with (at_builtin; refine wpList_append_lies _ rfl _ _ 27 rfl w.heap.size 5 i0 _ 1 1 Tryz.underlying27 hi hz0 hz1 hz2 rfl (by decide) _ _ _ rfl (hown.alloc _) ⟨wr.heap.size, 0, none⟩ 1 1 [.int .u8 39] rfl rfl (by have h := heap_alloc_new wr (.cells #[.int .u8 39] 5); exact World.news_of_block (cs := #[.int .u8 39]) (t := 5) (fr := (0, 0)) h) (by simp [Value.oneCell']) (by omega) (by unfold maxLen; omega) (by omega) (by simp; omega) (wr.heap.size + 1) (by simp) ?_)
      intro gg cc w9 hown9 hgrow9 hat9 hlt9
      have hB9 := (hbel.alloc (by omega) _).grown hgrow9 (by simp; omega) (fun j hj => (hown.lt j hj).1)
      rw [byC_push l 39 39 rfl] at hown9
      have hcv := conv_own hown9 (by simp)
      have HCV := Lib.hid hB9
      clear hown9 hgrow9 hat9 hlt9 hown hB9
      go_wp2_with fail
      go_ret
      rw [← HL2.out]
      exact ⟨rfl, HCV.out⟩

set_option maxHeartbeats 1000000 in
theorem moment7_any (y : Int) (k : Nat) (d : Int) (t : Nat) (hd : Dt y k d) (ht : t < 1440) (hn : dayZ y k d ≤ 399999) (w : World) :
    Calls Tryz.prog 37 #[.int .i64 (dayZ y k d * 1440 + (t : Int))] w (IsStr (64 :: fmtL y k d t) w) := by
  have C := Lib.hid (rformat_any y k d t hd ht hn w)
  have hl := fmtL_length y k d t
  have HT : Hid ((⟨#[64]⟩ : ByteArray) ++ ⟨(fmtL y k d t).toArray⟩ = ⟨(64 :: fmtL y k d t).toArray⟩) := ba_append [64] _
  have hsz : ¬ (9223372036854775807 < (⟨#[64]⟩ : ByteArray).size + (⟨(fmtL y k d t).toArray⟩ : ByteArray).size) := by
    show ¬ (9223372036854775807 < 1 + (fmtL y k d t).toArray.size)
    simp
    omega
  unfold IsTxt at C
  unfold IsStr
  rw [← HT.out]
  generalize (⟨(fmtL y k d t).toArray⟩ : ByteArray) = tx at *
  generalize dayZ y k d * 1440 + (t : Int) = m at *
  clear hd ht hn hl
  go_enter Tryz.func37, Tryz.ntmps37
  go_wp2_with fail
  refine C.out.mono ?_
  rintro e w1 ⟨rfl, hb⟩
  go_wp2_with fail
  go_ret
  exact ⟨rfl, hb⟩

end Go.Proofs.YtloccocengegnaaGreatDoor
