/-
  readInt, of package token. · literalSize and readText, of package token. · text, of the reference. · symbol, of the reference. · next, of the ref · valid and Validate, of the reference.
-/
import Derived.Test.YtmdpjahhhfajaaaGreatDoorJC23
import Derived.Test.YtmdpjahhhfajaaaGreatDoorJC13
import Derived.Test.YtmdpjahhhfajaaaGreatDoorJC06
import Derived.Test.YtmdpjahhhfajaaaGreatDoorJC10
import Derived.Deep.RegionHeld3
set_option linter.unusedVariables false
set_option maxRecDepth 100000
namespace Wh
open Go Go.Proofs.YtmdpjahhhfajaaaGreatDoor
theorem word_rest {s : ByteArray} {k : Nat} (hk : k ≤ s.size) (hd : k < s.size → numB (btN s k) = false) :
  decide ((0 : Int) < (spanN wordB (s.extract k s.size) : Int)) = (decide (k < s.size) && (lowB (btN s k) || decide (btN s k = 95))) := by
 have hr : (s.extract k s.size).size = s.size - k := size_extract hk (Nat.le_refl _)
 have hle := spanN_le wordB (s.extract k s.size)
 by_cases hlt : k < s.size
 ·have hb : btN (s.extract k s.size) 0 = btN s k := by rw [btN_extract s k s.size 0 (by omega), Nat.add_zero]
  rw [decide_eq_true hlt, Bool.true_and]
  have hw : wordB (btN s k) = (lowB (btN s k) || decide (btN s k = 95)) := by unfold wordB; rw [hd hlt, Bool.or_false]
  rw [← hw]
  cases hx : wordB (btN s k) with
  | true =>
   have := spanN_pos (p := wordB) (s := s.extract k s.size) (by omega) (by rw [hb]; exact hx)
   exact decide_eq_true (by omega)
  | false =>
   have h0 : spanN wordB (s.extract k s.size) = 0 := spanN_eq (fun j hj => absurd hj (by omega)) (by omega) (.inr (by rw [hb]; exact hx))
   exact decide_eq_false (by omega)
 ·rw [decide_eq_false hlt, Bool.false_and]
  exact decide_eq_false (by omega)
theorem intT_end {s : ByteArray} {k : Nat} (hk : k ≤ s.size) (hsp : spanN numB s = k) (hall : ∀ j, j < k → numB (btN s j) = true) (hd : k < s.size → numB (btN s k) = false) :
  intT s = if ((decide (btN s 0 = 48) && decide ((1 : Int) < (k : Int))) || decide ((0 : Int) < (spanN wordB (s.extract k s.size) : Int))) = true then (0, 0, 3) else if 1073741824 < valF 0 ((bts s).take k) then (0, 0, 1) else ((valF 0 ((bts s).take k) : Int), (k : Int), 0) := by
 unfold intT badI
 rw [hsp, word_rest hk hd, decV_val k hk hall, Bool.and_comm (decide (1 < k)), show decide ((1 : Int) < (k : Int)) = decide (1 < k) from decide_eq_decide.2 (by omega)]
 split
 ·rfl
 ·by_cases h : 1073741824 < valF 0 ((bts s).take k)
  ·rw [if_pos h, if_pos (by omega)]
  ·rw [if_neg h, if_neg (by omega)]
   congr 1
   omega
end Wh
namespace Go.Proofs.YtmdpjahhhfajaaaGreatDoor
open Go.RowKit Wh
set_option maxHeartbeats 8000000 in
theorem readInt_any (s : ByteArray) (hs : s.size ≤ 1000000) (hp : 0 < s.size) (h0 : lowB (btN s 0) = false) (h1 : numB (btN s 0) = true) (w : World) (hg : Glo w) : Calls Tryz.prog 117 #[.string s] w (IsNx (nx s) w) := by
 rw [nx_int h0 h1]
 have FIN := Lib.hid (fun n h1 h2 h3 => spanN_eq (p := numB) (s := s) (n := n) h1 h2 h3)
 have HG := Lib.hid hg
 have H0 := Lib.hid h1
 clear h0 h1 hg
 go_enter Tryz.func117, Tryz.ntmps117
 go_wp2_with fail
 go_loop [3] (fun iv => ∃ k : Nat, k ≤ s.size ∧ iv = .int .i64 k ∧ Hid (∀ j, j < k → numB (btN s j) = true)) (fun i => s.size - (intOf i).toNat)
 case atStart => exact ⟨0, Nat.zero_le _, rfl, fun j hj => absurd hj (by omega)⟩
 case round =>
  obtain ⟨k, hk, rfl, HI⟩ := hrel
  by_cases hd : k < s.size ∧ numB (btN s k) = true
  ·obtain ⟨hlt, hdg⟩ := hd
   have ix := fun W => index_str s k hlt W
   have D := Lib.hid (fun W => tisDigit_any (btN s k) W)
   rw [hdg] at D
   have HI2 : Hid (∀ j, j < k + 1 → numB (btN s j) = true) := fun j hj => by
    by_cases e : j = k
    ·rw [e]; exact hdg
    ·exact HI.out j (by omega)
   clear hdg HI
   generalize btN s k = c at *
   go_wp2_with (first | (go_at_call 116; refine (D.out _).mono ?_; rintro e w1 ⟨rfl, rfl⟩))
   go_round
   case rel => exact ⟨k + 1, by omega, by go_num, HI2⟩
   case measure => simp [intOf]; omega
  ·have hdg : k < s.size → numB (btN s k) = false := fun hlt => by
    cases hx : numB (btN s k) with
    | false => rfl
    | true => exact absurd ⟨hlt, hx⟩ hd
   have hsp : spanN numB s = k := FIN.out k HI.out hk (by
    by_cases h : k = s.size
    ·exact .inl h
    ·exact .inr (hdg (by omega)))
   have hk1 : 1 ≤ k := by
    rw [← hsp]
    exact spanN_pos hp H0.out
   have HEX := Lib.hid (intT_end hk hsp HI.out hdg)
   have hDL := digL_take (s := s) HI.out
   have hne : (bts s).take k ≠ [] := by
    intro h
    have := congrArg List.length h
    rw [List.length_take, bts_length, List.length_nil] at this
    omega
   have hAT := atoi_digits hDL hne
   have hbt : bts (s.extract 0 k) = (bts s).take k := by rw [bts_extract, List.drop_zero, Nat.sub_zero]
   have hsz0 : (s.extract 0 k).size ≤ 281474976710656 := by rw [size_extract (by omega) hk]; omega
   have AOK := Lib.hid (fun v (h : Lib.atoiAll ((bts s).take k) = .ok v) W => atoi_ok (s.extract 0 k) hsz0 v (by rw [hbt]; exact h) W)
   have ABAD := Lib.hid (fun (h : Lib.atoiAll ((bts s).take k) = .range) W (hW : Below w.heap.size w W) => atoi_bad (s.extract 0 k) hsz0 (by rw [hbt]; exact h) W (HG.out.next hW))
   have hbel0 : Below w.heap.size w (w.alloc (.cells #[.int .i64 0, .string ⟨#[]⟩, .int .i64 0, .int .i64 0] 71)) := (Below.refl _ _).alloc (Nat.le_refl _) _
   have sl1 := fun W => slice_str_from s k hk W
   have sl2 := fun W => slice_str_to s k hk W
   have hr : (s.extract k s.size).size = s.size - k := size_extract hk (Nat.le_refl _)
   have WS := Lib.hid (wordSize_any (s.extract k s.size) (by omega))
   have ix0 : ∀ W, (Instr.index 9 (.string s) (.int .i64 0)).run Tryz.prog W = .ok (.int .u8 (btN s 0)) W := fun W => index_str s 0 (by omega) W
   clear hDL hne hbt hsz0 hr hsp FIN HI H0 HG
   generalize s.extract 0 k = t0 at *
   generalize spanN wordB (s.extract k s.size) = wz at *
   generalize s.extract k s.size = r0 at *
   generalize hV : (bts s).take k = ds at *
   clear hV
   have hAT2 : (Lib.atoiAll ds = .ok (valF 0 ds : Int) ∧ valF 0 ds ≤ 1073741824) ∨ (Lib.atoiAll ds = .ok (valF 0 ds : Int) ∧ 1073741824 < valF 0 ds) ∨ (Lib.atoiAll ds = .range ∧ 1073741824 < valF 0 ds) := by
    rcases hAT with ⟨a, b⟩ | ⟨a, b⟩
    ·by_cases h : valF 0 ds ≤ 1073741824
     ·exact .inl ⟨a, h⟩
     ·exact .inr (.inl ⟨a, by omega⟩)
    ·exact .inr (.inr ⟨a, by omega⟩)
   clear hAT
   have e48 : ((btN s 0 : Int) == 48) = decide (btN s 0 = 48) := by
    by_cases h : btN s 0 = 48
    ·simp [h]
    ·rw [decide_eq_false h]; simp; omega
   generalize intT s = T at *
   generalize decide (btN s 0 = 48) = b48 at *
   generalize btN s 0 = z at *
   by_cases hlt : k < s.size
   ·have ix := fun W => index_str s k hlt W
    have D := Lib.hid (fun W => tisDigit_any (btN s k) W)
    rw [hdg hlt] at D
    clear hdg hd
    generalize btN s k = c at *
    cases b48
    case false =>
     by_cases hw : (0 : Int) < (wz : Int)
     ·have HT : Hid (T = (0, 0, 3)) := by
       have h := HEX.out
       rw [decide_eq_true hw] at h
       show _ = _
       simpa using h
      clear HEX
      go_wp2_with (first | (go_at_call 116; refine (D.out _).mono ?_; rintro e w1 ⟨rfl, rfl⟩) | (go_at_call 145; refine (WS.out _).mono ?_; rintro e w1 ⟨rfl, rfl⟩))
      exact bodyPost_ret (v := .tuple #[tokV (noT, 0), .int .i64 0, .int .i64 3]) (by simp [results, Tryz.results117, go_sem, tokV, noT]) rfl
       (IsNx.of noT 0 3 rfl (by rw [HT.out]) (fun h => by rw [HT.out] at h; cases h) hbel0)
     ·have HE2 : Hid (T = if 1073741824 < valF 0 ds then (0, 0, 1) else ((valF 0 ds : Int), (k : Int), 0)) := by
       have h := HEX.out
       rw [decide_eq_false hw] at h
       show _ = _
       simpa using h
      clear HEX
      generalize valF 0 ds = V at *
      rcases hAT2 with ⟨hA, hv⟩ | ⟨hA, hv⟩ | ⟨hA, hv⟩
      ·have HT : Hid (T = ((V : Int), (k : Int), 0)) := by
        have h := HE2.out
        rw [if_neg (by omega)] at h
        exact h
       have HA := Lib.hid hA
       clear HE2 hA
       have hv2 : ¬ (1073741824 : Int) < (V : Int) := by omega
       go_wp2_with (first | (go_at_call 116; refine (D.out _).mono ?_; rintro e w1 ⟨rfl, rfl⟩) | (go_at_call 145; refine (WS.out _).mono ?_; rintro e w1 ⟨rfl, rfl⟩) | (go_at_call 146; refine (AOK.out _ HA.out _).mono ?_; rintro e w1 ⟨rfl, hb⟩; obtain ⟨hc, hf⟩ := bcell hb; have hsz : w.heap.size < w1.heap.size := (by have := hb.size; simp at this; omega)))
       exact bodyPost_ret (v := .tuple #[tokV (⟨2, ⟨#[]⟩, (V : Int)⟩, 0), .int .i64 (k : Int), .int .i64 0]) (by simp [results, Tryz.results117, go_sem, hc, tokV]) rfl
        (IsNx.of ⟨2, ⟨#[]⟩, (V : Int)⟩ k 0 rfl (by rw [HT.out]) (fun _ => ⟨by rw [HT.out], by rw [HT.out]; rfl⟩) (((((hbel0.trans (hb.mono (by simp))).setCell (Nat.le_refl _) _).setCell (Nat.le_refl _) _).setCell (Nat.le_refl _) _).setCell (Nat.le_refl _) _))
      ·have HT : Hid (T = (0, 0, 1)) := by
        have h := HE2.out
        rw [if_pos (by omega)] at h
        exact h
       have HA := Lib.hid hA
       clear HE2 hA
       have hv2 : (1073741824 : Int) < (V : Int) := by omega
       go_wp2_with (first | (go_at_call 116; refine (D.out _).mono ?_; rintro e w1 ⟨rfl, rfl⟩) | (go_at_call 145; refine (WS.out _).mono ?_; rintro e w1 ⟨rfl, rfl⟩) | (go_at_call 146; refine (AOK.out _ HA.out _).mono ?_; rintro e w1 ⟨rfl, hb⟩; obtain ⟨hc, hf⟩ := bcell hb; have hsz : w.heap.size < w1.heap.size := (by have := hb.size; simp at this; omega)))
       exact bodyPost_ret (v := .tuple #[tokV (noT, 0), .int .i64 0, .int .i64 1]) (by simp [results, Tryz.results117, go_sem, hc, tokV, noT]) rfl
        (IsNx.of noT 0 1 rfl (by rw [HT.out]) (fun h => by rw [HT.out] at h; cases h) (((((hbel0.trans (hb.mono (by simp))).setCell (Nat.le_refl _) _).setCell (Nat.le_refl _) _).setCell (Nat.le_refl _) _).setCell (Nat.le_refl _) _))
      ·have HT : Hid (T = (0, 0, 1)) := by
        have h := HE2.out
        rw [if_pos (by omega)] at h
        exact h
       have HA := Lib.hid hA
       clear HE2 hA
       go_wp2_with (first | (go_at_call 116; refine (D.out _).mono ?_; rintro e w1 ⟨rfl, rfl⟩) | (go_at_call 145; refine (WS.out _).mono ?_; rintro e w1 ⟨rfl, rfl⟩) | (go_at_call 146; refine (ABAD.out HA.out _ hbel0).mono ?_; rintro e w1 ⟨zz, tt, pp, rfl, hb⟩; obtain ⟨hc, hf⟩ := bcell hb; have hsz : w.heap.size < w1.heap.size := (by have := hb.size; simp at this; omega)))
       exact bodyPost_ret (v := .tuple #[tokV (noT, 0), .int .i64 0, .int .i64 1]) (by simp [results, Tryz.results117, go_sem, hc, tokV, noT]) rfl
        (IsNx.of noT 0 1 rfl (by rw [HT.out]) (fun h => by rw [HT.out] at h; cases h) (((((hbel0.trans (hb.mono (by simp))).setCell (Nat.le_refl _) _).setCell (Nat.le_refl _) _).setCell (Nat.le_refl _) _).setCell (Nat.le_refl _) _))
    case true =>
     by_cases hk2 : (1 : Int) < (k : Int)
     ·have HT : Hid (T = (0, 0, 3)) := by
       have h := HEX.out
       rw [decide_eq_true hk2] at h
       show _ = _
       simpa using h
      clear HEX
      go_wp2_with (first | (go_at_call 116; refine (D.out _).mono ?_; rintro e w1 ⟨rfl, rfl⟩) | (go_at_call 145; refine (WS.out _).mono ?_; rintro e w1 ⟨rfl, rfl⟩))
      exact bodyPost_ret (v := .tuple #[tokV (noT, 0), .int .i64 0, .int .i64 3]) (by simp [results, Tryz.results117, go_sem, tokV, noT]) rfl
       (IsNx.of noT 0 3 rfl (by rw [HT.out]) (fun h => by rw [HT.out] at h; cases h) hbel0)
     ·by_cases hw : (0 : Int) < (wz : Int)
      ·have HT : Hid (T = (0, 0, 3)) := by
        have h := HEX.out
        rw [decide_eq_true hw, decide_eq_false hk2] at h
        show _ = _
        simpa using h
       clear HEX
       go_wp2_with (first | (go_at_call 116; refine (D.out _).mono ?_; rintro e w1 ⟨rfl, rfl⟩) | (go_at_call 145; refine (WS.out _).mono ?_; rintro e w1 ⟨rfl, rfl⟩))
       exact bodyPost_ret (v := .tuple #[tokV (noT, 0), .int .i64 0, .int .i64 3]) (by simp [results, Tryz.results117, go_sem, tokV, noT]) rfl
        (IsNx.of noT 0 3 rfl (by rw [HT.out]) (fun h => by rw [HT.out] at h; cases h) hbel0)
      ·have HE2 : Hid (T = if 1073741824 < valF 0 ds then (0, 0, 1) else ((valF 0 ds : Int), (k : Int), 0)) := by
        have h := HEX.out
        rw [decide_eq_false hw, decide_eq_false hk2] at h
        show _ = _
        simpa using h
       clear HEX
       generalize valF 0 ds = V at *
       rcases hAT2 with ⟨hA, hv⟩ | ⟨hA, hv⟩ | ⟨hA, hv⟩
       ·have HT : Hid (T = ((V : Int), (k : Int), 0)) := by
         have h := HE2.out
         rw [if_neg (by omega)] at h
         exact h
        have HA := Lib.hid hA
        clear HE2 hA
        have hv2 : ¬ (1073741824 : Int) < (V : Int) := by omega
        go_wp2_with (first | (go_at_call 116; refine (D.out _).mono ?_; rintro e w1 ⟨rfl, rfl⟩) | (go_at_call 145; refine (WS.out _).mono ?_; rintro e w1 ⟨rfl, rfl⟩) | (go_at_call 146; refine (AOK.out _ HA.out _).mono ?_; rintro e w1 ⟨rfl, hb⟩; obtain ⟨hc, hf⟩ := bcell hb; have hsz : w.heap.size < w1.heap.size := (by have := hb.size; simp at this; omega)))
        exact bodyPost_ret (v := .tuple #[tokV (⟨2, ⟨#[]⟩, (V : Int)⟩, 0), .int .i64 (k : Int), .int .i64 0]) (by simp [results, Tryz.results117, go_sem, hc, tokV]) rfl
         (IsNx.of ⟨2, ⟨#[]⟩, (V : Int)⟩ k 0 rfl (by rw [HT.out]) (fun _ => ⟨by rw [HT.out], by rw [HT.out]; rfl⟩) (((((hbel0.trans (hb.mono (by simp))).setCell (Nat.le_refl _) _).setCell (Nat.le_refl _) _).setCell (Nat.le_refl _) _).setCell (Nat.le_refl _) _))
       ·have HT : Hid (T = (0, 0, 1)) := by
         have h := HE2.out
         rw [if_pos (by omega)] at h
         exact h
        have HA := Lib.hid hA
        clear HE2 hA
        have hv2 : (1073741824 : Int) < (V : Int) := by omega
        go_wp2_with (first | (go_at_call 116; refine (D.out _).mono ?_; rintro e w1 ⟨rfl, rfl⟩) | (go_at_call 145; refine (WS.out _).mono ?_; rintro e w1 ⟨rfl, rfl⟩) | (go_at_call 146; refine (AOK.out _ HA.out _).mono ?_; rintro e w1 ⟨rfl, hb⟩; obtain ⟨hc, hf⟩ := bcell hb; have hsz : w.heap.size < w1.heap.size := (by have := hb.size; simp at this; omega)))
        exact bodyPost_ret (v := .tuple #[tokV (noT, 0), .int .i64 0, .int .i64 1]) (by simp [results, Tryz.results117, go_sem, hc, tokV, noT]) rfl
         (IsNx.of noT 0 1 rfl (by rw [HT.out]) (fun h => by rw [HT.out] at h; cases h) (((((hbel0.trans (hb.mono (by simp))).setCell (Nat.le_refl _) _).setCell (Nat.le_refl _) _).setCell (Nat.le_refl _) _).setCell (Nat.le_refl _) _))
       ·have HT : Hid (T = (0, 0, 1)) := by
         have h := HE2.out
         rw [if_pos (by omega)] at h
         exact h
        have HA := Lib.hid hA
        clear HE2 hA
        go_wp2_with (first | (go_at_call 116; refine (D.out _).mono ?_; rintro e w1 ⟨rfl, rfl⟩) | (go_at_call 145; refine (WS.out _).mono ?_; rintro e w1 ⟨rfl, rfl⟩) | (go_at_call 146; refine (ABAD.out HA.out _ hbel0).mono ?_; rintro e w1 ⟨zz, tt, pp, rfl, hb⟩; obtain ⟨hc, hf⟩ := bcell hb; have hsz : w.heap.size < w1.heap.size := (by have := hb.size; simp at this; omega)))
        exact bodyPost_ret (v := .tuple #[tokV (noT, 0), .int .i64 0, .int .i64 1]) (by simp [results, Tryz.results117, go_sem, hc, tokV, noT]) rfl
         (IsNx.of noT 0 1 rfl (by rw [HT.out]) (fun h => by rw [HT.out] at h; cases h) (((((hbel0.trans (hb.mono (by simp))).setCell (Nat.le_refl _) _).setCell (Nat.le_refl _) _).setCell (Nat.le_refl _) _).setCell (Nat.le_refl _) _))
   ·obtain rfl : k = s.size := by omega
    clear hdg hd hlt
    cases b48
    case false =>
     by_cases hw : (0 : Int) < (wz : Int)
     ·have HT : Hid (T = (0, 0, 3)) := by
       have h := HEX.out
       rw [decide_eq_true hw] at h
       show _ = _
       simpa using h
      clear HEX
      go_wp2_with (first | (go_at_call 145; refine (WS.out _).mono ?_; rintro e w1 ⟨rfl, rfl⟩))
      exact bodyPost_ret (v := .tuple #[tokV (noT, 0), .int .i64 0, .int .i64 3]) (by simp [results, Tryz.results117, go_sem, tokV, noT]) rfl
       (IsNx.of noT 0 3 rfl (by rw [HT.out]) (fun h => by rw [HT.out] at h; cases h) hbel0)
     ·have HE2 : Hid (T = if 1073741824 < valF 0 ds then (0, 0, 1) else ((valF 0 ds : Int), (s.size : Int), 0)) := by
       have h := HEX.out
       rw [decide_eq_false hw] at h
       show _ = _
       simpa using h
      clear HEX
      generalize valF 0 ds = V at *
      rcases hAT2 with ⟨hA, hv⟩ | ⟨hA, hv⟩ | ⟨hA, hv⟩
      ·have HT : Hid (T = ((V : Int), (s.size : Int), 0)) := by
        have h := HE2.out
        rw [if_neg (by omega)] at h
        exact h
       have HA := Lib.hid hA
       clear HE2 hA
       have hv2 : ¬ (1073741824 : Int) < (V : Int) := by omega
       go_wp2_with (first | (go_at_call 145; refine (WS.out _).mono ?_; rintro e w1 ⟨rfl, rfl⟩) | (go_at_call 146; refine (AOK.out _ HA.out _).mono ?_; rintro e w1 ⟨rfl, hb⟩; obtain ⟨hc, hf⟩ := bcell hb; have hsz : w.heap.size < w1.heap.size := (by have := hb.size; simp at this; omega)))
       exact bodyPost_ret (v := .tuple #[tokV (⟨2, ⟨#[]⟩, (V : Int)⟩, 0), .int .i64 (s.size : Int), .int .i64 0]) (by simp [results, Tryz.results117, go_sem, hc, tokV]) rfl
        (IsNx.of ⟨2, ⟨#[]⟩, (V : Int)⟩ s.size 0 rfl (by rw [HT.out]) (fun _ => ⟨by rw [HT.out], by rw [HT.out]; rfl⟩) (((((hbel0.trans (hb.mono (by simp))).setCell (Nat.le_refl _) _).setCell (Nat.le_refl _) _).setCell (Nat.le_refl _) _).setCell (Nat.le_refl _) _))
      ·have HT : Hid (T = (0, 0, 1)) := by
        have h := HE2.out
        rw [if_pos (by omega)] at h
        exact h
       have HA := Lib.hid hA
       clear HE2 hA
       have hv2 : (1073741824 : Int) < (V : Int) := by omega
       go_wp2_with (first | (go_at_call 145; refine (WS.out _).mono ?_; rintro e w1 ⟨rfl, rfl⟩) | (go_at_call 146; refine (AOK.out _ HA.out _).mono ?_; rintro e w1 ⟨rfl, hb⟩; obtain ⟨hc, hf⟩ := bcell hb; have hsz : w.heap.size < w1.heap.size := (by have := hb.size; simp at this; omega)))
       exact bodyPost_ret (v := .tuple #[tokV (noT, 0), .int .i64 0, .int .i64 1]) (by simp [results, Tryz.results117, go_sem, hc, tokV, noT]) rfl
        (IsNx.of noT 0 1 rfl (by rw [HT.out]) (fun h => by rw [HT.out] at h; cases h) (((((hbel0.trans (hb.mono (by simp))).setCell (Nat.le_refl _) _).setCell (Nat.le_refl _) _).setCell (Nat.le_refl _) _).setCell (Nat.le_refl _) _))
      ·have HT : Hid (T = (0, 0, 1)) := by
        have h := HE2.out
        rw [if_pos (by omega)] at h
        exact h
       have HA := Lib.hid hA
       clear HE2 hA
       go_wp2_with (first | (go_at_call 145; refine (WS.out _).mono ?_; rintro e w1 ⟨rfl, rfl⟩) | (go_at_call 146; refine (ABAD.out HA.out _ hbel0).mono ?_; rintro e w1 ⟨zz, tt, pp, rfl, hb⟩; obtain ⟨hc, hf⟩ := bcell hb; have hsz : w.heap.size < w1.heap.size := (by have := hb.size; simp at this; omega)))
       exact bodyPost_ret (v := .tuple #[tokV (noT, 0), .int .i64 0, .int .i64 1]) (by simp [results, Tryz.results117, go_sem, hc, tokV, noT]) rfl
        (IsNx.of noT 0 1 rfl (by rw [HT.out]) (fun h => by rw [HT.out] at h; cases h) (((((hbel0.trans (hb.mono (by simp))).setCell (Nat.le_refl _) _).setCell (Nat.le_refl _) _).setCell (Nat.le_refl _) _).setCell (Nat.le_refl _) _))
    case true =>
     by_cases hk2 : (1 : Int) < (s.size : Int)
     ·have HT : Hid (T = (0, 0, 3)) := by
       have h := HEX.out
       rw [decide_eq_true hk2] at h
       show _ = _
       simpa using h
      clear HEX
      go_wp2_with (first | (go_at_call 145; refine (WS.out _).mono ?_; rintro e w1 ⟨rfl, rfl⟩))
      exact bodyPost_ret (v := .tuple #[tokV (noT, 0), .int .i64 0, .int .i64 3]) (by simp [results, Tryz.results117, go_sem, tokV, noT]) rfl
       (IsNx.of noT 0 3 rfl (by rw [HT.out]) (fun h => by rw [HT.out] at h; cases h) hbel0)
     ·by_cases hw : (0 : Int) < (wz : Int)
      ·have HT : Hid (T = (0, 0, 3)) := by
        have h := HEX.out
        rw [decide_eq_true hw, decide_eq_false hk2] at h
        show _ = _
        simpa using h
       clear HEX
       go_wp2_with (first | (go_at_call 145; refine (WS.out _).mono ?_; rintro e w1 ⟨rfl, rfl⟩))
       exact bodyPost_ret (v := .tuple #[tokV (noT, 0), .int .i64 0, .int .i64 3]) (by simp [results, Tryz.results117, go_sem, tokV, noT]) rfl
        (IsNx.of noT 0 3 rfl (by rw [HT.out]) (fun h => by rw [HT.out] at h; cases h) hbel0)
      ·have HE2 : Hid (T = if 1073741824 < valF 0 ds then (0, 0, 1) else ((valF 0 ds : Int), (s.size : Int), 0)) := by
        have h := HEX.out
        rw [decide_eq_false hw, decide_eq_false hk2] at h
        show _ = _
        simpa using h
       clear HEX
       generalize valF 0 ds = V at *
       rcases hAT2 with ⟨hA, hv⟩ | ⟨hA, hv⟩ | ⟨hA, hv⟩
       ·have HT : Hid (T = ((V : Int), (s.size : Int), 0)) := by
         have h := HE2.out
         rw [if_neg (by omega)] at h
         exact h
        have HA := Lib.hid hA
        clear HE2 hA
        have hv2 : ¬ (1073741824 : Int) < (V : Int) := by omega
        go_wp2_with (first | (go_at_call 145; refine (WS.out _).mono ?_; rintro e w1 ⟨rfl, rfl⟩) | (go_at_call 146; refine (AOK.out _ HA.out _).mono ?_; rintro e w1 ⟨rfl, hb⟩; obtain ⟨hc, hf⟩ := bcell hb; have hsz : w.heap.size < w1.heap.size := (by have := hb.size; simp at this; omega)))
        exact bodyPost_ret (v := .tuple #[tokV (⟨2, ⟨#[]⟩, (V : Int)⟩, 0), .int .i64 (s.size : Int), .int .i64 0]) (by simp [results, Tryz.results117, go_sem, hc, tokV]) rfl
         (IsNx.of ⟨2, ⟨#[]⟩, (V : Int)⟩ s.size 0 rfl (by rw [HT.out]) (fun _ => ⟨by rw [HT.out], by rw [HT.out]; rfl⟩) (((((hbel0.trans (hb.mono (by simp))).setCell (Nat.le_refl _) _).setCell (Nat.le_refl _) _).setCell (Nat.le_refl _) _).setCell (Nat.le_refl _) _))
       ·have HT : Hid (T = (0, 0, 1)) := by
         have h := HE2.out
         rw [if_pos (by omega)] at h
         exact h
        have HA := Lib.hid hA
        clear HE2 hA
        have hv2 : (1073741824 : Int) < (V : Int) := by omega
        go_wp2_with (first | (go_at_call 145; refine (WS.out _).mono ?_; rintro e w1 ⟨rfl, rfl⟩) | (go_at_call 146; refine (AOK.out _ HA.out _).mono ?_; rintro e w1 ⟨rfl, hb⟩; obtain ⟨hc, hf⟩ := bcell hb; have hsz : w.heap.size < w1.heap.size := (by have := hb.size; simp at this; omega)))
        exact bodyPost_ret (v := .tuple #[tokV (noT, 0), .int .i64 0, .int .i64 1]) (by simp [results, Tryz.results117, go_sem, hc, tokV, noT]) rfl
         (IsNx.of noT 0 1 rfl (by rw [HT.out]) (fun h => by rw [HT.out] at h; cases h) (((((hbel0.trans (hb.mono (by simp))).setCell (Nat.le_refl _) _).setCell (Nat.le_refl _) _).setCell (Nat.le_refl _) _).setCell (Nat.le_refl _) _))
       ·have HT : Hid (T = (0, 0, 1)) := by
         have h := HE2.out
         rw [if_pos (by omega)] at h
         exact h
        have HA := Lib.hid hA
        clear HE2 hA
        go_wp2_with (first | (go_at_call 145; refine (WS.out _).mono ?_; rintro e w1 ⟨rfl, rfl⟩) | (go_at_call 146; refine (ABAD.out HA.out _ hbel0).mono ?_; rintro e w1 ⟨zz, tt, pp, rfl, hb⟩; obtain ⟨hc, hf⟩ := bcell hb; have hsz : w.heap.size < w1.heap.size := (by have := hb.size; simp at this; omega)))
        exact bodyPost_ret (v := .tuple #[tokV (noT, 0), .int .i64 0, .int .i64 1]) (by simp [results, Tryz.results117, go_sem, hc, tokV, noT]) rfl
         (IsNx.of noT 0 1 rfl (by rw [HT.out]) (fun h => by rw [HT.out] at h; cases h) (((((hbel0.trans (hb.mono (by simp))).setCell (Nat.le_refl _) _).setCell (Nat.le_refl _) _).setCell (Nat.le_refl _) _).setCell (Nat.le_refl _) _))
end Go.Proofs.YtmdpjahhhfajaaaGreatDoor
namespace Wh
open Go Go.Proofs.YtmdpjahhhfajaaaGreatDoor
def litAt (s : ByteArray) (i : Nat) : Nat := match litL ((bts s).drop i) with | none => 0 | some p => i + p.2
theorem litAt_end {s : ByteArray} {i : Nat} (h : s.size ≤ i) : litAt s i = 0 := by
 unfold litAt
 rw [List.drop_of_length_le (by rw [bts_length]; exact h)]
 rfl
theorem litAt_byte {s : ByteArray} {i : Nat} (h : i < s.size) (hb : ¬ btN s i = 39) : litAt s i = litAt s (i + 1) := by
 obtain ⟨x, e, hx⟩ := drop_at h
 unfold litAt
 rw [e, litL_byte (by rintro rfl; exact hb (by rw [← hx]; rfl))]
 cases litL ((bts s).drop (i + 1)) with
 | none => rfl
 | some p => simp only [Option.map_some]; omega
theorem litAt_pair {s : ByteArray} {i : Nat} (h : i + 1 < s.size) (hb : btN s i = 39) (hb2 : btN s (i + 1) = 39) : litAt s i = litAt s (i + 2) := by
 obtain ⟨x, e, hx⟩ := drop_at (s := s) (i := i) (by omega)
 obtain ⟨y, e2, hy⟩ := drop_at h
 obtain rfl : x = 39 := UInt8.toNat_inj.1 (by rw [hx, hb]; rfl)
 obtain rfl : y = 39 := UInt8.toNat_inj.1 (by rw [hy, hb2]; rfl)
 unfold litAt
 rw [e, e2, litL_pair]
 cases litL ((bts s).drop (i + 1 + 1)) with
 | none => rfl
 | some p => simp only [Option.map_some]; omega
theorem litAt_stop {s : ByteArray} {i : Nat} (h : i < s.size) (hb : btN s i = 39) (hb2 : i + 1 = s.size ∨ ¬ btN s (i + 1) = 39) : litAt s i = i + 1 := by
 obtain ⟨x, e, hx⟩ := drop_at h
 obtain rfl : x = 39 := UInt8.toNat_inj.1 (by rw [hx, hb]; rfl)
 unfold litAt
 rw [e, litL_stop]
 intro y hy
 rintro rfl
 rw [List.getElem?_drop, Nat.add_zero] at hy
 have hlt := (List.getElem?_eq_some_iff.1 hy).1
 rw [bts_length] at hlt
 rcases hb2 with hb2 | hb2
 ·omega
 ·rw [btN_of hy] at hb2
  exact hb2 rfl
theorem litO_none {s : ByteArray} (h : litAt s 1 = 0) : litO s = (3, [], 0) := by
 unfold litAt at h
 unfold litO
 cases hl : litL ((bts s).drop 1) with
 | none => rfl
 | some p => rw [hl] at h; simp only at h; omega
theorem litO_some {s : ByteArray} {E : Nat} (h : litAt s 1 = E) (h0 : ¬ E = 0) : 2 ≤ E ∧ E ≤ s.size ∧ litO s = (if 64 < (unp (bts (s.extract 1 (E - 1)))).length then (2, [], 0) else (0, unp (bts (s.extract 1 (E - 1))), E)) := by
 unfold litAt at h
 unfold litO
 cases hl : litL ((bts s).drop 1) with
 | none => rw [hl] at h; exact absurd h.symm h0
 | some p =>
  rw [hl] at h
  simp only at h ⊢
  obtain ⟨a, b, c, _⟩ := litL_facts _ _ (Nat.le_refl _) p.1 p.2 hl
  rw [List.length_drop, bts_length] at b
  have e : unp (bts (s.extract 1 (E - 1))) = p.1 := by
   rw [bts_extract, show E - 1 - 1 = p.2 - 1 by omega]
   exact c
  rw [e]
  refine ⟨by omega, by omega, ?_⟩
  split
  ·rfl
  ·rw [show p.2 + 1 = E by omega]
end Wh
namespace Go.Proofs.YtmdpjahhhfajaaaGreatDoor
open Go.RowKit Wh
set_option maxHeartbeats 1000000 in
theorem literalSize_any (s : ByteArray) (hs : s.size ≤ 1000000) (hp : 0 < s.size) (w : World) : Calls Tryz.prog 147 #[.string s] w fun e w' => e = .returned (.int .i64 (litAt s 1)) ∧ w = w' := by
 obtain ⟨E, hE⟩ : ∃ E, litAt s 1 = E := ⟨_, rfl⟩
 rw [hE]
 have HE0 := Lib.hid hE
 clear hE
 go_enter Tryz.func147, Tryz.ntmps147
 go_wp2_with fail
 go_loop [3] (fun iv => ∃ k : Nat, 1 ≤ k ∧ k ≤ s.size ∧ iv = .int .i64 k ∧ Hid (litAt s k = E)) (fun i => s.size - (intOf i).toNat)
 case atStart => exact ⟨1, Nat.le_refl _, hp, rfl, HE0⟩
 case round =>
  obtain ⟨k, hk1, hk, rfl, HE⟩ := hrel
  clear HE0
  by_cases hlt : k < s.size
  ·have ix := fun W => index_str s k hlt W
   by_cases hb : btN s k = 39
   ·by_cases hl : k + 1 < s.size
    ·have ix1 : ∀ W, (Instr.index 9 (.string s) (.int .i64 ((k : Int) + 1))).run Tryz.prog W = .ok (.int .u8 (btN s (k + 1))) W := fun W => by
      have := index_str s (k + 1) hl W
      rw [show ((k + 1 : Nat) : Int) = (k : Int) + 1 by omega] at this
      exact this
     have e1 : ((k : Int) + 1 == (s.size : Int)) = false := by simp; omega
     by_cases hb2 : btN s (k + 1) = 39
     ·have HE2 := Lib.hid ((litAt_pair hl hb hb2).symm.trans HE.out)
      rw [hb] at ix
      rw [hb2] at ix1
      clear HE hb hb2
      go_wp2_with fail
      go_round
      case rel => exact ⟨k + 2, by omega, by omega, by go_num, HE2⟩
      case measure => simp [intOf]; omega
     ·have HE2 := (litAt_stop hlt hb (.inr hb2)).symm.trans HE.out
      subst HE2
      rw [hb] at ix
      have e2 : ((btN s (k + 1) : Int) != 39) = true := by simp; omega
      generalize btN s (k + 1) = c1 at *
      clear HE hb hb2
      go_wp2_with fail
      go_ret
      exact ⟨ret_int (by omega), rfl⟩
    ·have e1 : ((k : Int) + 1 == (s.size : Int)) = true := by simp; omega
     have HE2 := (litAt_stop hlt hb (.inl (by omega))).symm.trans HE.out
     subst HE2
     rw [hb] at ix
     clear HE hb
     go_wp2_with fail
     go_ret
     exact ⟨ret_int (by omega), rfl⟩
   ·have HE2 := Lib.hid ((litAt_byte hlt hb).symm.trans HE.out)
    have e2 : ((btN s k : Int) != 39) = true := by simp; omega
    generalize btN s k = c at *
    clear HE hb
    go_wp2_with fail
    go_round
    case rel => exact ⟨k + 1, by omega, by omega, by go_num, HE2⟩
    case measure => simp [intOf]; omega
  ·have HE2 := (litAt_end (s := s) (i := k) (by omega)).symm.trans HE.out
   subst HE2
   clear HE
   go_wp2_with fail
   go_ret
   exact ⟨rfl, rfl⟩
set_option maxHeartbeats 2000000 in
theorem readText_any (s : ByteArray) (hs : s.size ≤ 1000000) (hp : 0 < s.size) (h0 : btN s 0 = 39) (w : World) (hg : Glo w) : Calls Tryz.prog 118 #[.string s] w (IsNx (nx s) w) := by
 rw [nx_lit h0]
 have LS := Lib.hid (literalSize_any s hs hp)
 obtain ⟨E, hE⟩ : ∃ E, litAt s 1 = E := ⟨_, rfl⟩
 rw [hE] at LS
 have hbel0 : Below w.heap.size w (w.alloc (.cells #[.int .i64 0, .string ⟨#[]⟩, .int .i64 0, .int .i64 0] 71)) := (Below.refl _ _).alloc (Nat.le_refl _) _
 by_cases hz : E = 0
 ·subst hz
  rw [litO_none hE]
  clear hE
  go_enter Tryz.func118, Tryz.ntmps118
  go_wp2_with fail
  refine (LS.out _).mono ?_
  rintro e w1 ⟨rfl, rfl⟩
  go_wp2_with fail
  exact bodyPost_ret (v := .tuple #[tokV (noT, 0), .int .i64 0, .int .i64 3]) (by simp [results, Tryz.results118, go_sem, tokV, noT]) rfl
   (IsNx.of noT 0 3 rfl rfl (fun h => by cases h) hbel0)
 ·obtain ⟨h2, h3, hO⟩ := litO_some hE hz
  have sl : ∀ W, (Instr.slice 9 (.string s) (some (.int .i64 1)) (some (.int .i64 ((E : Int) - 1))) none).run Tryz.prog W = .ok (.string (s.extract 1 (E - 1))) W := fun W => by
   have := slice_str s 1 (E - 1) (by omega) (by omega) W
   rw [show ((E - 1 : Nat) : Int) = (E : Int) - 1 by omega] at this
   exact this
  have hx : (s.extract 1 (E - 1)).size ≤ 1000000 := by rw [size_extract (by omega) (by omega)]; omega
  have U := Lib.hid (fun W (hW : Below w.heap.size w W) => unp_any (s.extract 1 (E - 1)) hx W (hg.next hW))
  rw [hO]
  clear hO hE hx
  generalize s.extract 1 (E - 1) = t0 at *
  generalize unp (bts t0) = c at *
  have hsz : Hid ((⟨c.toArray⟩ : ByteArray).size = c.length) := by show c.toArray.size = c.length; simp
  have UU : Hid (∀ W, Below w.heap.size w W → Calls Tryz.prog 148 #[.string t0, .string ⟨#[39, 39]⟩, .string ⟨#[39]⟩] W fun e w' => e = .returned (.string ⟨c.toArray⟩) ∧ Below W.heap.size W w') := U.out
  clear U
  generalize hT : (⟨c.toArray⟩ : ByteArray) = tx at *
  have HT := Lib.hid hT
  clear hT
  have hE0 : ((E : Int) == 0) = false := by simp; omega
  by_cases h64 : 64 < c.length
  ·rw [if_pos h64]
   have h64' : (64 : Int) < (tx.size : Int) := by have := hsz.out; omega
   go_enter Tryz.func118, Tryz.ntmps118
   go_wp2_with fail
   refine (LS.out _).mono ?_
   rintro e w1 ⟨rfl, rfl⟩
   go_wp2_with fail
   refine (UU.out _ hbel0).mono ?_
   rintro e w1 ⟨rfl, hb⟩
   obtain ⟨hc, hf⟩ := bcell hb
   have hsz1 : w.heap.size < w1.heap.size := by have := hb.size; simp at this; omega
   go_wp2_with fail
   exact bodyPost_ret (v := .tuple #[tokV (noT, 0), .int .i64 0, .int .i64 2]) (by simp [results, Tryz.results118, go_sem, hc, tokV, noT]) rfl
    (IsNx.of noT 0 2 rfl rfl (fun h => by cases h) (((((hbel0.trans (hb.mono (by simp))).setCell (Nat.le_refl _) _).setCell (Nat.le_refl _) _).setCell (Nat.le_refl _) _).setCell (Nat.le_refl _) _))
  ·rw [if_neg h64]
   have h64' : ¬ (64 : Int) < (tx.size : Int) := by have := hsz.out; omega
   go_enter Tryz.func118, Tryz.ntmps118
   go_wp2_with fail
   refine (LS.out _).mono ?_
   rintro e w1 ⟨rfl, rfl⟩
   go_wp2_with fail
   refine (UU.out _ hbel0).mono ?_
   rintro e w1 ⟨rfl, hb⟩
   obtain ⟨hc, hf⟩ := bcell hb
   have hsz1 : w.heap.size < w1.heap.size := by have := hb.size; simp at this; omega
   go_wp2_with fail
   exact bodyPost_ret (v := .tuple #[tokV (⟨3, tx, 0⟩, 0), .int .i64 (E : Int), .int .i64 0]) (by simp [results, Tryz.results118, go_sem, hc, tokV]) rfl
    (IsNx.of ⟨3, tx, 0⟩ E 0 rfl rfl (fun _ => ⟨by rw [HT.out], rfl⟩) (((((hbel0.trans (hb.mono (by simp))).setCell (Nat.le_refl _) _).setCell (Nat.le_refl _) _).setCell (Nat.le_refl _) _).setCell (Nat.le_refl _) _))
end Go.Proofs.YtmdpjahhhfajaaaGreatDoor
namespace Wh
open Go Go.Proofs.YtmdpjahhhfajaaaGreatDoor
end Wh
namespace Go.Proofs.YtmdpjahhhfajaaaGreatDoor
open Go.RowKit Wh
end Go.Proofs.YtmdpjahhhfajaaaGreatDoor
namespace Go.Proofs.YtmdpjahhhfajaaaGreatDoor
open Go.RowKit Wh
def TwoAt7 (w : World) (b : Nat) : Prop := b < w.heap.size ∧ ∀ i, i < 4 → w.cell? ⟨b, i, none⟩ = some (.string (twoL i))
theorem TwoAt7.next {w w' : World} {b : Nat} (h : TwoAt7 w b) (hb : Below w.heap.size w w') : TwoAt7 w' b :=
 ⟨Nat.lt_of_lt_of_le h.1 hb.size, fun i hi => by rw [hb.cell (p := ⟨b, i, none⟩) h.1]; exact h.2 i hi⟩
end Go.Proofs.YtmdpjahhhfajaaaGreatDoor
namespace Wh
open Go Go.Proofs.YtmdpjahhhfajaaaGreatDoor
end Wh
namespace Go.Proofs.YtmdpjahhhfajaaaGreatDoor
open Go.RowKit Wh
end Go.Proofs.YtmdpjahhhfajaaaGreatDoor
namespace Go.Proofs.YtmdpjahhhfajaaaGreatDoor
open Go.RowKit Wh
end Go.Proofs.YtmdpjahhhfajaaaGreatDoor
