/-
  readName and readInt, of package token.
-/
import Derived.Test.YtmdpjahhhfajaaaGreatDoorJC06
import Derived.Test.YtmdpjahhhfajaaaGreatDoorJC07
import Derived.OwnWalk
set_option linter.unusedVariables false
set_option maxRecDepth 100000
namespace Wh
open Go Go.Proofs.YtmdpjahhhfajaaaGreatDoor
theorem qual_name {s : ByteArray} {n : Nat} (hn : spanN wordB s = n) (h1 : 1 ≤ n) (h0 : lowB (btN s 0) = true) : qualB (s.extract 0 n) = decide (n ≤ 24) :=
 qual_one (by rw [← hn]; exact spanN_le _ _) h1 h0 fun j hj => span_all (by omega)
theorem qual_names {s : ByteArray} {n k : Nat} (hn : spanN wordB s = n) (h1 : 1 ≤ n) (h0 : lowB (btN s 0) = true) (hl : n + 1 < s.size) (hd : btN s n = 46) (h3 : lowB (btN s (n + 1)) = true) (hk : spanN wordB (s.extract (n + 1) s.size) = k) :
  qualB (s.extract 0 (n + 1 + k)) = (decide (n ≤ 24) && decide (k ≤ 24)) ∧ 1 ≤ k ∧ n + 1 + k ≤ s.size := by
 have hs : (s.extract (n + 1) s.size).size = s.size - (n + 1) := size_extract (by omega) (Nat.le_refl _)
 have h4 := spanN_le wordB (s.extract (n + 1) s.size)
 have hb : ∀ j, j < s.size - (n + 1) → btN (s.extract (n + 1) s.size) j = btN s (n + 1 + j) := fun j hj => btN_extract s (n + 1) s.size j hj
 have h5 := spanN_pos (p := wordB) (s := s.extract (n + 1) s.size) (by omega) (by rw [hb 0 (by omega)]; exact low_word h3)
 refine ⟨qual_two (by omega) h1 h0 (fun j hj => span_all (by omega)) hd (by omega) h3 fun j hj => ?_, by omega, by omega⟩
 rw [← hb j (by omega)]
 exact span_all (by omega)
end Wh
namespace Go.Proofs.YtmdpjahhhfajaaaGreatDoor
open Go.RowKit Wh
def IsNx (o : Int × Tk × Nat) (w : World) (e : Ending) (w' : World) : Prop :=
 ∃ (t : Tk) (n : Nat), e = .returned (.tuple #[tokV (t, 0), .int .i64 n, .int .i64 o.1]) ∧ (o.1 = 0 → t = o.2.1 ∧ n = o.2.2) ∧ Below w.heap.size w w'
theorem IsNx.of {o : Int × Tk × Nat} {w w' : World} {e : Ending} (t : Tk) (n : Nat) (x : Int) (he : e = .returned (.tuple #[tokV (t, 0), .int .i64 n, .int .i64 x])) (hx : o.1 = x) (h : o.1 = 0 → t = o.2.1 ∧ n = o.2.2) (hb : Below w.heap.size w w') : IsNx o w e w' := ⟨t, n, by rw [he, hx], h, hb⟩
set_option maxHeartbeats 2000000 in
theorem readName_any (s : ByteArray) (hs : s.size ≤ 1000000) (hp : 0 < s.size) (h0 : lowB (btN s 0) = true) (w : World) : Calls Tryz.prog 115 #[.string s] w (IsNx (nx s) w) := by
 rw [nx_name h0]
 have hn := spanN_le wordB s
 have hn1 := spanN_pos (p := wordB) hp (low_word h0)
 obtain ⟨n, hN⟩ : ∃ n, spanN wordB s = n := ⟨_, rfl⟩
 rw [hN] at hn hn1
 have W1 := Lib.hid (wordSize_any s (by omega))
 rw [hN] at W1
 have sl1 := fun W => slice_str_from s n hn W
 have hr : (s.extract n s.size).size = s.size - n := size_extract hn (Nat.le_refl _)
 have hrb : ∀ j, j < s.size - n → btN (s.extract n s.size) j = btN s (n + j) := fun j hj => btN_extract s n s.size j hj
 by_cases hc : n + 1 < s.size ∧ btN s n = 46 ∧ lowB (btN s (n + 1)) = true
 ·obtain ⟨hl, hd, hlow⟩ := hc
  obtain ⟨k, hK⟩ : ∃ k, spanN wordB (s.extract (n + 1) s.size) = k := ⟨_, rfl⟩
  obtain ⟨hq, hk1, hm⟩ := qual_names hN hn1 h0 hl hd hlow hK
  have hO : Hid ((nameT s) = if 24 < n then (0, 4) else if 24 < k then (0, 4) else ((n : Int) + (1 + (k : Int)), 0)) := by
   show _ = _
   unfold nameT
   rw [hN, hK, if_pos (⟨hl, hd, hlow⟩ : n + 1 < s.size ∧ btN s n = 46 ∧ lowB (btN s (n + 1)) = true)]
  have e2 : (1 : Int) < ((s.extract n s.size).size : Int) := by rw [hr]; omega
  have ix0 : ∀ W, (Instr.index 9 (.string (s.extract n s.size)) (.int .i64 0)).run Tryz.prog W = .ok (.int .u8 46) W := fun W => by
   have := index_str (s.extract n s.size) 0 (by omega) W
   rw [hrb 0 (by omega), Nat.add_zero, hd] at this
   exact this
  have ix1 : ∀ W, (Instr.index 9 (.string (s.extract n s.size)) (.int .i64 1)).run Tryz.prog W = .ok (.int .u8 (btN s (n + 1))) W := fun W => by
   have := index_str (s.extract n s.size) 1 (by omega) W
   rw [hrb 1 (by omega)] at this
   exact this
  have L := Lib.hid (fun W => tisLetter_any (btN s (n + 1)) W)
  rw [hlow] at L
  have sl2 : ∀ W, (Instr.slice 9 (.string (s.extract n s.size)) (some (.int .i64 1)) none none).run Tryz.prog W = .ok (.string (s.extract (n + 1) s.size)) W := fun W => by
   have := slice_str_from (s.extract n s.size) 1 (by omega) W
   rw [hr, extract_extract s n s.size 1 (s.size - n) (Nat.le_refl _), show n + (s.size - n) = s.size by omega] at this
   exact this
  have hr2 : (s.extract (n + 1) s.size).size = s.size - (n + 1) := size_extract (by omega) (Nat.le_refl _)
  have W2 := Lib.hid (wordSize_any (s.extract (n + 1) s.size) (by omega))
  rw [hK] at W2
  have sl3 : ∀ W, (Instr.slice 9 (.string s) none (some (.int .i64 ((n : Int) + (1 + (k : Int))))) none).run Tryz.prog W = .ok (.string (s.extract 0 (n + 1 + k))) W := fun W => by
   have := slice_str_to s (n + 1 + k) hm W
   rw [show ((n + 1 + k : Nat) : Int) = (n : Int) + (1 + (k : Int)) by omega] at this
   exact this
  have hq2 : (s.extract 0 (n + 1 + k)).size ≤ 9223372036854775800 := by rw [size_extract (by omega) hm]; omega
  have Q := Lib.hid (fun W => isQualified_any (s.extract 0 (n + 1 + k)) hq2 W)
  rw [hq] at Q
  have hT : Hid (s.extract 0 ((n : Int) + (1 + (k : Int))).toNat = s.extract 0 (n + 1 + k)) := by
   show _ = _
   rw [show ((n : Int) + (1 + (k : Int))).toNat = n + 1 + k by omega]
  clear hq2 hq hrb hr2 hK
  generalize s.extract 0 (n + 1 + k) = nm at *
  generalize s.extract (n + 1) s.size = r2 at *
  generalize s.extract n s.size = r1 at *
  generalize btN s (n + 1) = c1 at *
  clear hr hd hlow hN
  by_cases hok : n ≤ 24 ∧ k ≤ 24
  ·rw [decide_eq_true hok.1, decide_eq_true hok.2] at Q
   have hE := hO.out
   rw [if_neg (by omega), if_neg (by omega)] at hE
   rw [hE]
   clear hO hE
   go_enter Tryz.func115, Tryz.ntmps115
   go_wp2_with fail
   refine (W1.out _).mono ?_
   rintro e w1 ⟨rfl, rfl⟩
   go_wp2_with fail
   refine (L.out _).mono ?_
   rintro e w1 ⟨rfl, rfl⟩
   go_wp2_with fail
   refine (W2.out _).mono ?_
   rintro e w1 ⟨rfl, rfl⟩
   go_wp2_with fail
   refine (Q.out _).mono ?_
   rintro e w1 ⟨rfl, hb⟩
   obtain ⟨hc, hf⟩ := bcell hb
   have hsz : w.heap.size < w1.heap.size := by have := hb.size; simp at this; omega
   go_wp2_with fail
   exact bodyPost_ret (v := .tuple #[tokV (⟨1, nm, 0⟩, 0), .int .i64 ((n : Int) + (1 + (k : Int))), .int .i64 0]) (by simp [results, Tryz.results115, go_sem, hc, tokV]) rfl
    (IsNx.of ⟨1, nm, 0⟩ (n + 1 + k) 0 (by rw [show ((n + 1 + k : Nat) : Int) = (n : Int) + (1 + (k : Int)) by omega]) rfl (fun _ => ⟨by rw [hT.out], by show _ = ((n : Int) + (1 + (k : Int))).toNat; omega⟩)
     ((((((Below.refl _ w).alloc (Nat.le_refl _) _).trans (hb.mono (by simp))).setCell (Nat.le_refl _) _).setCell (Nat.le_refl _) _).setCell (Nat.le_refl _) _ |>.setCell (Nat.le_refl _) _))
  ·have hdd : (decide (n ≤ 24) && decide (k ≤ 24)) = false := by
    rw [Bool.and_eq_false_iff]
    by_cases h : n ≤ 24
    ·exact .inr (decide_eq_false fun h2 => hok ⟨h, h2⟩)
    ·exact .inl (decide_eq_false h)
   rw [hdd] at Q
   have hE : (nameT s) = (0, 4) := by
    rw [hO.out]
    by_cases h : 24 < n
    ·rw [if_pos h]
    ·rw [if_neg h, if_pos (by omega)]
   rw [hE]
   clear hO hE hok hdd
   go_enter Tryz.func115, Tryz.ntmps115
   go_wp2_with fail
   refine (W1.out _).mono ?_
   rintro e w1 ⟨rfl, rfl⟩
   go_wp2_with fail
   refine (L.out _).mono ?_
   rintro e w1 ⟨rfl, rfl⟩
   go_wp2_with fail
   refine (W2.out _).mono ?_
   rintro e w1 ⟨rfl, rfl⟩
   go_wp2_with fail
   refine (Q.out _).mono ?_
   rintro e w1 ⟨rfl, hb⟩
   obtain ⟨hc, hf⟩ := bcell hb
   have hsz : w.heap.size < w1.heap.size := by have := hb.size; simp at this; omega
   go_wp2_with fail
   exact bodyPost_ret (v := .tuple #[tokV (noT, 0), .int .i64 0, .int .i64 4]) (by simp [results, Tryz.results115, go_sem, hc, tokV, noT]) rfl
    (IsNx.of noT 0 4 rfl rfl (fun h => by cases h)
     ((((((Below.refl _ w).alloc (Nat.le_refl _) _).trans (hb.mono (by simp))).setCell (Nat.le_refl _) _).setCell (Nat.le_refl _) _).setCell (Nat.le_refl _) _ |>.setCell (Nat.le_refl _) _))
 ·have hO : Hid (nameT s = if 24 < n then (0, 4) else ((n : Int), 0)) := by
   show _ = _
   unfold nameT
   rw [hN]
   by_cases h : 24 < n
   ·rw [if_pos h, if_pos h]
   ·rw [if_neg h, if_neg h, if_neg hc]
  have sl3 := fun W => slice_str_to s n hn W
  have hq2 : (s.extract 0 n).size ≤ 9223372036854775800 := by rw [size_extract (by omega) hn]; omega
  have Q := Lib.hid (fun W => isQualified_any (s.extract 0 n) hq2 W)
  rw [qual_name hN hn1 h0] at Q
  have hT : Hid (s.extract 0 (n : Int).toNat = s.extract 0 n) := rfl
  clear hq2
  generalize s.extract 0 n = nm at *
  by_cases h24 : n ≤ 24
  ·rw [decide_eq_true h24] at Q
   have hE := hO.out
   rw [if_neg (by omega)] at hE
   rw [hE]
   clear hO hE
   by_cases hl : n + 1 < s.size
   ·have e2 : (1 : Int) < ((s.extract n s.size).size : Int) := by rw [hr]; omega
    have ix0 : ∀ W, (Instr.index 9 (.string (s.extract n s.size)) (.int .i64 0)).run Tryz.prog W = .ok (.int .u8 (btN s n)) W := fun W => by
     have := index_str (s.extract n s.size) 0 (by omega) W
     rw [hrb 0 (by omega), Nat.add_zero] at this
     exact this
    by_cases hd : btN s n = 46
    ·have hlow : lowB (btN s (n + 1)) = false := by
      cases hx : lowB (btN s (n + 1)) with
      | false => rfl
      | true => exact absurd ⟨hl, hd, hx⟩ hc
     rw [hd] at ix0
     have ix1 : ∀ W, (Instr.index 9 (.string (s.extract n s.size)) (.int .i64 1)).run Tryz.prog W = .ok (.int .u8 (btN s (n + 1))) W := fun W => by
      have := index_str (s.extract n s.size) 1 (by omega) W
      rw [hrb 1 (by omega)] at this
      exact this
     have L := Lib.hid (fun W => tisLetter_any (btN s (n + 1)) W)
     rw [hlow] at L
     clear hlow hd hc hr hrb hN
     generalize s.extract n s.size = r1 at *
     generalize btN s (n + 1) = c1 at *
     go_enter Tryz.func115, Tryz.ntmps115
     go_wp2_with fail
     refine (W1.out _).mono ?_
     rintro e w1 ⟨rfl, rfl⟩
     go_wp2_with (first | (go_at_call 114; refine (L.out _).mono ?_; rintro e w1 ⟨rfl, rfl⟩) | (go_at_call 86; refine (Q.out _).mono ?_; rintro e w1 ⟨rfl, hb⟩; obtain ⟨hc, hf⟩ := bcell hb; have hsz : w.heap.size < w1.heap.size := (by have := hb.size; simp at this; omega)))
     exact bodyPost_ret (v := .tuple #[tokV (⟨1, nm, 0⟩, 0), .int .i64 (n : Int), .int .i64 0]) (by simp [results, Tryz.results115, go_sem, hc, tokV]) rfl
      (IsNx.of ⟨1, nm, 0⟩ n 0 rfl rfl (fun _ => ⟨by rw [hT.out], rfl⟩)
       ((((((Below.refl _ w).alloc (Nat.le_refl _) _).trans (hb.mono (by simp))).setCell (Nat.le_refl _) _).setCell (Nat.le_refl _) _).setCell (Nat.le_refl _) _ |>.setCell (Nat.le_refl _) _))
    ·have e46 : ((btN s n : Int) == 46) = false := by simp; omega
     have L : Hid True := trivial
     clear hd hc hr hrb hN
     generalize s.extract n s.size = r1 at *
     generalize btN s n = c1 at *
     go_enter Tryz.func115, Tryz.ntmps115
     go_wp2_with fail
     refine (W1.out _).mono ?_
     rintro e w1 ⟨rfl, rfl⟩
     go_wp2_with (first | (go_at_call 86; refine (Q.out _).mono ?_; rintro e w1 ⟨rfl, hb⟩; obtain ⟨hc, hf⟩ := bcell hb; have hsz : w.heap.size < w1.heap.size := (by have := hb.size; simp at this; omega)))
     exact bodyPost_ret (v := .tuple #[tokV (⟨1, nm, 0⟩, 0), .int .i64 (n : Int), .int .i64 0]) (by simp [results, Tryz.results115, go_sem, hc, tokV]) rfl
      (IsNx.of ⟨1, nm, 0⟩ n 0 rfl rfl (fun _ => ⟨by rw [hT.out], rfl⟩)
       ((((((Below.refl _ w).alloc (Nat.le_refl _) _).trans (hb.mono (by simp))).setCell (Nat.le_refl _) _).setCell (Nat.le_refl _) _).setCell (Nat.le_refl _) _ |>.setCell (Nat.le_refl _) _))
   ·have e2 : ¬ (1 : Int) < ((s.extract n s.size).size : Int) := by rw [hr]; omega
    clear hc hr hrb hN
    generalize s.extract n s.size = r1 at *
    go_enter Tryz.func115, Tryz.ntmps115
    go_wp2_with fail
    refine (W1.out _).mono ?_
    rintro e w1 ⟨rfl, rfl⟩
    go_wp2_with (first | (go_at_call 86; refine (Q.out _).mono ?_; rintro e w1 ⟨rfl, hb⟩; obtain ⟨hc, hf⟩ := bcell hb; have hsz : w.heap.size < w1.heap.size := (by have := hb.size; simp at this; omega)))
    exact bodyPost_ret (v := .tuple #[tokV (⟨1, nm, 0⟩, 0), .int .i64 (n : Int), .int .i64 0]) (by simp [results, Tryz.results115, go_sem, hc, tokV]) rfl
     (IsNx.of ⟨1, nm, 0⟩ n 0 rfl rfl (fun _ => ⟨by rw [hT.out], rfl⟩)
      ((((((Below.refl _ w).alloc (Nat.le_refl _) _).trans (hb.mono (by simp))).setCell (Nat.le_refl _) _).setCell (Nat.le_refl _) _).setCell (Nat.le_refl _) _ |>.setCell (Nat.le_refl _) _))
  ·rw [decide_eq_false h24] at Q
   have hE := hO.out
   rw [if_pos (by omega)] at hE
   rw [hE]
   clear hO hE
   by_cases hl : n + 1 < s.size
   ·have e2 : (1 : Int) < ((s.extract n s.size).size : Int) := by rw [hr]; omega
    have ix0 : ∀ W, (Instr.index 9 (.string (s.extract n s.size)) (.int .i64 0)).run Tryz.prog W = .ok (.int .u8 (btN s n)) W := fun W => by
     have := index_str (s.extract n s.size) 0 (by omega) W
     rw [hrb 0 (by omega), Nat.add_zero] at this
     exact this
    by_cases hd : btN s n = 46
    ·have hlow : lowB (btN s (n + 1)) = false := by
      cases hx : lowB (btN s (n + 1)) with
      | false => rfl
      | true => exact absurd ⟨hl, hd, hx⟩ hc
     rw [hd] at ix0
     have ix1 : ∀ W, (Instr.index 9 (.string (s.extract n s.size)) (.int .i64 1)).run Tryz.prog W = .ok (.int .u8 (btN s (n + 1))) W := fun W => by
      have := index_str (s.extract n s.size) 1 (by omega) W
      rw [hrb 1 (by omega)] at this
      exact this
     have L := Lib.hid (fun W => tisLetter_any (btN s (n + 1)) W)
     rw [hlow] at L
     clear hlow hd hc hr hrb hN
     generalize s.extract n s.size = r1 at *
     generalize btN s (n + 1) = c1 at *
     go_enter Tryz.func115, Tryz.ntmps115
     go_wp2_with fail
     refine (W1.out _).mono ?_
     rintro e w1 ⟨rfl, rfl⟩
     go_wp2_with (first | (go_at_call 114; refine (L.out _).mono ?_; rintro e w1 ⟨rfl, rfl⟩) | (go_at_call 86; refine (Q.out _).mono ?_; rintro e w1 ⟨rfl, hb⟩; obtain ⟨hc, hf⟩ := bcell hb; have hsz : w.heap.size < w1.heap.size := (by have := hb.size; simp at this; omega)))
     exact bodyPost_ret (v := .tuple #[tokV (noT, 0), .int .i64 0, .int .i64 4]) (by simp [results, Tryz.results115, go_sem, hc, tokV, noT]) rfl
      (IsNx.of noT 0 4 rfl rfl (fun h => by cases h)
       ((((((Below.refl _ w).alloc (Nat.le_refl _) _).trans (hb.mono (by simp))).setCell (Nat.le_refl _) _).setCell (Nat.le_refl _) _).setCell (Nat.le_refl _) _ |>.setCell (Nat.le_refl _) _))
    ·have e46 : ((btN s n : Int) == 46) = false := by simp; omega
     have L : Hid True := trivial
     clear hd hc hr hrb hN
     generalize s.extract n s.size = r1 at *
     generalize btN s n = c1 at *
     go_enter Tryz.func115, Tryz.ntmps115
     go_wp2_with fail
     refine (W1.out _).mono ?_
     rintro e w1 ⟨rfl, rfl⟩
     go_wp2_with (first | (go_at_call 86; refine (Q.out _).mono ?_; rintro e w1 ⟨rfl, hb⟩; obtain ⟨hc, hf⟩ := bcell hb; have hsz : w.heap.size < w1.heap.size := (by have := hb.size; simp at this; omega)))
     exact bodyPost_ret (v := .tuple #[tokV (noT, 0), .int .i64 0, .int .i64 4]) (by simp [results, Tryz.results115, go_sem, hc, tokV, noT]) rfl
      (IsNx.of noT 0 4 rfl rfl (fun h => by cases h)
       ((((((Below.refl _ w).alloc (Nat.le_refl _) _).trans (hb.mono (by simp))).setCell (Nat.le_refl _) _).setCell (Nat.le_refl _) _).setCell (Nat.le_refl _) _ |>.setCell (Nat.le_refl _) _))
   ·have e2 : ¬ (1 : Int) < ((s.extract n s.size).size : Int) := by rw [hr]; omega
    clear hc hr hrb hN
    generalize s.extract n s.size = r1 at *
    go_enter Tryz.func115, Tryz.ntmps115
    go_wp2_with fail
    refine (W1.out _).mono ?_
    rintro e w1 ⟨rfl, rfl⟩
    go_wp2_with (first | (go_at_call 86; refine (Q.out _).mono ?_; rintro e w1 ⟨rfl, hb⟩; obtain ⟨hc, hf⟩ := bcell hb; have hsz : w.heap.size < w1.heap.size := (by have := hb.size; simp at this; omega)))
    exact bodyPost_ret (v := .tuple #[tokV (noT, 0), .int .i64 0, .int .i64 4]) (by simp [results, Tryz.results115, go_sem, hc, tokV, noT]) rfl
     (IsNx.of noT 0 4 rfl rfl (fun h => by cases h)
      ((((((Below.refl _ w).alloc (Nat.le_refl _) _).trans (hb.mono (by simp))).setCell (Nat.le_refl _) _).setCell (Nat.le_refl _) _).setCell (Nat.le_refl _) _ |>.setCell (Nat.le_refl _) _))
end Go.Proofs.YtmdpjahhhfajaaaGreatDoor
