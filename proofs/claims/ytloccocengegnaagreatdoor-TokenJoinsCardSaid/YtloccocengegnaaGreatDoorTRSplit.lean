/-
  Split, of the reference.
-/
import Derived.Test.YtloccocengegnaaGreatDoorTRTx
import Derived.Test.YtloccocengegnaaGreatDoorTPMore
set_option linter.unusedVariables false
set_option maxRecDepth 100000
namespace Wh
open Go Go.Proofs.YtloccocengegnaaGreatDoor

theorem skipG_le : ∀ (l : List UInt8) (c : Bool), skipG c l ≤ l.length
  | [], c => Nat.le_refl _
  | x :: l, c => by
    have h1 := skipG_le l (decide (x.toNat ≠ 10))
    have h2 := skipG_le l false
    have h3 := skipG_le l true
    unfold skipG
    simp only [List.length_cons]
    split
    · omega
    · split
      · omega
      · split
        · omega
        · omega
theorem skip_le {s : ByteArray} {i : Nat} (c : Bool) (h : i ≤ s.size) : skipN s c i ≤ s.size := by
  unfold skipN
  have := skipG_le ((bts s).drop i) c
  rw [List.length_drop, bts_length] at this
  omega

end Wh
namespace Go.Proofs.YtloccocengegnaaGreatDoor
open Go.RowKit Wh

set_option maxHeartbeats 4000000 in
theorem rsplit_any (s : ByteArray) (w : World) (hs : s.size ≤ 9223372036854775807) : Calls Tryz.prog 14 #[.string s] w (IsOut (splitP s) w) := by
  by_cases hbig : 65536 < s.size
  · have hE : splitP s = ⟨[], 0, 2⟩ := by unfold splitP; rw [if_pos hbig]
    rw [hE]
    have hb1 : (65536 : Int) < (s.size : Int) := by omega
    clear hE
    go_enter Tryz.func14, Tryz.ntmps14
    go_wp2_with fail
    go_ret3
    exact IsOut.bad rfl rfl (Below.refl _ _)
  · have hE : splitP s = splitA s 0 := by unfold splitP; rw [if_neg hbig]
    rw [hE]
    have hb1 : ¬ (65536 : Int) < (s.size : Int) := by omega
    obtain ⟨T, hT⟩ : ∃ T, splitA s 0 = T := ⟨_, rfl⟩
    rw [hT]
    have HT := Lib.hid hT
    have SK := Lib.hid (fun i (hi : i ≤ s.size) W => skip_any s (by omega) i hi W)
    have SK0 : Hid (∀ W, Calls Tryz.prog 24 #[.string s, .int .i64 0] W fun e w' => e = .returned (.int .i64 (skipN s false 0)) ∧ W = w') := fun W => SK.out 0 (Nat.zero_le _) W
    obtain ⟨i0, hi, hz0, hz1, hz2⟩ := info_parts info_tok
    have H0 : Hid (skipN s false 0 ≤ s.size) := skip_le false (Nat.zero_le _)
    obtain ⟨j0, hj0⟩ : ∃ j0, skipN s false 0 = j0 := ⟨_, rfl⟩
    rw [hj0] at SK0 H0
    have HJ0 := Lib.hid hj0
    clear hE hT hj0
    go_enter Tryz.func14, Tryz.ntmps14
    go_wp2_with fail
    refine (SK0.out _).mono ?_
    rintro e w1 ⟨rfl, rfl⟩
    go_wp2_with fail
    go_loopw [2, 5] (fun tv av wr => ∃ (p j : Nat) (acc : List TA), p ≤ j ∧ j ≤ s.size ∧ av = .int .i64 j ∧ Hid (skipN s false p = j) ∧ wr.ownsRow w.heap.size 39 4 tv acc.length (toksL acc) ∧ acc.length ≤ p ∧ Hid (accO acc (splitA s p) = T) ∧ Below w.heap.size w wr) (fun _ av _ => s.size - (intOf av).toNat)
    case atStart => exact ⟨0, j0, [], Nat.zero_le _, H0.out, rfl, HJ0, World.ownsRow_nil _ _ _ _, Nat.le_refl _, by show _ = _; rw [accO_nil, HT.out], Below.refl _ _⟩
    case round =>
      obtain ⟨p, k, acc, hpk, hk, rfl, HJ, hown, hal, HA, hbel⟩ := hrel
      clear HT SK0 H0 HJ0
      have hs9 := hbel.size
      by_cases hlt : k < s.size
      · have sl := fun W => slice_str_from s k hk W
        have hr : (s.extract k s.size).size = s.size - k := size_extract hk (Nat.le_refl _)
        have BAD := Lib.hid (fun he => splitA_bad HJ.out hlt he)
        have OK := Lib.hid (fun he => splitA_ok HJ.out hlt he)
        have POS := Lib.hid (fun he => nx_pos (s := s.extract k s.size) (by omega) he)
        have RD := Lib.hid (fun W => next_any (s.extract k s.size) (by omega) (by omega) W)
        clear HJ
        generalize nx (s.extract k s.size) = o at *
        rw [hr] at POS
        clear hr
        generalize s.extract k s.size = r at *
        go_wp2_with fail
        refine (RD.out _).mono ?_
        rintro e w1 ⟨t, n, rfl, hh, hb⟩
        obtain ⟨x, y⟩ := o
        simp only at hh BAD OK POS
        have HH := Lib.hid hh
        have hz1' := hb.size
        simp only [tokV]
        clear hh RD
        by_cases hx : x = 0
        · subst hx
          obtain ⟨rfl, rfl⟩ := HH.out rfl
          obtain ⟨p1, p2⟩ := POS.out rfl
          have HA2 : Hid (accO (acc ++ [(y.1, (k : Int))]) (splitA s (k + y.2)) = T) := by
            show _ = _
            rw [← HA.out, OK.out rfl, accO_acc]
          have hown1 := own_below hown hb
          have hB1 := hbel.trans (hb.mono hs9)
          obtain ⟨⟨kk, tx, nm⟩, n⟩ := y
          simp only at HA2 p1 p2
          have SKN := Lib.hid (SK.out (k + n) (by omega))
          have hsk1 := skip_le (s := s) (i := k + n) false (by omega)
          have hsk2 := skip_ge s false (k + n)
          obtain ⟨j2, hj2⟩ : ∃ j2, skipN s false (k + n) = j2 := ⟨_, rfl⟩
          rw [hj2] at SKN hsk1 hsk2
          have HJ2 := Lib.hid hj2
          have SKN2 : Hid (∀ W, Calls Tryz.prog 24 #[.string s, .int .i64 ((k : Int) + (n : Int))] W fun e w' => e = .returned (.int .i64 j2) ∧ W = w') := fun W => SKN.out W
          clear HA BAD OK POS HH hown hb hj2 SKN
          go_wp2_with (at_builtin; refine wpList_append_lies _ rfl _ _ 30 rfl w.heap.size 39 i0 _ 4 40 Tryz.underlying30 hi hz0 hz1 hz2 rfl (by decide) _ _ _ rfl ((hown1.alloc _).alloc _) ⟨w1.heap.size + 1, 0, none⟩ 1 1 [.int .i64 kk, .string tx, .int .i64 nm, .int .i64 (k : Int)] rfl rfl (by have h := heap_alloc_new (w1.alloc (.cells #[.int .i64 kk, .string tx, .int .i64 nm, .int .i64 (k : Int)] 39)) (.cells #[.int .i64 kk, .string tx, .int .i64 nm, .int .i64 (k : Int)] 39); rw [World.size_alloc] at h; exact World.news_of_block (cs := #[.int .i64 kk, .string tx, .int .i64 nm, .int .i64 (k : Int)]) (t := 39) (fr := (0, 0)) h) (by simp [Value.oneCell']) (by omega) (by unfold maxLen; omega) (by omega) (by simp; omega) (w1.heap.size + 2) (by simp) ?_)
          intro gg cc w9 hown9 hgrow9 hat9 hlt9
          have hB9 := ((hB1.alloc (by omega) _).alloc (by simp; omega) _).grown hgrow9 (by simp; omega) (fun j hj => (hown1.lt j hj).1)
          have hO9 : w9.ownsRow w.heap.size 39 4 (.slice (some ⟨gg, 0, none⟩) (acc.length + 1) cc) (acc.length + 1) (toksL (acc ++ [(⟨kk, tx, nm⟩, (k : Int))])) := by
            rw [← toksL_push]
            exact hown9
          clear hown9 hgrow9 hat9 hlt9 hown1 hB1
          go_wp2_with (go_at_call 24; refine (SKN2.out _).mono ?_; rintro e w1 ⟨rfl, rfl⟩)
          go_roundw
          case rel => exact ⟨k + n, j2, acc ++ [(⟨kk, tx, nm⟩, (k : Int))], hsk2, hsk1, rfl, HJ2, by rw [List.length_append]; exact hO9, by rw [List.length_append]; simp; omega, HA2, hB9⟩
          case measure => simp [intOf]; omega
        · have HA2 : Hid (T = ⟨[], k, x⟩) := by
            show _ = _
            rw [← HA.out, BAD.out hx, accO_bad hx]
          have hx1 : (x != 0) = true := by simpa using hx
          have hx2 : (x == 0) = false := by simpa using hx
          clear HA BAD OK POS HH
          go_wp2_with fail
          go_ret3
          exact IsOut.bad HA2.out rfl ((hbel.trans (hb.mono hs9)).alloc (by omega) _)
      · obtain rfl : k = s.size := by omega
        have HA2 : Hid (T = ⟨acc ++ [(noT, (s.size : Int))], 0, 0⟩) := by
          show _ = _
          rw [← HA.out, splitA_end (by rw [HJ.out]; exact Nat.le_refl _), accO_good]
        clear HA HJ
        go_wp2_with (at_builtin; refine wpList_append_lies _ rfl _ _ 30 rfl w.heap.size 39 i0 _ 4 40 Tryz.underlying30 hi hz0 hz1 hz2 rfl (by decide) _ _ _ rfl (hown.alloc _) ⟨wr.heap.size, 0, none⟩ 1 1 [.int .i64 0, .string ⟨#[]⟩, .int .i64 0, .int .i64 (s.size : Int)] rfl rfl (by have h := heap_alloc_new (wr) (.cells #[.int .i64 0, .string ⟨#[]⟩, .int .i64 0, .int .i64 (s.size : Int)] 39); exact World.news_of_block (cs := #[.int .i64 0, .string ⟨#[]⟩, .int .i64 0, .int .i64 (s.size : Int)]) (t := 39) (fr := (0, 0)) h) (by simp [Value.oneCell']) (by omega) (by unfold maxLen; omega) (by omega) (by simp; omega) (wr.heap.size + 1) (by simp) ?_)
        intro gg cc w9 hown9 hgrow9 hat9 hlt9
        have hB9 := (hbel.alloc (by omega) _).grown hgrow9 (by simp; omega) (fun j hj => (hown.lt j hj).1)
        have hO9 : w9.ownsRow w.heap.size 39 4 (.slice (some ⟨gg, 0, none⟩) (acc.length + 1) cc) (acc.length + 1) (toksL (acc ++ [(noT, (s.size : Int))])) := by
          rw [← toksL_push]
          exact hown9
        clear hown9 hgrow9 hat9 hlt9 hown
        go_wp2_with fail
        go_ret3
        exact IsOut.good HA2.out (by simp) hO9 rfl hB9

end Go.Proofs.YtloccocengegnaaGreatDoor
