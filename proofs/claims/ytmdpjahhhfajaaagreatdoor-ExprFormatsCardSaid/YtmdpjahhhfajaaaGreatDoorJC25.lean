/-
  readTime, of package token. · readSymbol and read, of package token. · · Split, of the reference. · Texts that are joined by spaces, plainly. No program's functions.
-/
import Derived.Test.YtmdpjahhhfajaaaGreatDoorJC24
import Derived.Test.YtmdpjahhhfajaaaGreatDoorJC06
import Derived.Lib.Join
set_option linter.unusedVariables false
set_option maxRecDepth 100000
namespace Go.Proofs.YtmdpjahhhfajaaaGreatDoor
open Go.RowKit Wh
set_option maxHeartbeats 2000000 in
theorem readTime_any (s : ByteArray) (hs : s.size ≤ 1000000) (hp : 0 < s.size) (h0 : btN s 0 = 64) (w : World) (hg : Glo w) : Calls Tryz.prog 119 #[.string s] w (IsNx (nx s) w) := by
 rw [nx_time h0]
 have hbel0 : Below w.heap.size w (w.alloc (.cells #[.int .i64 0, .string ⟨#[]⟩, .int .i64 0, .int .i64 0] 71)) := (Below.refl _ _).alloc (Nat.le_refl _) _
 by_cases h17 : s.size < 17
 ·rw [if_pos h17]
  have hx : (s.extract 1 s.size).size = s.size - 1 := size_extract (by omega) (Nat.le_refl _)
  have hpe := parse_bad (formB_size (s := s.extract 1 s.size) (by omega))
  have P := Lib.hid (fun W (hW : Below w.heap.size w W) => parse_any (s.extract 1 s.size) W (hg.next hW).tab)
  rw [hpe.1, hpe.2] at P
  clear hx hpe
  have HM : Hid (min (s.size : Int) 17 = (s.size : Int)) := by show _ = _; omega
  have HX : Hid (s.extract 1 (s.size : Int).toNat = s.extract 1 s.size) := rfl
  generalize s.extract 1 s.size = t0 at *
  go_enter Tryz.func119, Tryz.ntmps119
  go_wp2_with fail
  rw [HM.out, HX.out]
  refine (P.out _ hbel0).mono ?_
  rintro e w1 ⟨rfl, hb⟩
  obtain ⟨hc, hf⟩ := bcell hb
  have hsz1 : w.heap.size < w1.heap.size := by have := hb.size; simp at this; omega
  go_wp2_with fail
  exact bodyPost_ret (v := .tuple #[tokV (noT, 0), .int .i64 0, .int .i64 3]) (by simp [results, Tryz.results119, go_sem, hc, tokV, noT]) rfl
   (IsNx.of noT 0 3 rfl rfl (fun h => by cases h) (((((hbel0.trans (hb.mono (by simp))).setCell (Nat.le_refl _) _).setCell (Nat.le_refl _) _).setCell (Nat.le_refl _) _).setCell (Nat.le_refl _) _))
 ·rw [if_neg h17]
  have HX : Hid (s.extract 1 (17 : Int).toNat = s.extract 1 17) := rfl
  have P := Lib.hid (fun W (hW : Below w.heap.size w W) => parse_any (s.extract 1 17) W (hg.next hW).tab)
  generalize s.extract 1 17 = t0 at *
  generalize parseE t0 = E at *
  generalize parseZ t0 = Z at *
  have HM : Hid (min (s.size : Int) 17 = 17) := by show _ = _; omega
  by_cases hE : E = 0
  ·subst hE
   go_enter Tryz.func119, Tryz.ntmps119
   go_wp2_with fail
   rw [HM.out, HX.out]
   refine (P.out _ hbel0).mono ?_
   rintro e w1 ⟨rfl, hb⟩
   obtain ⟨hc, hf⟩ := bcell hb
   have hsz1 : w.heap.size < w1.heap.size := by have := hb.size; simp at this; omega
   go_wp2_with fail
   exact bodyPost_ret (v := .tuple #[tokV (⟨4, ⟨#[]⟩, Z⟩, 0), .int .i64 17, .int .i64 0]) (by simp [results, Tryz.results119, go_sem, hc, tokV]) rfl
    (IsNx.of ⟨4, ⟨#[]⟩, Z⟩ 17 0 rfl rfl (fun _ => ⟨rfl, rfl⟩) (((((hbel0.trans (hb.mono (by simp))).setCell (Nat.le_refl _) _).setCell (Nat.le_refl _) _).setCell (Nat.le_refl _) _).setCell (Nat.le_refl _) _))
  ·have hE1 : (E == 0) = false := by simpa using hE
   have hE2 : (E != 0) = true := by simpa using hE
   go_enter Tryz.func119, Tryz.ntmps119
   go_wp2_with fail
   rw [HM.out, HX.out]
   refine (P.out _ hbel0).mono ?_
   rintro e w1 ⟨rfl, hb⟩
   obtain ⟨hc, hf⟩ := bcell hb
   have hsz1 : w.heap.size < w1.heap.size := by have := hb.size; simp at this; omega
   go_wp2_with fail
   exact bodyPost_ret (v := .tuple #[tokV (noT, 0), .int .i64 0, .int .i64 E]) (by simp [results, Tryz.results119, go_sem, hc, tokV, noT]) rfl
    (IsNx.of noT 0 E rfl rfl (fun h => absurd h hE) (((((hbel0.trans (hb.mono (by simp))).setCell (Nat.le_refl _) _).setCell (Nat.le_refl _) _).setCell (Nat.le_refl _) _).setCell (Nat.le_refl _) _))
end Go.Proofs.YtmdpjahhhfajaaaGreatDoor
namespace Go.Proofs.YtmdpjahhhfajaaaGreatDoor
open Go.RowKit Wh
set_option maxHeartbeats 2000000 in
theorem readSymbol_any (s : ByteArray) (hs : s.size ≤ 1000000) (hp : 0 < s.size) (h0 : lowB (btN s 0) = false) (h1 : numB (btN s 0) = false) (h2 : ¬ btN s 0 = 39) (h3 : ¬ btN s 0 = 64) (w : World) : Calls Tryz.prog 120 #[.string s] w (IsNx (nx s) w) := by
 have HO := Lib.hid (nx_sym h0 h1 h2 h3)
 have S2 := Lib.hid (fun h hb => symS_at2 (s := s) h hb)
 have S1 := Lib.hid (fun h2 h hb => symS_at1 (s := s) h2 h hb)
 have S0 := Lib.hid (fun h2 h1 => symS_at0 (s := s) h2 h1)
 generalize nx s = o at *
 generalize symS s = y at *
 clear h0 h1 h2 h3
 have hbel0 : Below w.heap.size w (w.alloc (.cells #[.int .i64 0, .string ⟨#[]⟩, .int .i64 0, .int .i64 0] 71)) := (Below.refl _ _).alloc (Nat.le_refl _) _
 obtain ⟨m, hm, hm1, hm2, hm3, hmin⟩ : ∃ m : Nat, 1 ≤ m ∧ m ≤ 2 ∧ m ≤ s.size ∧ (2 ≤ s.size → m = 2) ∧ min (s.size : Int) 2 = (m : Int) := by
  by_cases h : 2 ≤ s.size
  ·exact ⟨2, by omega, by omega, h, fun _ => rfl, by omega⟩
  ·exact ⟨1, by omega, by omega, by omega, fun h' => absurd h' h, by omega⟩
 have HM := Lib.hid hm3
 clear hm3
 go_enter Tryz.func120, Tryz.ntmps120
 go_wp2_with fail
 clear hmin
 go_loop [3] (fun iv => ∃ k : Nat, k ≤ m ∧ iv = .int .i64 k ∧ Hid (k < m → symB (s.extract 0 m) = false) ∧ Hid (k < 1 → symB (s.extract 0 1) = false)) (fun i => (intOf i).toNat)
 case atStart => exact ⟨m, Nat.le_refl _, rfl, fun h => absurd h (by omega), fun h => absurd h (by omega)⟩
 case round =>
  obtain ⟨k, hk, rfl, HA, HB⟩ := hrel
  by_cases hk0 : 0 < k
  ·have hlt : (0 : Int) < (k : Int) := by omega
   have sl := fun W => slice_str_to s k (by omega) W
   have IS := Lib.hid (fun W => isSymbol_any (s.extract 0 k) W)
   have hsz : Hid ((s.extract 0 k).size = k) := by show _ = _; rw [size_extract (by omega) (by omega)]; omega
   cases hb : symB (s.extract 0 k) with
   | true =>
    have hy : y = s.extract 0 k := by
     rcases (show k = 2 ∨ k = 1 by omega) with rfl | rfl
     ·exact S2.out (by omega) hb
     ·refine S1.out ?_ (by omega) hb
      by_cases h : 2 ≤ s.size
      ·obtain rfl := HM.out h
       exact .inr (HA.out (by omega))
      ·exact .inl (by omega)
    rw [hb] at IS
    have hO : Hid (o = (0, ⟨5, s.extract 0 k, 0⟩, k)) := by
     show _ = _
     rw [HO.out, hy, hsz.out, if_neg (by omega)]
    clear HO S2 S1 S0 HA HB hy hb hsz HM
    generalize s.extract 0 k = t0 at *
    go_wp2_with (first | (go_at_call 87; refine (IS.out _).mono ?_; rintro e w1 ⟨rfl, rfl⟩))
    exact bodyPost_ret (v := .tuple #[tokV (⟨5, t0, 0⟩, 0), .int .i64 (k : Int), .int .i64 0]) (by simp [results, Tryz.results120, go_sem, tokV]) rfl
     (IsNx.of ⟨5, t0, 0⟩ k 0 rfl (by rw [hO.out]) (fun _ => by rw [hO.out]; exact ⟨rfl, rfl⟩) ((Below.refl _ _).alloc (Nat.le_refl _) _))
   | false =>
    rw [hb] at IS
    have HA2 : Hid (k - 1 < m → symB (s.extract 0 m) = false) := fun h => by
     by_cases e : k = m
     ·rw [← e]; exact hb
     ·exact HA.out (by omega)
    have HB2 : Hid (k - 1 < 1 → symB (s.extract 0 1) = false) := fun h => by
     obtain rfl : k = 1 := by omega
     exact hb
    clear HA HB hb hsz
    generalize s.extract 0 k = t0 at sl IS
    go_wp2_with (first | (go_at_call 87; refine (IS.out _).mono ?_; rintro e w1 ⟨rfl, rfl⟩))
    go_round
    case rel => exact ⟨k - 1, by omega, by rw [show ((k - 1 : Nat) : Int) = (k : Int) - 1 by omega], HA2, HB2⟩
    case measure => simp [intOf]; omega
  ·obtain rfl : k = 0 := by omega
   have hO : Hid (o = (3, noT, 0)) := by
    show _ = _
    have hy := S0.out (by
     by_cases h : 2 ≤ s.size
     ·obtain rfl := HM.out h
      exact .inr (HA.out (by omega))
     ·exact .inl (by omega)) (.inr (HB.out (by omega)))
    rw [HO.out, hy, if_pos (show (⟨#[]⟩ : ByteArray).size = 0 from rfl)]
   clear HO S2 S1 S0 HA HB HM
   go_wp2_with fail
   exact bodyPost_ret (v := .tuple #[tokV (noT, 0), .int .i64 0, .int .i64 3]) (by simp [results, Tryz.results120, go_sem, tokV, noT]) rfl
    (IsNx.of noT 0 3 rfl (by rw [hO.out]) (fun h => by rw [hO.out] at h; cases h) ((Below.refl _ _).alloc (Nat.le_refl _) _))
set_option maxHeartbeats 2000000 in
theorem read_any (s : ByteArray) (hs : s.size ≤ 1000000) (hp : 0 < s.size) (w : World) (hg : Glo w) : Calls Tryz.prog 79 #[.string s] w (IsNx (nx s) w) := by
 have hbel0 : Below w.heap.size w (w.alloc (.cells #[.int .i64 0, .string ⟨#[]⟩, .int .i64 0, .int .i64 0] 71)) := (Below.refl _ _).alloc (Nat.le_refl _) _
 have ix : ∀ W, (Instr.index 9 (.string s) (.int .i64 0)).run Tryz.prog W = .ok (.int .u8 (btN s 0)) W := fun W => index_str s 0 hp W
 have L := Lib.hid (fun W => tisLetter_any (btN s 0) W)
 have D := Lib.hid (fun W => tisDigit_any (btN s 0) W)
 cases h0 : lowB (btN s 0) with
 | true =>
  rw [h0] at L
  have C := Lib.hid (fun W (hW : Below w.heap.size w W) => readName_any s hs hp h0 W)
  clear h0 D
  generalize nx s = o at *
  generalize btN s 0 = b at *
  go_enter Tryz.func79, Tryz.ntmps79
  go_wp2_with (first | (go_at_call 114; refine (L.out _).mono ?_; rintro e w1 ⟨rfl, rfl⟩) | (go_at_call 115; refine (C.out _ hbel0).mono ?_; rintro e w1 ⟨t, n, rfl, hh, hb⟩; simp only [tokV]; have hH := Lib.hid hh; clear hh; obtain ⟨hc, hf⟩ := bcell hb; have hsz1 : w.heap.size < w1.heap.size := (by have := hb.size; simp at this; omega)))
  exact bodyPost_ret (v := .tuple #[tokV (t, 0), .int .i64 (n : Int), .int .i64 o.1]) (by simp [results, Tryz.results79, go_sem, hc, tokV]) rfl
   ⟨t, n, rfl, hH.out, ((((hbel0.trans (hb.mono (by simp))).setCell (Nat.le_refl _) _).setCell (Nat.le_refl _) _).setCell (Nat.le_refl _) _).setCell (Nat.le_refl _) _⟩
 | false =>
  rw [h0] at L
  cases h1 : numB (btN s 0) with
  | true =>
   rw [h1] at D
   have C := Lib.hid (fun W (hW : Below w.heap.size w W) => readInt_any s hs hp h0 h1 W (hg.next hW))
   clear h0 h1
   generalize nx s = o at *
   generalize btN s 0 = b at *
   go_enter Tryz.func79, Tryz.ntmps79
   go_wp2_with (first | (go_at_call 114; refine (L.out _).mono ?_; rintro e w1 ⟨rfl, rfl⟩) | (go_at_call 116; refine (D.out _).mono ?_; rintro e w1 ⟨rfl, rfl⟩) | (go_at_call 117; refine (C.out _ hbel0).mono ?_; rintro e w1 ⟨t, n, rfl, hh, hb⟩; simp only [tokV]; have hH := Lib.hid hh; clear hh; obtain ⟨hc, hf⟩ := bcell hb; have hsz1 : w.heap.size < w1.heap.size := (by have := hb.size; simp at this; omega)))
   exact bodyPost_ret (v := .tuple #[tokV (t, 0), .int .i64 (n : Int), .int .i64 o.1]) (by simp [results, Tryz.results79, go_sem, hc, tokV]) rfl
    ⟨t, n, rfl, hH.out, ((((hbel0.trans (hb.mono (by simp))).setCell (Nat.le_refl _) _).setCell (Nat.le_refl _) _).setCell (Nat.le_refl _) _).setCell (Nat.le_refl _) _⟩
  | false =>
   rw [h1] at D
   by_cases h2 : btN s 0 = 39
   ·have C := Lib.hid (fun W (hW : Below w.heap.size w W) => readText_any s hs hp h2 W (hg.next hW))
    rw [h2] at ix L D
    clear h0 h1 h2
    generalize nx s = o at *
    go_enter Tryz.func79, Tryz.ntmps79
    go_wp2_with (first | (go_at_call 114; refine (L.out _).mono ?_; rintro e w1 ⟨rfl, rfl⟩) | (go_at_call 116; refine (D.out _).mono ?_; rintro e w1 ⟨rfl, rfl⟩) | (go_at_call 118; refine (C.out _ hbel0).mono ?_; rintro e w1 ⟨t, n, rfl, hh, hb⟩; simp only [tokV]; have hH := Lib.hid hh; clear hh; obtain ⟨hc, hf⟩ := bcell hb; have hsz1 : w.heap.size < w1.heap.size := (by have := hb.size; simp at this; omega)))
    exact bodyPost_ret (v := .tuple #[tokV (t, 0), .int .i64 (n : Int), .int .i64 o.1]) (by simp [results, Tryz.results79, go_sem, hc, tokV]) rfl
     ⟨t, n, rfl, hH.out, ((((hbel0.trans (hb.mono (by simp))).setCell (Nat.le_refl _) _).setCell (Nat.le_refl _) _).setCell (Nat.le_refl _) _).setCell (Nat.le_refl _) _⟩
   ·by_cases h3 : btN s 0 = 64
    ·have C := Lib.hid (fun W (hW : Below w.heap.size w W) => readTime_any s hs hp h3 W (hg.next hW))
     rw [h3] at ix L D
     clear h0 h1 h2 h3
     generalize nx s = o at *
     go_enter Tryz.func79, Tryz.ntmps79
     go_wp2_with (first | (go_at_call 114; refine (L.out _).mono ?_; rintro e w1 ⟨rfl, rfl⟩) | (go_at_call 116; refine (D.out _).mono ?_; rintro e w1 ⟨rfl, rfl⟩) | (go_at_call 119; refine (C.out _ hbel0).mono ?_; rintro e w1 ⟨t, n, rfl, hh, hb⟩; simp only [tokV]; have hH := Lib.hid hh; clear hh; obtain ⟨hc, hf⟩ := bcell hb; have hsz1 : w.heap.size < w1.heap.size := (by have := hb.size; simp at this; omega)))
     exact bodyPost_ret (v := .tuple #[tokV (t, 0), .int .i64 (n : Int), .int .i64 o.1]) (by simp [results, Tryz.results79, go_sem, hc, tokV]) rfl
      ⟨t, n, rfl, hH.out, ((((hbel0.trans (hb.mono (by simp))).setCell (Nat.le_refl _) _).setCell (Nat.le_refl _) _).setCell (Nat.le_refl _) _).setCell (Nat.le_refl _) _⟩
    ·have C := Lib.hid (fun W (hW : Below w.heap.size w W) => readSymbol_any s hs hp h0 h1 h2 h3 W)
     have e39 : ((btN s 0 : Int) == 39) = false := by simp; omega
     have e64 : ((btN s 0 : Int) == 64) = false := by simp; omega
     clear h0 h1 h2 h3
     generalize nx s = o at *
     generalize btN s 0 = b at *
     go_enter Tryz.func79, Tryz.ntmps79
     go_wp2_with (first | (go_at_call 114; refine (L.out _).mono ?_; rintro e w1 ⟨rfl, rfl⟩) | (go_at_call 116; refine (D.out _).mono ?_; rintro e w1 ⟨rfl, rfl⟩) | (go_at_call 120; refine (C.out _ hbel0).mono ?_; rintro e w1 ⟨t, n, rfl, hh, hb⟩; simp only [tokV]; have hH := Lib.hid hh; clear hh; obtain ⟨hc, hf⟩ := bcell hb; have hsz1 : w.heap.size < w1.heap.size := (by have := hb.size; simp at this; omega)))
     exact bodyPost_ret (v := .tuple #[tokV (t, 0), .int .i64 (n : Int), .int .i64 o.1]) (by simp [results, Tryz.results79, go_sem, hc, tokV]) rfl
      ⟨t, n, rfl, hH.out, ((((hbel0.trans (hb.mono (by simp))).setCell (Nat.le_refl _) _).setCell (Nat.le_refl _) _).setCell (Nat.le_refl _) _).setCell (Nat.le_refl _) _⟩
end Go.Proofs.YtmdpjahhhfajaaaGreatDoor
namespace Wh
open Go Go.Proofs.YtmdpjahhhfajaaaGreatDoor
theorem accO_bad {a : List TA} {l : List TA} {i : Nat} {e : Int} (h : ¬ e = 0) : accO a ⟨l, i, e⟩ = ⟨l, i, e⟩ := by
 unfold accO
 rw [if_neg h]
theorem accO_good {a : List TA} {l : List TA} {i : Nat} : accO a ⟨l, i, 0⟩ = ⟨a ++ l, i, 0⟩ := by
 unfold accO
 rw [if_pos rfl]
end Wh
namespace Go.Proofs.YtmdpjahhhfajaaaGreatDoor
open Go.RowKit Wh
def IsOut (o : Out) (w : World) (e : Ending) (w' : World) : Prop :=
 ∃ a cap, e = .returned (.tuple #[.slice a o.l.length cap, .int .i64 o.i, .int .i64 o.e]) ∧ IsToks w' a o.l.length o.l ∧ o.l.length ≤ cap ∧ cap ≤ maxLen ∧ (a = none → cap = 0) ∧ (∀ x, a = some x → ∃ g, x = ⟨g, 0, none⟩ ∧ w.heap.size ≤ g ∧ g < w'.heap.size) ∧ Below w.heap.size w w'
theorem IsOut.bad {o : Out} {i : Nat} {x : Int} {w w' : World} {e : Ending} (ho : o = ⟨[], i, x⟩) (he : e = .returned (.tuple #[.slice none 0 0, .int .i64 i, .int .i64 x])) (hb : Below w.heap.size w w') : IsOut o w e w' := by
 subst ho
 exact ⟨none, 0, he, ⟨rfl, .inl rfl⟩, Nat.le_refl _, Nat.zero_le _, fun _ => rfl, fun x hx => (by cases hx), hb⟩
theorem IsOut.good {o : Out} {l : List TA} {v : Value} {n : Nat} {w w' : World} {e : Ending} (ho : o = ⟨l, 0, 0⟩) (hn : l.length = n) (hown : w'.ownsRow w.heap.size 71 4 v n (toksL l)) (he : e = .returned (.tuple #[v, .int .i64 0, .int .i64 0])) (hb : Below w.heap.size w w') : IsOut o w e w' := by
 subst ho
 subst hn
 obtain ⟨a, cap, rfl, h1, h2, h3, h4, h5⟩ := own_toks hown rfl
 exact ⟨a, cap, he, h1, h2, h3, h4, h5, hb⟩
set_option maxHeartbeats 4000000 in
theorem split_any (s : ByteArray) (w : World) (hs : s.size ≤ 9223372036854775807) (hg : Glo w) : Calls Tryz.prog 41 #[.string s] w (IsOut (splitP s) w) := by
 by_cases hbig : 65536 < s.size
 ·have hE : splitP s = ⟨[], 0, 2⟩ := by unfold splitP; rw [if_pos hbig]
  rw [hE]
  have hb1 : (65536 : Int) < (s.size : Int) := by omega
  clear hE
  go_enter Tryz.func41, Tryz.ntmps41
  go_wp2_with fail
  go_step3
  go_wp2_with fail
  rw [Exit.noGoto_ret]
  go_ret3
  exact IsOut.bad rfl rfl (Below.refl _ _)
 ·have hE : splitP s = splitA s 0 := by unfold splitP; rw [if_neg hbig]
  rw [hE]
  have hb1 : ¬ (65536 : Int) < (s.size : Int) := by omega
  obtain ⟨T, hT⟩ : ∃ T, splitA s 0 = T := ⟨_, rfl⟩
  rw [hT]
  have HT := Lib.hid hT
  have HG := Lib.hid hg
  obtain ⟨i0, hi, hz0, hz1, hz2⟩ := info_parts info_tok
  clear hE hT hg
  go_enter Tryz.func41, Tryz.ntmps41
  go_wp2_with fail
  go_step3
  go_wp2_with fail
  go_step3
  go_wp2_with fail
  go_loopw [2, 3] (fun tv av wr => ∃ (k : Nat) (acc : List TA), k ≤ s.size ∧ av = .int .i64 k ∧ wr.ownsRow w.heap.size 71 4 tv acc.length (toksL acc) ∧ acc.length ≤ k ∧ Hid (accO acc (splitA s k) = T) ∧ Below w.heap.size w wr) (fun _ av _ => s.size - (intOf av).toNat)
  case atStart => exact ⟨0, [], Nat.zero_le _, rfl, World.ownsRow_nil _ _ _ _, Nat.le_refl _, by show _ = _; rw [accO_nil, HT.out], Below.refl _ _⟩
  case round =>
   obtain ⟨k, acc, hk, rfl, hown, hal, HA, hbel⟩ := hrel
   clear HT
   have hs9 := hbel.size
   by_cases hlt : k < s.size
   ·have ix := fun W => index_str s k hlt W
    by_cases hbl : btN s k = 32 ∨ btN s k = 9 ∨ btN s k = 10
    ·have HA2 : Hid (accO acc (splitA s (k + 1)) = T) := by
      show _ = _
      rw [← HA.out, splitA_skip (skip_blank hlt hbl) hk (by omega)]
     clear HA
     rcases hbl with hb | hb | hb
     all_goals
      rw [hb] at ix
      clear hb
      go_wp2_with fail
      go_roundw
      case rel => exact ⟨k + 1, acc, by omega, by go_num, hown, by omega, HA2, hbel⟩
      case measure => simp [intOf]; omega
    ·have n32 : ((btN s k : Int) == 32) = false := by simp; omega
     have n9 : ((btN s k : Int) == 9) = false := by simp; omega
     have n10 : ((btN s k : Int) == 10) = false := by simp; omega
     have sl := fun W => slice_str_from s k hk W
     have hr : (s.extract k s.size).size = s.size - k := size_extract hk (Nat.le_refl _)
     by_cases hh : btN s k = 35
     ·obtain ⟨hc1, hc2, hc3⟩ := skip_cmt hlt hh
      have CS := Lib.hid (fun W => commentSize_any (s.extract k s.size) (by omega) W)
      have HA2 : Hid (accO acc (splitA s (k + cmtN (s.extract k s.size))) = T) := by
       show _ = _
       rw [← HA.out, splitA_skip hc1 hk hc3]
      rw [hh] at ix
      clear HA hc1 hbl hh hr n32 n9 n10
      generalize cmtN (s.extract k s.size) = m at *
      generalize s.extract k s.size = r at *
      go_wp2_with (first | (go_at_call 78; refine (CS.out _).mono ?_; rintro e w1 ⟨rfl, rfl⟩))
      go_roundw
      case rel => exact ⟨k + m, acc, by omega, by go_num, hown, by omega, HA2, hbel⟩
      case measure => simp [intOf]; omega
     ·have n35 : ((btN s k : Int) == 35) = false := by simp; omega
      have hsk := skip_stop hlt (fun h => hbl (.inl h)) (fun h => hbl (.inr (.inl h))) (fun h => hbl (.inr (.inr h))) hh
      have BAD := Lib.hid (fun he => splitA_bad hsk hlt he)
      have OK := Lib.hid (fun he => splitA_ok hsk hlt he)
      have POS := Lib.hid (fun he => nx_pos (s := s.extract k s.size) (by omega) he)
      have RD := Lib.hid (fun W (hW : Below wr.heap.size wr W) => read_any (s.extract k s.size) (by omega) (by omega) W ((HG.out.next (hbel.trans (hW.mono hs9)))))
      clear hsk hbl hh
      generalize nx (s.extract k s.size) = o at *
      rw [hr] at POS
      clear hr
      generalize s.extract k s.size = r at *
      generalize btN s k = c at *
      go_wp2_with fail
      refine (RD.out _ (Below.refl _ _)).mono ?_
      rintro e w1 ⟨t, n, rfl, hh, hb⟩
      obtain ⟨x, y⟩ := o
      simp only at hh BAD OK POS
      have HH := Lib.hid hh
      have hz1' := hb.size
      simp only [tokV]
      clear hh RD
      by_cases hx : x = 0
      ·subst hx
       obtain ⟨rfl, rfl⟩ := HH.out rfl
       obtain ⟨p1, p2⟩ := POS.out rfl
       have HA2 : Hid (accO (acc ++ [(y.1, (k : Int))]) (splitA s (k + y.2)) = T) := by
        show _ = _
        rw [← HA.out, OK.out rfl, accO_acc]
       have hown1 := own_below hown hb
       have hB1 := hbel.trans (hb.mono hs9)
       obtain ⟨⟨kk, tx, nm⟩, n⟩ := y
       simp only at HA2 p1 p2
       clear HA BAD OK POS HH hown hb
       go_wp2_with (at_builtin; refine wpList_append_lies _ rfl _ _ 34 rfl w.heap.size 71 i0 _ 4 40 Tryz.underlying34 hi hz0 hz1 hz2 rfl (by decide) _ _ _ rfl ((hown1.alloc _).alloc _) ⟨w1.heap.size + 1, 0, none⟩ 1 1 [.int .i64 kk, .string tx, .int .i64 nm, .int .i64 (k : Int)] rfl rfl (by have h := heap_alloc_new (w1.alloc (.cells #[.int .i64 kk, .string tx, .int .i64 nm, .int .i64 (k : Int)] 71)) (.cells #[.int .i64 kk, .string tx, .int .i64 nm, .int .i64 (k : Int)] 71); rw [World.size_alloc] at h; exact World.news_of_block (cs := #[.int .i64 kk, .string tx, .int .i64 nm, .int .i64 (k : Int)]) (t := 71) (fr := (0, 0)) h) (by simp [Value.oneCell']) (by omega) (by unfold maxLen; omega) (by omega) (by simp; omega) (w1.heap.size + 2) (by simp) ?_)
       intro gg cc w9 hown9 hgrow9 hat9 hlt9
       have hB9 := ((hB1.alloc (by omega) _).alloc (by simp; omega) _).grown hgrow9 (by simp; omega) (fun j hj => (hown1.lt j hj).1)
       have hO9 : w9.ownsRow w.heap.size 71 4 (.slice (some ⟨gg, 0, none⟩) (acc.length + 1) cc) (acc.length + 1) (toksL (acc ++ [(⟨kk, tx, nm⟩, (k : Int))])) := by
        rw [← toksL_push]
        exact hown9
       clear hown9 hgrow9 hat9 hlt9 hown1 hB1
       go_wp2_with fail
       go_roundw
       case rel => exact ⟨k + n, acc ++ [(⟨kk, tx, nm⟩, (k : Int))], by omega, by go_num, by rw [List.length_append]; exact hO9, by rw [List.length_append]; simp; omega, HA2, hB9⟩
       case measure => simp [intOf]; omega
      ·have HA2 : Hid (T = ⟨[], k, x⟩) := by
        show _ = _
        rw [← HA.out, BAD.out hx, accO_bad hx]
       have hx1 : (x != 0) = true := by simpa using hx
       have hx2 : (x == 0) = false := by simpa using hx
       clear HA BAD OK POS HH
       go_wp2_with fail
       rw [Exit.noGoto_ret]
       go_ret3
       exact IsOut.bad HA2.out rfl ((hbel.trans (hb.mono hs9)).alloc (by omega) _)
   ·obtain rfl : k = s.size := by omega
    have HA2 : Hid (T = ⟨acc ++ [(noT, (s.size : Int))], 0, 0⟩) := by
     show _ = _
     rw [← HA.out, splitA_end (by rw [skip_end _ (Nat.le_refl _)]; exact Nat.le_refl _), accO_good]
    clear HA
    go_wp2_with (at_builtin; refine wpList_append_lies _ rfl _ _ 34 rfl w.heap.size 71 i0 _ 4 40 Tryz.underlying34 hi hz0 hz1 hz2 rfl (by decide) _ _ _ rfl (hown.alloc _) ⟨wr.heap.size, 0, none⟩ 1 1 [.int .i64 0, .string ⟨#[]⟩, .int .i64 0, .int .i64 (s.size : Int)] rfl rfl (by have h := heap_alloc_new (wr) (.cells #[.int .i64 0, .string ⟨#[]⟩, .int .i64 0, .int .i64 (s.size : Int)] 71); exact World.news_of_block (cs := #[.int .i64 0, .string ⟨#[]⟩, .int .i64 0, .int .i64 (s.size : Int)]) (t := 71) (fr := (0, 0)) h) (by simp [Value.oneCell']) (by omega) (by unfold maxLen; omega) (by omega) (by simp; omega) (wr.heap.size + 1) (by simp) ?_)
    intro gg cc w9 hown9 hgrow9 hat9 hlt9
    have hB9 := (hbel.alloc (by omega) _).grown hgrow9 (by simp; omega) (fun j hj => (hown.lt j hj).1)
    have hO9 : w9.ownsRow w.heap.size 71 4 (.slice (some ⟨gg, 0, none⟩) (acc.length + 1) cc) (acc.length + 1) (toksL (acc ++ [(noT, (s.size : Int))])) := by
     rw [← toksL_push]
     exact hown9
    clear hown9 hgrow9 hat9 hlt9 hown
    go_wp2_with fail
    rw [Exit.noGoto_ret]
    go_ret3
    exact IsOut.good HA2.out (by simp) hO9 rfl hB9
end Go.Proofs.YtmdpjahhhfajaaaGreatDoor
namespace Wh
open Go Go.Proofs.YtmdpjahhhfajaaaGreatDoor
end Wh
namespace Go.Proofs.YtmdpjahhhfajaaaGreatDoor
open Go.RowKit Wh
end Go.Proofs.YtmdpjahhhfajaaaGreatDoor
namespace Wh
open Go
def jn (ls : List (List UInt8)) : List UInt8 := Lib.join ls [32]
theorem jn_nil : jn [] = [] := rfl
theorem jn_one (x : List UInt8) : jn [x] = x := Lib.join_one x _
theorem joinTail_push (sep y : List UInt8) (r : List (List UInt8)) : Lib.joinTail sep (r ++ [y]) = Lib.joinTail sep r ++ sep ++ y := by
 simp [Lib.joinTail, List.append_assoc]
theorem jn_push (ls : List (List UInt8)) (y : List UInt8) : jn (ls ++ [y]) = if ls = [] then y else jn ls ++ 32 :: y := by
 cases ls with
 | nil => exact jn_one y
 | cons x r =>
  rw [if_neg (by simp), List.cons_append]
  unfold jn
  rw [Lib.join_cons, Lib.join_cons, joinTail_push]
  simp [List.append_assoc]
theorem jn_take {ls : List (List UInt8)} {k : Nat} {y : List UInt8} (h : ls[k]? = some y) : jn (ls.take (k + 1)) = if k = 0 then y else jn (ls.take k) ++ 32 :: y := by
 have hk := (List.getElem?_eq_some_iff.1 h).1
 rw [List.take_add_one, h]
 show jn (ls.take k ++ [y]) = _
 rw [jn_push]
 by_cases h0 : k = 0
 ·rw [if_pos h0, if_pos (by rw [h0]; rfl)]
 ·rw [if_neg h0, if_neg]
  intro h1
  have := congrArg List.length h1
  rw [List.length_take, List.length_nil] at this
  omega
theorem jn_take_le (ls : List (List UInt8)) (k : Nat) : (jn (ls.take k)).length ≤ (jn ls).length := by
 cases ls with
 | nil => simp
 | cons x r =>
  cases k with
  | zero => exact Nat.zero_le _
  | succ k =>
   rw [List.take_succ_cons]
   unfold jn
   rw [Lib.join_cons, Lib.join_cons, List.length_append, List.length_append]
   have := Lib.joinTail_take_le [32] r k
   omega
def jnO (ls : List (List UInt8)) : List UInt8 × Int := if 65536 < (jn ls).length then ([], 2) else (jn ls, 0)
theorem jnO_great {ls : List (List UInt8)} {k : Nat} (h : 65536 < (jn (ls.take k)).length) : jnO ls = ([], 2) := by
 unfold jnO
 rw [if_pos (by have := jn_take_le ls k; omega)]
end Wh
