/-
  TokenBytes: its walk.
-/
import Derived.Test.YtloccocengegnaaGreatDoorTKit
import Derived.Test.YtloccocengegnaaGreatDoorTOpen
import Derived.Test.YtloccocengegnaaGreatDoorTText
import Derived.Test.YtloccocengegnaaGreatDoorGByt
import Derived.Test.YtloccocengegnaaGreatDoorMask
set_option linter.unusedVariables false
set_option maxRecDepth 100000
namespace Go.Proofs.YtloccocengegnaaGreatDoor
open Go.RowKit Wh

theorem IsBytes.below {w w' : World} {a : Option Addr} {len B : Nat} {l : List UInt8} (h : IsBytes w a len l) (hb : Below B w w') (hB : w.heap.size ≤ B) : IsBytes w' a len l := by
  obtain ⟨h1, h2⟩ := h
  refine ⟨h1, ?_⟩
  rcases h2 with h2 | ⟨b, off, ha, hlt, hc⟩
  · exact .inl h2
  · refine .inr ⟨b, off, ha, by have := hb.size; omega, fun i x hx => ?_⟩
    rw [hb.cell (p := ⟨b, off + i, none⟩) (by show b < B; omega)]
    exact hc i x hx
/-- 'string(b)' of bytes that came in. -/
theorem conv_bytes {w : World} {a : Option Addr} {len cap : Nat} {l : List UInt8} (h : IsBytes w a len l) : (convert 27 9 (.slice a len cap)).run Tryz.prog w = .ok (.string ⟨l.toArray⟩) w := by
  obtain ⟨h1, h2⟩ := h
  cases a with
  | none =>
    rcases h2 with rfl | ⟨b, off, ha, _⟩
    · exact run_convert_bytes_nil w 27 5 Tryz.underlying27 Tryz.underlying5 _ _ _ Tryz.underlying9
    · cases ha
  | some x =>
    rcases h2 with rfl | ⟨b, off, ha, _, hc⟩
    · subst h1
      exact run_convert_bytes_back w _ _ 5 x cap [] Tryz.underlying27 Tryz.underlying5 Tryz.underlying9 fun j hj => absurd hj (Nat.not_lt_zero _)
    · cases ha
      exact conv_str h1 hc
set_option maxHeartbeats 4000000 in
theorem tbytes_walk (w : World) (a : Option Addr) (len cap : Nat) (zs : List Int) (hz : IsInts w a len zs) (hc : len ≤ cap) (hm : cap ≤ maxLen)
    (a2 : Option Addr) (len2 cap2 : Nat) (bl : List UInt8) (hbl : IsBytes w a2 len2 bl) (hc2 : len2 ≤ cap2) (hm2 : cap2 ≤ maxLen) (n : Int) (hn1 : -9223372036854775808 ≤ n) (hn2 : n ≤ 9223372036854775807) (hg : Glo w) :
    Calls Tryz.prog 4 #[.slice a len cap, .slice a2 len2 cap2, .int .i64 n] w fun e w' => e = .returned (.bool true) ∧ Below w.heap.size w w' := by
  have mm : maxLen = 9223372036854775807 := rfl
  by_cases hl : 200 < len2
  · have CK := Lib.hid (known_any7 w hg)
    clear hz hg hbl
    go_enter Tryz.func4, Tryz.ntmps4
    go_wp2_with fail
    refine CK.out.mono ?_
    rintro e w1 ⟨rfl, hb1⟩
    go_wp2_with fail
    go_ret
    exact ⟨rfl, hb1⟩
  obtain ⟨N, hN, hN7⟩ : ∃ N : Nat, n % 16 = (N : Int) ∧ N ≤ 15 := ⟨(n % 16).toNat, by omega, by omega⟩
  obtain ⟨M, hM, hM7⟩ : ∃ M : Nat, n / 16 % 256 = (M : Int) ∧ M ≤ 255 := ⟨(n / 16 % 256).toNat, by omega, by omega⟩
  have hln := hbl.1
  have C1 := Lib.hid (text_any7 a len cap zs N w hz (by omega) (by omega))
  have HG := Lib.hid hg
  have HBL := Lib.hid hbl
  have hb15 := and_15 n
  rw [hN] at hb15
  have hb255 := and_255 (n / 16)
  rw [hM] at hb255
  clear hz hg hN hM hbl
  go_enter Tryz.func4, Tryz.ntmps4
  go_wp2_with fail
  refine C1.out.mono ?_
  rintro e w1 ⟨s, rfl, hs, hb1⟩
  have hs1 := hb1.size
  obtain ⟨S, HS⟩ : ∃ S, Hid (s.size = S) := ⟨_, rfl⟩
  have hS : S ≤ 620 := by have := HS.out; omega
  obtain ⟨q, HQ⟩ : ∃ q, Hid (M % (S + 1) = q) := ⟨_, rfl⟩
  have hqb : q ≤ S := by have := HQ.out; have := Nat.mod_lt M (show 0 < S + 1 by omega); omega
  have hq : Int.tmod (M : Int) ((S : Int) + 1) = (q : Int) := by
    have := HQ.out
    subst this
    rw [Int.tmod_eq_emod_of_nonneg (by omega)]
    rfl
  have hq2 : (M : Int) % ((S : Int) + 1) = (q : Int) := by
    rw [← hq, Int.tmod_eq_emod_of_nonneg (by omega)]
  have hsz : s.size = S := HS.out
  have B1 := Lib.hid (HBL.out.below hb1 (Nat.le_refl _))
  have hcv : (convert 27 9 (.slice a2 len2 cap2)).run Tryz.prog w1.drew = .ok (.string ⟨bl.toArray⟩) w1.drew := conv_bytes (B1.out.below ((Below.refl _ _).drew) (Nat.le_refl _))
  have hb1d := hb1.drew
  have hsl1 : ∀ W, (Instr.slice 9 (.string s) none (some (.int .i64 q)) none).run Tryz.prog W = .ok (.string (s.extract 0 q)) W := fun W => slice_str_to s q (by omega) W
  have hsl2 : ∀ W, (Instr.slice 9 (.string s) (some (.int .i64 q)) none none).run Tryz.prog W = .ok (.string (s.extract q s.size)) W := fun W => slice_str_from s q (by omega) W
  have z1 : (s.extract 0 q).size ≤ 620 := by rw [size_extract (by omega) (by omega)]; omega
  have z2 : (s.extract q s.size).size ≤ 620 := by rw [size_extract (by omega) (by omega)]; omega
  have zb : (⟨bl.toArray⟩ : ByteArray).size ≤ 200 := by show bl.toArray.size ≤ 200; simp; omega
  generalize s.extract 0 q = t1 at *
  generalize s.extract q s.size = t2 at *
  generalize (⟨bl.toArray⟩ : ByteArray) = t3 at *
  have hadd1 : ¬ (9223372036854775807 < t1.size + t3.size) := by omega
  have hz13 : (t1 ++ t3).size ≤ 820 := by rw [ByteArray.size_append]; omega
  have hadd2 : ¬ (9223372036854775807 < (t1 ++ t3).size + t2.size) := by omega
  have CS := Lib.hid (fun W (h : Below w.heap.size w W) => splits_any (t1 ++ t3 ++ t2) (by rw [ByteArray.size_append]; omega) W (HG.out.next h))
  clear C1 B1 HBL
  go_wp2_with fail
  go_region_with (first | (go_at_call 7; refine (CS.out _ hb1d).mono ?_; rintro e w2 ⟨rfl, hb2⟩) | (go_at_call 6; refine (known_any7 _ (HG.out.next (hb1d.trans (hb2.mono hs1)))).mono ?_; rintro e w3 ⟨rfl, hb3⟩))
  all_goals
    have hB2 := hb1d.trans (hb2.mono hs1)
    go_wp2_with fail
    go_ret
    exact ⟨rfl, hB2.trans (hb3.mono hB2.size)⟩

end Go.Proofs.YtloccocengegnaaGreatDoor
