/-
  The law CivilParses.
-/
import Derived.Test.YtfeaflbohfclmaaDoorCKnown
import Derived.Test.YtfeaflbohfclmaaDoorCRParse
import Derived.Test.YtfeaflbohfclmaaDoorCRFormat
import Derived.Test.YtfeaflbohfclmaaDoorCChanged
set_option linter.unusedVariables false
namespace Go.Proofs.YtfeaflbohfclmaaDoor
open Go.RowKit Wh

theorem and_30 (x : Int) : bits .and .i64 x 1073741823 = x % 1073741824 := by
  have h := and_mask x 30 1073741823 rfl (by omega)
  simp only [Nat.reducePow] at h
  rw [show ((1073741823 : Nat) : Int) = 1073741823 from rfl] at h
  omega

set_option maxRecDepth 100000 in
theorem parses_walk (s : ByteArray) (hs : s.size ≤ maxLen) (a : Int) (_ : -9223372036854775808 ≤ a) (_ : a ≤ 9223372036854775807) (b : Int) (_ : -9223372036854775808 ≤ b) (_ : b ≤ 9223372036854775807) (c : Int) (hc0 : 0 ≤ c) (hc1 : c ≤ 255) (w : World) (ht : Tab w) :
    Calls Tryd.prog 8 #[.string s, .int .i64 a, .int .i64 b, .int .u8 c] w fun e w' => e = .returned (.bool true) ∧ Below w.heap.size w w' := by
  have TW := Lib.hid (fun W (hb : Below w.heap.size w W) => ht.below hb (Nat.le_refl _))
  by_cases hl : 100 < s.size
  · have hl2 : (100 : Int) < s.size := by omega
    have c1 := known_any w ht
    have C1 := Lib.hid c1
    clear c1 ht TW hl
    go_enter Tryd.func8, Tryd.ntmps8
    go_wp2_with fail
    refine C1.out.mono ?_
    rintro e w' ⟨rfl, hb⟩
    go_wp2_with fail
    go_ret
    exact ⟨rfl, hb⟩
  · have hl2 : (s.size : Int) ≤ 100 := by omega
    have b30 := and_30
    obtain ⟨m, hm⟩ : ∃ m, a % 1073741824 % 576000000 = m := ⟨_, rfl⟩
    obtain ⟨y, k, d, t, hd, htt, hn, e⟩ := time_of (m := m) (by omega) (by omega)
    have c0 := fun W => rformat_any y k d t hd htt hn W
    rw [← e] at c0
    have hsz : (⟨(fmtL y k d t).toArray⟩ : ByteArray).size = 16 := by rw [← bts_length, bts_mk, fmtL_length]
    have c1 := fun W hW => parse_any s W hW
    have c2 := fun W => rparse_any s W
    have c3 := fun W => changed_any ⟨(fmtL y k d t).toArray⟩ hsz b c hc0 hc1 W
    have C0 := Lib.hid c0
    generalize parseZ s = z1 at *
    generalize parseE s = x1 at *
    have C1 := Lib.hid c1
    have C2 := Lib.hid c2
    have C3 := Lib.hid c3
    clear c0 c1 c2 c3 ht hd htt hn e hsz hs hl
    go_enter Tryd.func8, Tryd.ntmps8
    go_wp2_with fail
    refine (C1.out _ (TW.out _ (Below.refl _ _))).mono ?_
    rintro e w1 ⟨rfl, B1⟩
    go_wp2_with fail
    refine (C2.out _).mono ?_
    rintro e w2 ⟨rfl, hb2⟩
    have B2 := B1.trans (hb2.mono B1.size)
    clear hb2
    go_wp2_with fail
    refine (C0.out _).mono ?_
    rintro e w3 ⟨rfl, hb3⟩
    have B3 := B2.trans (hb3.mono B2.size)
    clear hb3
    go_wp2_with fail
    refine (C3.out _).mono ?_
    rintro e w4 ⟨⟨u, rfl⟩, hb4⟩
    have B4 := B3.trans (hb4.mono B3.size)
    clear hb4
    have c5 := fun W hW => parse_any u W hW
    have c6 := fun W => rparse_any u W
    generalize parseZ u = z2 at *
    generalize parseE u = x2 at *
    have C5 := Lib.hid c5
    have C6 := Lib.hid c6
    clear c5 c6
    go_wp2_with fail
    refine (C5.out _ (TW.out _ B4)).mono ?_
    rintro e w5 ⟨rfl, hb5⟩
    have B5 := B4.trans (hb5.mono B4.size)
    clear hb5
    go_wp2_with fail
    refine (C6.out _).mono ?_
    rintro e w6 ⟨rfl, hb6⟩
    have B6 := B5.trans (hb6.mono B5.size)
    clear hb6
    go_wp2_with fail
    refine (known_any _ (TW.out _ B6)).mono ?_
    rintro e w7 ⟨rfl, hb7⟩
    have B7 := B6.trans (hb7.mono B6.size)
    go_wp2_with fail
    go_ret
    exact ⟨rfl, B7⟩

end Go.Proofs.YtfeaflbohfclmaaDoor
