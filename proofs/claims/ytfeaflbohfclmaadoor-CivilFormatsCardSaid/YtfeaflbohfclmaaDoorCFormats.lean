/-
  The law CivilFormats.
-/
import Derived.Test.YtfeaflbohfclmaaDoorCParses
import Derived.Test.YtfeaflbohfclmaaDoorCFormat
import Derived.Test.YtfeaflbohfclmaaDoorCOrder
set_option linter.unusedVariables false
namespace Go.Proofs.YtfeaflbohfclmaaDoor
open Go.RowKit Wh

theorem format_gen (a : Int) : ∃ (l : List UInt8) (x : Int), (∀ W, Tab W → Calls Tryd.prog 23 #[.int .i64 a] W (IsTxt l x W)) ∧ (∀ W, Calls Tryd.prog 21 #[.int .i64 a] W (IsTxt l x W)) := by
  by_cases h : 0 ≤ a ∧ a ≤ 575999999
  · obtain ⟨y, k, d, t, hd, ht, hn, rfl⟩ := time_of h.1 h.2
    exact ⟨_, _, fun W hW => format_any y k d t hd ht hn W hW, fun W => rformat_any y k d t hd ht hn W⟩
  · exact ⟨[], 1, fun W hW => format_bad a (by omega) W, fun W => rformat_bad a (by omega) W⟩

set_option maxRecDepth 100000 in
theorem formats_walk (a : Int) (_ : -9223372036854775808 ≤ a) (_ : a ≤ 9223372036854775807) (b : Int) (_ : -9223372036854775808 ≤ b) (_ : b ≤ 9223372036854775807) (c : Int) (_ : -9223372036854775808 ≤ c) (_ : c ≤ 9223372036854775807) (w : World) (ht : Tab w) :
    Calls Tryd.prog 9 #[.int .i64 a, .int .i64 b, .int .i64 c] w fun e w' => e = .returned (.bool true) ∧ Below w.heap.size w w' := by
  have TW := Lib.hid (fun W (hb : Below w.heap.size w W) => ht.below hb (Nat.le_refl _))
  have b30 := and_30
  obtain ⟨m, hm⟩ : ∃ m, b % 1073741824 % 576000000 = m := ⟨_, rfl⟩
  obtain ⟨n, hn⟩ : ∃ n, c % 1073741824 % 576000000 = n := ⟨_, rfl⟩
  obtain ⟨l, x, c1, c2⟩ := format_gen a
  obtain ⟨y, k, d, t, hd, htt, hn1, e⟩ := time_of (m := m) (by omega) (by omega)
  obtain ⟨z, k2, d2, u, hd2, hu, hn2, e2⟩ := time_of (m := n) (by omega) (by omega)
  have c3 := fun W hW => format_any y k d t hd htt hn1 W hW
  have c4 := fun W hW => format_any z k2 d2 u hd2 hu hn2 W hW
  have c5 := fun W hW => parse_any ⟨(fmtL y k d t).toArray⟩ W hW
  have c6 := fun W => rformat_any y k d t hd htt hn1 W
  obtain ⟨p1, p2⟩ := parse_fmt hd htt hn1
  have ho := fmt_order hd hd2 htt hu
  rw [p1, p2, ← e] at c5
  rw [← e] at c3 c6
  rw [← e2] at c4
  rw [← e, ← e2] at ho
  generalize fmtL y k d t = L1 at *
  generalize fmtL z k2 d2 u = L2 at *
  have C1 := Lib.hid c1
  have C2 := Lib.hid c2
  have C3 := Lib.hid c3
  have C4 := Lib.hid c4
  have C5 := Lib.hid c5
  have C6 := Lib.hid c6
  have m0 : 0 ≤ m := by omega
  have n0 : 0 ≤ n := by omega
  clear c1 c2 c3 c4 c5 c6 p1 p2 ht hd hd2 e e2 hn1 hn2 htt hu
  go_enter Tryd.func9, Tryd.ntmps9
  go_wp2_with fail
  refine (C1.out _ (TW.out _ (Below.refl _ _))).mono ?_
  rintro e w1 ⟨rfl, B1⟩
  go_wp2_with fail
  refine (C2.out _).mono ?_
  rintro e w2 ⟨rfl, hb2⟩
  have B2 := B1.trans (hb2.mono B1.size)
  clear hb2
  go_wp2_with fail
  refine (C3.out _ (TW.out _ B2)).mono ?_
  rintro e w3 ⟨rfl, hb3⟩
  have B3 := B2.trans (hb3.mono B2.size)
  clear hb3
  go_wp2_with fail
  refine (C4.out _ (TW.out _ B3)).mono ?_
  rintro e w4 ⟨rfl, hb4⟩
  have B4 := B3.trans (hb4.mono B3.size)
  clear hb4
  go_wp2_with fail
  refine (C5.out _ (TW.out _ B4)).mono ?_
  rintro e w5 ⟨rfl, hb5⟩
  have B5 := B4.trans (hb5.mono B4.size)
  clear hb5
  go_wp2_with fail
  refine (C6.out _).mono ?_
  rintro e w6 ⟨rfl, hb6⟩
  have B6 := B5.trans (hb6.mono B5.size)
  clear hb6
  go_wp2_with fail
  refine (known_any _ (TW.out _ B6)).mono ?_
  rintro e w7 ⟨rfl, hb7⟩
  have B7 := B6.trans (hb7.mono B6.size)
  go_wp2_with fail
  go_ret
  exact ⟨rfl, B7⟩

end Go.Proofs.YtfeaflbohfclmaaDoor
