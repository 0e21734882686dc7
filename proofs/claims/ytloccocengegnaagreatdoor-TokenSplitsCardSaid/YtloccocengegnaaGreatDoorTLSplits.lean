/-
  TokenSplits: its walk.
-/
import Derived.Test.YtloccocengegnaaGreatDoorTKit
import Derived.Test.YtloccocengegnaaGreatDoorTText
import Derived.Test.YtloccocengegnaaGreatDoorMask
set_option linter.unusedVariables false
set_option maxRecDepth 100000
namespace Go.Proofs.YtloccocengegnaaGreatDoor
open Go.RowKit Wh

set_option maxHeartbeats 4000000 in
theorem tsplits_walk (w : World) (s : ByteArray) (hs : s.size ≤ 9223372036854775807) (a : Option Addr) (len cap : Nat) (zs : List Int) (hz : IsInts w a len zs) (hc : len ≤ cap) (hm : cap ≤ maxLen) (n : Int) (hn1 : -9223372036854775808 ≤ n) (hn2 : n ≤ 9223372036854775807) (hg : Glo w) :
    Calls Tryz.prog 3 #[.string s, .slice a len cap, .int .i64 n] w fun e w' => e = .returned (.bool true) ∧ Below w.heap.size w w' := by
  have mm : maxLen = 9223372036854775807 := rfl
  by_cases hl : 1000 < s.size
  · have CK := Lib.hid (known_any7 w hg)
    clear hz hg
    go_enter Tryz.func3, Tryz.ntmps3
    go_wp2_with fail
    refine CK.out.mono ?_
    rintro e w1 ⟨rfl, hb1⟩
    go_wp2_with fail
    go_ret
    exact ⟨rfl, hb1⟩
  obtain ⟨N, hN, hN7⟩ : ∃ N : Nat, n % 32 = (N : Int) ∧ N ≤ 31 := ⟨(n % 32).toNat, by omega, by omega⟩
  have C1 := Lib.hid (splits_any s (by omega) w hg)
  have C2 := Lib.hid (fun W (h : Below w.heap.size w W) => text_any7 a len cap zs N W (hz.below h (Nat.le_refl _)) (by omega) hN7)
  have HG := Lib.hid hg
  have hb31 := and_31 n
  rw [hN] at hb31
  clear hz hg hN
  go_enter Tryz.func3, Tryz.ntmps3
  go_wp2_with fail
  refine C1.out.mono ?_
  rintro e w1 ⟨rfl, hb1⟩
  have hs1 := hb1.size
  go_wp2_with fail
  refine (C2.out _ hb1).mono ?_
  rintro e w2 ⟨t, rfl, ht, hb2⟩
  have hB2 := hb1.trans (hb2.mono hs1)
  have hs2 := hB2.size
  go_wp2_with fail
  refine (splits_any t (by omega) _ (HG.out.next hB2)).mono ?_
  rintro e w3 ⟨rfl, hb3⟩
  have hB3 := hB2.trans (hb3.mono hs2)
  have hs3 := hB3.size
  go_wp2_with fail
  refine (known_any7 _ (HG.out.next hB3)).mono ?_
  rintro e w4 ⟨rfl, hb4⟩
  go_wp2_with fail
  go_ret
  exact ⟨rfl, hB3.trans (hb4.mono hs3)⟩

end Go.Proofs.YtloccocengegnaaGreatDoor
