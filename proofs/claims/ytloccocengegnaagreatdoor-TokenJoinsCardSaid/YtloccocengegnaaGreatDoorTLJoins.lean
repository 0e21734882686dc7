/-
  TokenJoins: its walk.
-/
import Derived.Test.YtloccocengegnaaGreatDoorTKit
import Derived.Test.YtloccocengegnaaGreatDoorTBun
import Derived.Test.YtloccocengegnaaGreatDoorTDraw
import Derived.Test.YtloccocengegnaaGreatDoorMask
set_option linter.unusedVariables false
set_option maxRecDepth 100000
namespace Go.Proofs.YtloccocengegnaaGreatDoor
open Go.RowKit Wh

set_option maxHeartbeats 4000000 in
theorem tjoins_walk (w : World) (a1 : Option Addr) (len1 cap1 : Nat) (ts : List TA) (h1 : IsToks w a1 len1 ts) (hc1 : len1 ≤ cap1) (hm1 : cap1 ≤ maxLen) (hn1 : a1 = none → cap1 = 0) (hz1 : ∀ t ∈ ts, t.1.tx.size ≤ 9223372036854775800)
    (a : Option Addr) (len cap : Nat) (zs : List Int) (hz : IsInts w a len zs) (hc : len ≤ cap) (hm : cap ≤ maxLen) (n : Int) (hn2 : -9223372036854775808 ≤ n) (hn3 : n ≤ 9223372036854775807) (hg : Glo w) :
    Calls Tryz.prog 5 #[.slice a1 len1 cap1, .slice a len cap, .int .i64 n] w fun e w' => e = .returned (.bool true) ∧ Below w.heap.size w w' := by
  have mm : maxLen = 9223372036854775807 := rfl
  by_cases hl : 200 < len1
  · have CK := Lib.hid (known_any7 w hg)
    clear hz hg h1 hz1
    go_enter Tryz.func5, Tryz.ntmps5
    go_wp2_with fail
    refine CK.out.mono ?_
    rintro e w1 ⟨rfl, hb1⟩
    go_wp2_with fail
    go_ret
    exact ⟨rfl, hb1⟩
  obtain ⟨N, hN, hN7⟩ : ∃ N : Nat, n % 16 = (N : Int) ∧ N ≤ 15 := ⟨(n % 16).toNat, by omega, by omega⟩
  have hlt := h1.1
  obtain ⟨l1, x1, P1, R1, _⟩ := join_ex ts (by omega) hz1
  rw [hlt] at P1 R1
  have hlx := tokL_length zs N
  obtain ⟨l2, x2, P2, R2, _⟩ := join_ex (tokL zs N) (by omega) (fun t ht => Nat.le_trans (tokL_small zs N t ht) (by decide))
  rw [hlx] at P2 R2
  have C1 := Lib.hid (P1 a1 cap1 w h1 hc1 hm1 hn1 hg)
  have C2 := Lib.hid (fun W (h : Below w.heap.size w W) => R1 a1 cap1 W (h1.below h (Nat.le_refl _)))
  have C3 := Lib.hid (fun W (h : Below w.heap.size w W) => tokens_any a len cap zs N W (hz.below h (Nat.le_refl _)) (by omega) hN7)
  have HP := Lib.hid P2
  have HR := Lib.hid R2
  have HG := Lib.hid hg
  have hb15 := and_15 n
  rw [hN] at hb15
  clear hz hg hN h1 P1 R1 P2 R2 hz1
  go_enter Tryz.func5, Tryz.ntmps5
  go_wp2_with fail
  refine C1.out.mono ?_
  rintro e w1 ⟨rfl, hb1⟩
  have hs1 := hb1.size
  go_wp2_with fail
  refine (C2.out _ hb1).mono ?_
  rintro e w2 ⟨rfl, hb2⟩
  have hB2 := hb1.trans (hb2.mono hs1)
  have hs2 := hB2.size
  go_wp2_with fail
  refine (C3.out _ hB2).mono ?_
  rintro e w3 ⟨v3, rfl, ho3, hb3⟩
  have hB3 := hB2.trans (hb3.mono hs2)
  have hs3 := hB3.size
  obtain ⟨a3, cap3, rfl, t3, c3, m3, n3, _⟩ := own_toks ho3 hlx
  have CP := Lib.hid (HP.out a3 cap3 w3 t3 c3 m3 n3 (HG.out.next hB3))
  clear ho3 t3
  go_wp2_with fail
  refine CP.out.mono ?_
  rintro e w4 ⟨rfl, hb4⟩
  have hB4 := hB3.trans (hb4.mono hs3)
  have hs4 := hB4.size
  go_wp2_with fail
  refine (C3.out _ hB4).mono ?_
  rintro e w5 ⟨v5, rfl, ho5, hb5⟩
  have hB5 := hB4.trans (hb5.mono hs4)
  have hs5 := hB5.size
  obtain ⟨a5, cap5, rfl, t5, c5, m5, n5, _⟩ := own_toks ho5 hlx
  have CR := Lib.hid (HR.out a5 cap5 w5 t5)
  clear ho5 t5
  go_wp2_with fail
  refine CR.out.mono ?_
  rintro e w6 ⟨rfl, hb6⟩
  have hB6 := hB5.trans (hb6.mono hs5)
  have hs6 := hB6.size
  go_wp2_with fail
  refine (known_any7 _ (HG.out.next hB6)).mono ?_
  rintro e w7 ⟨rfl, hb7⟩
  go_wp2_with fail
  go_ret
  exact ⟨rfl, hB6.trans (hb7.mono hs6)⟩

end Go.Proofs.YtloccocengegnaaGreatDoor
