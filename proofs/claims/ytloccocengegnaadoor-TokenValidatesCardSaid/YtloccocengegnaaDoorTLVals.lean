/-
  TokenValidates: its walk.
-/
import Derived.Test.YtloccocengegnaaDoorTKit
import Derived.Test.YtloccocengegnaaDoorTRTok
import Derived.Test.YtloccocengegnaaDoorTDraw
import Derived.Test.YtloccocengegnaaDoorMask
set_option linter.unusedVariables false
set_option maxRecDepth 100000
namespace Go.Proofs.YtloccocengegnaaDoor
open Go.RowKit Wh

set_option maxHeartbeats 4000000 in
theorem tvalidates_walk (w : World) (a1 : Option Addr) (len1 cap1 : Nat) (ts : List TA) (h1 : IsToks w a1 len1 ts) (hc1 : len1 ≤ cap1) (hm1 : cap1 ≤ maxLen) (hn1 : a1 = none → cap1 = 0) (hz1 : ∀ t ∈ ts, t.1.tx.size ≤ 9223372036854775800)
    (a : Option Addr) (len cap : Nat) (zs : List Int) (hz : IsInts w a len zs) (hc : len ≤ cap) (hm : cap ≤ maxLen) (n : Int) (hn2 : -9223372036854775808 ≤ n) (hn3 : n ≤ 9223372036854775807) (hg : Glo w) :
    Calls Tryd.prog 4 #[.slice a1 len1 cap1, .slice a len cap, .int .i64 n] w fun e w' => e = .returned (.bool true) ∧ Below w.heap.size w w' := by
  have mm : maxLen = 9223372036854775807 := rfl
  by_cases hl : 200 < len1
  · have CK := Lib.hid (known_any7 w hg)
    clear hz hg h1 hz1
    go_enter Tryd.func4, Tryd.ntmps4
    go_wp2_with fail
    refine CK.out.mono ?_
    rintro e w1 ⟨rfl, hb1⟩
    go_wp2_with fail
    go_ret
    exact ⟨rfl, hb1⟩
  obtain ⟨N, hN, hN7⟩ : ∃ N : Nat, n % 16 = (N : Int) ∧ N ≤ 15 := ⟨(n % 16).toNat, by omega, by omega⟩
  obtain ⟨M, hM, hM7⟩ : ∃ M : Nat, n / 16 % 4 = (M : Int) ∧ M ≤ 3 := ⟨(n / 16 % 4).toNat, by omega, by omega⟩
  have hlx := tokL_length zs N
  have hsmall : ∀ t ∈ tokL zs N, t.1.tx.size ≤ 9223372036854775800 := fun t ht => Nat.le_trans (tokL_small zs N t ht) (by decide)
  have C3 := Lib.hid (tokens_any a len cap zs N w hz (by omega) hN7)
  have CP := Lib.hid (fun W (h : Below w.heap.size w W) => validate_any7 a1 len1 cap1 ts W (h1.below h (Nat.le_refl _)) (by omega) hz1)
  have CR := Lib.hid (fun W (h : Below w.heap.size w W) => rvalidate_any7 a1 len1 cap1 ts W (h1.below h (Nat.le_refl _)) (by omega) hz1)
  generalize valE ts = v1 at *
  have HG := Lib.hid hg
  have hb15 := and_15 n
  rw [hN] at hb15
  have hb3 := and_3 (n / 16)
  rw [hM] at hb3
  clear hz hg hN hM h1 hz1
  go_enter Tryd.func4, Tryd.ntmps4
  go_wp2_with fail
  refine C3.out.mono ?_
  rintro e w3 ⟨v3, rfl, ho3, hB3⟩
  have hs3 := hB3.size
  obtain ⟨a3, cap3, rfl, t3, c3, m3, n3, g3⟩ := own_toks ho3 hlx
  clear ho3 C3
  by_cases hM0 : M = 0
  · subst hM0
    have hsl : ∀ W, (Instr.slice 26 (.slice a3 (N + 1) cap3) none (some (.int .i64 N)) none).run Tryd.prog W = .ok (.slice a3 N cap3) W := fun W => slice_to_toks a3 (N + 1) cap3 N (by omega) m3 n3 (fun x hx => by obtain ⟨g, rfl, _⟩ := g3 x hx; rfl) W
    have T3 := Lib.hid (t3.take (k := N) (by omega))
    have hsm2 : ∀ t ∈ (tokL zs N).take N, t.1.tx.size ≤ 9223372036854775800 := fun t ht => hsmall t (List.mem_of_mem_take ht)
    have CX := Lib.hid (fun W (h : Below w3.heap.size w3 W) => validate_any7 a3 N cap3 ((tokL zs N).take N) W (T3.out.below h (Nat.le_refl _)) (by omega) hsm2)
    have CY := Lib.hid (fun W (h : Below w3.heap.size w3 W) => rvalidate_any7 a3 N cap3 ((tokL zs N).take N) W (T3.out.below h (Nat.le_refl _)) (by omega) hsm2)
    generalize valE ((tokL zs N).take N) = v2 at *
    clear t3 hsmall hsm2 T3
    go_wp2_with fail
    refine (CP.out _ hB3).mono ?_
    rintro e w4 ⟨rfl, hb4⟩
    have hB4 := hB3.trans (hb4.mono hs3)
    go_wp2_with fail
    refine (CR.out _ hB4).mono ?_
    rintro e w5 ⟨rfl, hb5⟩
    have hb45 := hb4.trans (hb5.mono hb4.size)
    go_wp2_with fail
    refine (CX.out _ hb45).mono ?_
    rintro e w6 ⟨rfl, hb6⟩
    have hb46 := hb45.trans (hb6.mono hb45.size)
    go_wp2_with fail
    refine (CY.out _ hb46).mono ?_
    rintro e w7 ⟨rfl, hb7⟩
    have hb47 := hb46.trans (hb7.mono hb46.size)
    have hB7 := hB3.trans (hb47.mono hs3)
    go_wp2_with fail
    refine (known_any7 _ (HG.out.next hB7)).mono ?_
    rintro e w8 ⟨rfl, hb8⟩
    go_wp2_with fail
    go_ret
    exact ⟨rfl, hB7.trans (hb8.mono hB7.size)⟩
  · have T3 := Lib.hid t3
    have CX := Lib.hid (fun W (h : Below w3.heap.size w3 W) => validate_any7 a3 (N + 1) cap3 (tokL zs N) W (T3.out.below h (Nat.le_refl _)) (by omega) hsmall)
    have CY := Lib.hid (fun W (h : Below w3.heap.size w3 W) => rvalidate_any7 a3 (N + 1) cap3 (tokL zs N) W (T3.out.below h (Nat.le_refl _)) (by omega) hsmall)
    generalize valE (tokL zs N) = v2 at *
    clear t3 hsmall T3
    go_wp2_with fail
    refine (CP.out _ hB3).mono ?_
    rintro e w4 ⟨rfl, hb4⟩
    have hB4 := hB3.trans (hb4.mono hs3)
    go_wp2_with fail
    refine (CR.out _ hB4).mono ?_
    rintro e w5 ⟨rfl, hb5⟩
    have hb45 := hb4.trans (hb5.mono hb4.size)
    go_wp2_with fail
    refine (CX.out _ hb45).mono ?_
    rintro e w6 ⟨rfl, hb6⟩
    have hb46 := hb45.trans (hb6.mono hb45.size)
    go_wp2_with fail
    refine (CY.out _ hb46).mono ?_
    rintro e w7 ⟨rfl, hb7⟩
    have hb47 := hb46.trans (hb7.mono hb46.size)
    have hB7 := hB3.trans (hb47.mono hs3)
    go_wp2_with fail
    refine (known_any7 _ (HG.out.next hB7)).mono ?_
    rintro e w8 ⟨rfl, hb8⟩
    go_wp2_with fail
    go_ret
    exact ⟨rfl, hB7.trans (hb8.mono hB7.size)⟩

end Go.Proofs.YtloccocengegnaaDoor

