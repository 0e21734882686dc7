/-
  known and splits, of the laws.
-/
import Derived.Test.YtloccocengegnaaDoorTSame
import Derived.Test.YtloccocengegnaaDoorTRSplit
import Derived.Test.YtloccocengegnaaDoorTPTok
import Derived.Test.YtloccocengegnaaDoorTRound
set_option linter.unusedVariables false
set_option maxRecDepth 100000
namespace Wh
open Go Go.Proofs.YtloccocengegnaaDoor

theorem known_1 : splitP ⟨#[97, 62, 61, 49, 32, 39, 105, 116, 39, 39, 115, 39]⟩ = ⟨[(⟨1, ⟨#[97]⟩, 0⟩, 0), (⟨5, ⟨#[62, 61]⟩, 0⟩, 1), (⟨2, ⟨#[]⟩, 1⟩, 3), (⟨3, ⟨#[105, 116, 39, 115]⟩, 0⟩, 5), (noT, 12)], 0, 0⟩ := by kernel_rfl
theorem known_2 : splitP ⟨#[120, 32, 57, 97]⟩ = ⟨[], 2, 3⟩ := by kernel_rfl
theorem known_3 : resB ⟨#[115, 101, 108, 102]⟩ = true := by decide +kernel

end Wh
namespace Go.Proofs.YtloccocengegnaaDoor
open Go.RowKit Wh

set_option maxHeartbeats 4000000 in
theorem known_any7 (w : World) (hg : Glo w) : Calls Tryd.prog 8 #[] w fun e w' => e = .returned (.bool true) ∧ Below w.heap.size w w' := by
  have C1 := Lib.hid (split_any ⟨#[97, 62, 61, 49, 32, 39, 105, 116, 39, 39, 115, 39]⟩ w (by decide) hg)
  have C2 := Lib.hid (fun W (hW : Below w.heap.size w W) => split_any ⟨#[120, 32, 57, 97]⟩ W (by decide) (hg.next hW))
  have C3 := Lib.hid (fun W => tReserved_any ⟨#[115, 101, 108, 102]⟩ W)
  rw [known_1] at C1
  rw [known_2] at C2
  rw [known_3] at C3
  go_enter Tryd.func8, Tryd.ntmps8
  go_wp2_with fail
  refine C1.out.mono ?_
  rintro e w1 ⟨a1, cap1, rfl, ht1, hc1, hm1, hn1, hx1, hb1⟩
  have HT1 := Lib.hid ht1
  have hs1 := hb1.size
  clear ht1 hc1 hm1 hn1 hx1
  go_wp2_with fail
  refine (C2.out _ hb1).mono ?_
  rintro e w2 ⟨a2, cap2, rfl, ht2, hc2, hm2, hn2, hx2, hb2⟩
  have HT2 := Lib.hid (HT1.out.below hb2 (Nat.le_refl _))
  clear ht2 hc2 hm2 hn2 hx2
  obtain ⟨k1, x1, n1, p1, b, off, e1, rfl, hblt, c10, c11, c12, c13⟩ := HT2.out.at (k := 1) (by decide)
  obtain ⟨k2, x2, n2, p2, b', off', e2, hb', _, c20, c21, c22, c23⟩ := HT2.out.at (k := 2) (by decide)
  cases hb'
  obtain ⟨k3, x3, n3, p3, b', off', e3, hb', _, c30, c31, c32, c33⟩ := HT2.out.at (k := 3) (by decide)
  cases hb'
  obtain ⟨k4, x4, n4, p4, b', off', e4, hb', _, c40, c41, c42, c43⟩ := HT2.out.at (k := 4) (by decide)
  cases hb'
  cases e1
  cases e2
  cases e3
  cases e4
  clear C1 C2 HT1 HT2
  have HB := Lib.hid (hb1.trans (hb2.mono hs1))
  go_wp2_with (go_at_call 6; refine (C3.out _).mono ?_; rintro e w3 ⟨rfl, rfl⟩)
  go_ret
  exact ⟨rfl, HB.out⟩

end Go.Proofs.YtloccocengegnaaDoor

