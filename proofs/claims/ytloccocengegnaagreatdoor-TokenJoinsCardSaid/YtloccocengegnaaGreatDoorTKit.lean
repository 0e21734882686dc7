/-
  known and splits, of the laws.
-/
import Derived.Test.YtloccocengegnaaGreatDoorTSame
import Derived.Test.YtloccocengegnaaGreatDoorTRSplit
import Derived.Test.YtloccocengegnaaGreatDoorTPTok
import Derived.Test.YtloccocengegnaaGreatDoorTRound
set_option linter.unusedVariables false
set_option maxRecDepth 100000
namespace Wh
open Go Go.Proofs.YtloccocengegnaaGreatDoor

theorem known_1 : splitP ⟨#[97, 62, 61, 49, 32, 39, 105, 116, 39, 39, 115, 39]⟩ = ⟨[(⟨1, ⟨#[97]⟩, 0⟩, 0), (⟨5, ⟨#[62, 61]⟩, 0⟩, 1), (⟨2, ⟨#[]⟩, 1⟩, 3), (⟨3, ⟨#[105, 116, 39, 115]⟩, 0⟩, 5), (noT, 12)], 0, 0⟩ := by kernel_rfl
theorem known_2 : splitP ⟨#[120, 32, 57, 97]⟩ = ⟨[], 2, 3⟩ := by kernel_rfl
theorem known_3 : resB ⟨#[115, 101, 108, 102]⟩ = true := by decide +kernel

end Wh
namespace Go.Proofs.YtloccocengegnaaGreatDoor
open Go.RowKit Wh

set_option maxHeartbeats 4000000 in
theorem known_any7 (w : World) (hg : Glo w) : Calls Tryz.prog 6 #[] w fun e w' => e = .returned (.bool true) ∧ Below w.heap.size w w' := by
  have C1 := Lib.hid (split_any ⟨#[97, 62, 61, 49, 32, 39, 105, 116, 39, 39, 115, 39]⟩ w (by decide) hg)
  have C2 := Lib.hid (fun W (hW : Below w.heap.size w W) => split_any ⟨#[120, 32, 57, 97]⟩ W (by decide) (hg.next hW))
  have C3 := Lib.hid (fun W => tReserved_any ⟨#[115, 101, 108, 102]⟩ W)
  rw [known_1] at C1
  rw [known_2] at C2
  rw [known_3] at C3
  go_enter Tryz.func6, Tryz.ntmps6
  go_wp2_with fail
  refine C1.out.mono ?_
  rintro e w1 ⟨a1, cap1, rfl, ht1, hc1, hm1, hn1, hx1, hb1⟩
  have HT1 := Lib.hid ht1
  have hs1 := hb1.size
  clear ht1 hc1 hm1 hn1 hx1
  go_wp2_with fail
  refine (C2.out _ hb1).mono ?_
  rintro e w2 ⟨a2, cap2, rfl, ht2, hc2, hm2, hn2, hx2, hb2⟩
  have HT2 := Lib.hid (HT1.out.below hb2 (Nat.le_refl _))
  clear ht2 hc2 hm2 hn2 hx2
  obtain ⟨k1, x1, n1, p1, b, off, e1, rfl, hblt, c10, c11, c12, c13⟩ := HT2.out.at (k := 1) (by decide)
  obtain ⟨k2, x2, n2, p2, b', off', e2, hb', _, c20, c21, c22, c23⟩ := HT2.out.at (k := 2) (by decide)
  cases hb'
  obtain ⟨k3, x3, n3, p3, b', off', e3, hb', _, c30, c31, c32, c33⟩ := HT2.out.at (k := 3) (by decide)
  cases hb'
  obtain ⟨k4, x4, n4, p4, b', off', e4, hb', _, c40, c41, c42, c43⟩ := HT2.out.at (k := 4) (by decide)
  cases hb'
  cases e1
  cases e2
  cases e3
  cases e4
  clear C1 C2 HT1 HT2
  have HB := Lib.hid (hb1.trans (hb2.mono hs1))
  go_wp2_with (go_at_call 13; refine (C3.out _).mono ?_; rintro e w3 ⟨rfl, rfl⟩)
  go_ret
  exact ⟨rfl, HB.out⟩

set_option maxHeartbeats 4000000 in
theorem splits_any (s : ByteArray) (hs : s.size ≤ 65536) (w : World) (hg : Glo w) : Calls Tryz.prog 7 #[.string s] w fun e w' => e = .returned (.bool true) ∧ Below w.heap.size w w' := by
  have C1 := Lib.hid (split_any s w (by omega) hg)
  have C2 := Lib.hid (fun W => rsplit_any s W (by omega))
  obtain ⟨o, ho⟩ : ∃ o, splitP s = o := ⟨_, rfl⟩
  have hlen : o.l.length ≤ 65538 := by
    subst ho
    cases h : splitP s with
    | mk l j e =>
      by_cases he : e = 0
      · subst he
        obtain ⟨ms, p, h1, _, _, h4⟩ := split_ok hs h
        show l.length ≤ _
        rw [h1]
        simp
        omega
      · have h5 : ∀ n i, (splitF s n i).e = 0 ∨ (splitF s n i).l = [] := by
          intro n
          induction n with
          | zero => intro i; exact .inr rfl
          | succ n ih =>
            intro i
            unfold splitF
            split
            · exact .inl rfl
            · split
              · unfold accO
                split
                · exact .inl rfl
                · rename_i hq
                  exact (ih _).elim (fun h => absurd h hq) .inr
              · exact .inr rfl
        unfold splitP at h
        rw [if_neg (by omega)] at h
        unfold splitA at h
        rcases h5 (s.size - 0 + 1) 0 with h6 | h6
        · rw [h] at h6; exact absurd h6 he
        · rw [h] at h6; simp only at h6; show l.length ≤ _; rw [h6]; exact Nat.zero_le _
  rw [ho] at C1 C2
  clear ho
  obtain ⟨l, i, x⟩ := o
  simp only at hlen
  unfold IsOut at C1 C2
  simp only at C1 C2
  go_enter Tryz.func7, Tryz.ntmps7
  go_wp2_with fail
  refine C1.out.mono ?_
  rintro e w1 ⟨a1, cap1, rfl, ht1, hc1, hm1, hn1, hx1, hb1⟩
  have HT1 := Lib.hid ht1
  have hs1 := hb1.size
  clear ht1 hc1 hm1 hn1 hx1
  go_wp2_with fail
  refine (C2.out _).mono ?_
  rintro e w2 ⟨a2, cap2, rfl, ht2, hc2, hm2, hn2, hx2, hb2⟩
  have HT2 := Lib.hid ht2
  have CE := Lib.hid (exact_yes a1 l.length cap1 a2 cap2 l w2 (HT1.out.below hb2 (Nat.le_refl _)) ht2 (by omega))
  have HB := Lib.hid (hb1.trans (hb2.mono hs1))
  have hs2 := HB.out.size
  clear ht2 hc2 hm2 hn2 hx2 C1 C2 hb1 hb2
  go_wp2_with (go_at_call 15; refine CE.out.mono ?_; rintro e w3 ⟨rfl, hb3⟩)
  go_ret
  exact ⟨rfl, HB.out.trans (hb3.mono hs2)⟩

end Go.Proofs.YtloccocengegnaaGreatDoor
