/-
  Sum, Negate, Add, Subtract, of the reference.
-/
import Derived.Test.YtdhhhmehkldliaaBRes
import Derived.Test.YtdhhhmehkldliaaBRead2
import Derived.Test.YtdhhhmehkldliaaBSort
import Derived.Test.YtdhhhmehkldliaaBNeg
set_option linter.unusedVariables false
namespace Wh

theorem sortL_mem : ∀ (n : Nat) (l : List En), l.length ≤ n → ∀ e ∈ sortL l, ∃ x ∈ l, x.row = e.row := by
  intro n
  induction n with
  | zero => intro l h e he; rw [sortL_small (by omega)] at he; exact ⟨e, he, rfl⟩
  | succ n ih =>
    intro l h e he
    by_cases h2 : l.length < 2
    · rw [sortL_small h2] at he; exact ⟨e, he, rfl⟩
    · rw [sortL_halves h2] at he
      obtain ⟨x, hx, hr⟩ := mergeL_mem _ _ _ (Nat.le_refl _) e he
      rcases hx with hx | hx
      · obtain ⟨y, hy, hr2⟩ := ih (l.take (l.length / 2)) (by rw [List.length_take]; omega) x hx
        exact ⟨y, List.mem_of_mem_take hy, hr2.trans hr⟩
      · obtain ⟨y, hy, hr2⟩ := ih (l.drop (l.length / 2)) (by rw [List.length_drop]; omega) x hx
        exact ⟨y, List.mem_of_mem_drop hy, hr2.trans hr⟩

/-- No row is too long for the machine. -/
def RowsB (l : List En) : Prop := ∀ e ∈ l, e.row.length ≤ 1000000
theorem RowsB.sort {l : List En} (h : RowsB l) : RowsB (sortL l) := fun e he => by
  obtain ⟨x, hx, hr⟩ := sortL_mem _ l (Nat.le_refl _) e he
  rw [← hr]
  exact h x hx
theorem RowsB.merge {a b : List En} (h : RowsB a) (g : RowsB b) : RowsB (mergeL a b) := fun e he => by
  obtain ⟨x, hx, hr⟩ := mergeL_mem _ a b (Nat.le_refl _) e he
  rw [← hr]
  rcases hx with hx | hx
  · exact h x hx
  · exact g x hx
theorem RowsB.neg {l : List En} (h : RowsB l) : RowsB (negL l) := fun e he => by
  unfold negL at he
  obtain ⟨x, hx, rfl⟩ := List.mem_map.1 he
  exact h x hx
theorem OkBag.rows {l : List En} (h : OkBag l) : RowsB l := fun e he => by
  have := (fitE_zero (h.fit e he)).1
  omega
theorem OkBag.abs {l : List En} (h : OkBag l) : absS l ≤ 268435456 := by
  have h1 := absS_bd (es := l) fun e he => by
    have := fitE_zero (h.fit e he)
    exact ⟨this.2.1, this.2.2.1⟩
  have h2 := h.len
  omega
theorem twoE_zero {a b : List En} : twoE a b = 0 ↔ bagE a = 0 ∧ bagE b = 0 := by
  unfold twoE
  by_cases h : bagE a = 0
  · rw [if_pos h]; exact ⟨fun g => ⟨h, g⟩, fun g => g.2⟩
  · rw [if_neg h]; exact ⟨fun g => absurd g h, fun g => absurd g.1 h⟩

end Wh
namespace Go.Proofs.Ytdhhhmehkldliaa
open Go.RowKit Wh

set_option maxHeartbeats 2000000
set_option maxRecDepth 100000

theorem rsum_any (a : Option Addr) (len cap : Nat) (es : List En) (w : World) (hs : IsEnts w a len es) (p1 : len ≤ cap) (p2 : cap ≤ maxLen) (p3 : a = none → cap = 0) (hl : len ≤ 1000000) (hab : absS es ≤ 1000000000000) (hrw : RowsB es) :
    Calls Try.prog 58 #[.slice a len cap] w (EntsErr w (sumOut es)) := by
  have hln := hs.1
  have c1 := rsorted_any len a len cap es w (Nat.le_refl _) hs p1 p2 p3 hl hab
  have l1 := (sortL_facts _ es (Nat.le_refl _)).2.2
  have r1 := hrw.sort
  unfold sumOut
  generalize sortL es = e1 at *
  have hl1 : e1.length ≤ 1000000 := by omega
  have C1 := Lib.hid c1
  have R1 := Lib.hid r1
  clear c1 r1 hs hrw hab l1
  go_enter Try.func58, Try.ntmps58
  go_wp2_with fail
  refine C1.out.mono ?_
  rintro e w1 ⟨v1, rfl, ho1, hb1⟩
  obtain ⟨a5, k5, rfl, hi1, i1, i2, i3, _⟩ := own_ents ho1
  go_wp2_with fail
  refine (rresult_any a5 e1.length k5 e1 w1 hi1 hl1 R1.out).mono ?_
  rintro e w2 ⟨v2, rfl, ho2, hb2⟩
  go_wp2_with fail
  go_ret2
  exact ⟨_, rfl, ho2.mono hb1.size, hb1.trans (hb2.mono hb1.size)⟩

theorem rnegate_any6 (a : Option Addr) (len cap : Nat) (es : List En) (w : World) (hs : IsEnts w a len es) (hl : len ≤ 9223372036854775807) :
    Calls Try.prog 33 #[.slice a len cap] w (EntsErr w (negOut es)) := by
  have hln := hs.1
  have c1 := rvalidate_any6 a len cap es w hs hl
  unfold negOut
  by_cases hz : bagE es = 0
  · have ok := bagE_zero.1 hz
    rw [if_pos hz]
    rw [hz] at c1
    have hl5 : len ≤ 1000000 := by have := ok.len; omega
    have hab : absS es ≤ 1000000000000 := by have := ok.abs; omega
    have C2 := Lib.hid (fun W (h : Below w.heap.size w W) => rnegated_any a len cap es W (hs.below h (Nat.le_refl _)) hl5 hab)
    have R1 := Lib.hid ok.rows.neg
    have hl1 : (negL es).length ≤ 1000000 := by rw [negL_length]; omega
    generalize negL es = e1 at *
    have C1 := Lib.hid c1
    clear c1 hs ok hz hab
    go_enter Try.func33, Try.ntmps33
    go_wp2_with fail
    refine C1.out.mono ?_
    rintro e w1 ⟨rfl, hb1⟩
    go_wp2_with fail
    refine (C2.out _ hb1).mono ?_
    rintro e w2 ⟨v2, rfl, ho2, hb2⟩
    obtain ⟨a5, k5, rfl, hi1, i1, i2, i3, _⟩ := own_ents ho2
    have hB2 := hb1.trans (hb2.mono hb1.size)
    go_wp2_with fail
    refine (rresult_any a5 e1.length k5 e1 w2 hi1 hl1 R1.out).mono ?_
    rintro e w3 ⟨v3, rfl, ho3, hb3⟩
    go_wp2_with fail
    go_ret2
    exact ⟨_, rfl, ho3.mono hB2.size, hB2.trans (hb3.mono hB2.size)⟩
  · rw [if_neg hz]
    generalize bagE es = z at *
    have hz0 : (z == 0) = false := by simpa using hz
    have C1 := Lib.hid c1
    clear c1 hs hz
    go_enter Try.func33, Try.ntmps33
    go_wp2_with fail
    refine C1.out.mono ?_
    rintro e w1 ⟨rfl, hb1⟩
    go_wp2_with fail
    go_ret2
    exact ⟨_, rfl, OwnEnts.nil _ _, hb1⟩

theorem radd_any6 (a : Option Addr) (len cap : Nat) (es : List En) (a2 : Option Addr) (len2 cap2 : Nat) (fs : List En) (w : World) (hs : IsEnts w a len es) (hl : len ≤ 9223372036854775807) (hs2 : IsEnts w a2 len2 fs) (hl2 : len2 ≤ 9223372036854775807)
    (p1 : len ≤ cap) (p2 : cap ≤ maxLen) (p3 : a = none → cap = 0) (p4 : len2 ≤ cap2) (p5 : cap2 ≤ maxLen) (p6 : a2 = none → cap2 = 0) :
    Calls Try.prog 29 #[.slice a len cap, .slice a2 len2 cap2] w (EntsErr w (addOut es fs)) := by
  have hln := hs.1
  have hln2 := hs2.1
  have c1 := rtwo_any a len cap es a2 len2 cap2 fs w hs hl hs2 hl2
  unfold addOut
  by_cases hz : twoE es fs = 0
  · obtain ⟨z1, z2⟩ := twoE_zero.1 hz
    have ok1 := bagE_zero.1 z1
    have ok2 := bagE_zero.1 z2
    rw [if_pos hz]
    rw [hz] at c1
    have hsm : len + len2 ≤ 1000000 := by have := ok1.len; have := ok2.len; omega
    have hab : absS es + absS fs ≤ 1000000000000 := by have := ok1.abs; have := ok2.abs; omega
    have C2 := Lib.hid (fun W (h : Below w.heap.size w W) => rmerge_any a len cap es a2 len2 cap2 fs W (hs.below h (Nat.le_refl _)) (hs2.below h (Nat.le_refl _)) p1 p2 p3 p4 p5 p6 hsm hab)
    have R1 := Lib.hid (ok1.rows.merge ok2.rows)
    have hl1 : (mergeL es fs).length ≤ 1000000 := by have := mergeL_length _ es fs (Nat.le_refl _); omega
    generalize mergeL es fs = e1 at *
    have C1 := Lib.hid c1
    clear c1 hs hs2 ok1 ok2 z1 z2 hz hab
    go_enter Try.func29, Try.ntmps29
    go_wp2_with fail
    refine C1.out.mono ?_
    rintro e w1 ⟨rfl, hb1⟩
    go_wp2_with fail
    refine (C2.out _ hb1).mono ?_
    rintro e w2 ⟨v2, rfl, ho2, hb2⟩
    obtain ⟨a5, k5, rfl, hi1, i1, i2, i3, _⟩ := own_ents ho2
    have hB2 := hb1.trans (hb2.mono hb1.size)
    go_wp2_with fail
    refine (rresult_any a5 e1.length k5 e1 w2 hi1 hl1 R1.out).mono ?_
    rintro e w3 ⟨v3, rfl, ho3, hb3⟩
    go_wp2_with fail
    go_ret2
    exact ⟨_, rfl, ho3.mono hB2.size, hB2.trans (hb3.mono hB2.size)⟩
  · rw [if_neg hz]
    generalize twoE es fs = z at *
    have hz0 : (z == 0) = false := by simpa using hz
    have C1 := Lib.hid c1
    clear c1 hs hs2 hz
    go_enter Try.func29, Try.ntmps29
    go_wp2_with fail
    refine C1.out.mono ?_
    rintro e w1 ⟨rfl, hb1⟩
    go_wp2_with fail
    go_ret2
    exact ⟨_, rfl, OwnEnts.nil _ _, hb1⟩

theorem rsubtract_any6 (a : Option Addr) (len cap : Nat) (es : List En) (a2 : Option Addr) (len2 cap2 : Nat) (fs : List En) (w : World) (hs : IsEnts w a len es) (hl : len ≤ 9223372036854775807) (hs2 : IsEnts w a2 len2 fs) (hl2 : len2 ≤ 9223372036854775807)
    (p1 : len ≤ cap) (p2 : cap ≤ maxLen) (p3 : a = none → cap = 0) (p4 : len2 ≤ cap2) (p5 : cap2 ≤ maxLen) (p6 : a2 = none → cap2 = 0) :
    Calls Try.prog 31 #[.slice a len cap, .slice a2 len2 cap2] w (EntsErr w (subOut es fs)) := by
  have hln := hs.1
  have hln2 := hs2.1
  have c1 := rtwo_any a len cap es a2 len2 cap2 fs w hs hl hs2 hl2
  unfold subOut
  by_cases hz : twoE es fs = 0
  · obtain ⟨z1, z2⟩ := twoE_zero.1 hz
    have ok1 := bagE_zero.1 z1
    have ok2 := bagE_zero.1 z2
    rw [if_pos hz]
    rw [hz] at c1
    have hb2 : len2 ≤ 1000000 := by have := ok2.len; omega
    have ab2 : absS fs ≤ 1000000000000 := by have := ok2.abs; omega
    have hnl := negL_length fs
    have hsm : len + (negL fs).length ≤ 1000000 := by have := ok1.len; have := ok2.len; omega
    have hab : absS es + absS (negL fs) ≤ 1000000000000 := by rw [absS_neg]; have := ok1.abs; have := ok2.abs; omega
    have C3 := Lib.hid (fun W (h : Below w.heap.size w W) => rnegated_any a2 len2 cap2 fs W (hs2.below h (Nat.le_refl _)) hb2 ab2)
    have C2 := Lib.hid (fun W (h : Below w.heap.size w W) a6 k6 (h6 : IsEnts W a6 (negL fs).length (negL fs)) q4 q5 q6 => rmerge_any a len cap es a6 (negL fs).length k6 (negL fs) W (hs.below h (Nat.le_refl _)) h6 p1 p2 p3 q4 q5 q6 hsm hab)
    have R1 := Lib.hid (ok1.rows.merge ok2.rows.neg)
    have hl1 : (mergeL es (negL fs)).length ≤ 1000000 := by have := mergeL_length _ es (negL fs) (Nat.le_refl _); omega
    generalize mergeL es (negL fs) = e1 at *
    generalize negL fs = gs at *
    have C1 := Lib.hid c1
    clear c1 hs hs2 ok1 ok2 z1 z2 hz hab ab2 hnl hln hln2
    go_enter Try.func31, Try.ntmps31
    go_wp2_with fail
    refine C1.out.mono ?_
    rintro e w1 ⟨rfl, hb1⟩
    go_wp2_with fail
    refine (C3.out _ hb1).mono ?_
    rintro e w2 ⟨v2, rfl, ho2, hb2⟩
    obtain ⟨a6, k6, rfl, hi6, j1, j2, j3, _⟩ := own_ents ho2
    have hB2 := hb1.trans (hb2.mono hb1.size)
    go_wp2_with fail
    refine (C2.out _ hB2 a6 k6 hi6 j1 j2 j3).mono ?_
    rintro e w3 ⟨v3, rfl, ho3, hb3⟩
    obtain ⟨a5, k5, rfl, hi1, i1, i2, i3, _⟩ := own_ents ho3
    have hB3 := hB2.trans (hb3.mono hB2.size)
    go_wp2_with fail
    refine (rresult_any a5 e1.length k5 e1 w3 hi1 hl1 R1.out).mono ?_
    rintro e w4 ⟨v4, rfl, ho4, hb4⟩
    go_wp2_with fail
    go_ret2
    exact ⟨_, rfl, ho4.mono hB3.size, hB3.trans (hb4.mono hB3.size)⟩
  · rw [if_neg hz]
    generalize twoE es fs = z at *
    have hz0 : (z == 0) = false := by simpa using hz
    have C1 := Lib.hid c1
    clear c1 hs hs2 hz
    go_enter Try.func31, Try.ntmps31
    go_wp2_with fail
    refine C1.out.mono ?_
    rintro e w1 ⟨rfl, hb1⟩
    go_wp2_with fail
    go_ret2
    exact ⟨_, rfl, OwnEnts.nil _ _, hb1⟩

end Go.Proofs.Ytdhhhmehkldliaa
