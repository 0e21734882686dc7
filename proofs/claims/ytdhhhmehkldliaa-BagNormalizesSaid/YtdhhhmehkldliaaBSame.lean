/-
  Same of the reference; negated.
-/
import Derived.Test.YtdhhhmehkldliaaBRead2
import Derived.BigQuiet
set_option linter.unusedVariables false
namespace Go.Proofs.Ytdhhhmehkldliaa
open Go.RowKit Wh

theorem keepFourCells {W0 W w' : World} {b o1 o2 b2 o3 o4 : Nat} {v1 v2 v3 v4 : Value} (hb : b < W0.heap.size) (hb2 : b2 < W0.heap.size)
    (h : W.cell? ⟨b, o1, none⟩ = some v1 ∧ W.cell? ⟨b, o2, none⟩ = some v2 ∧ W.cell? ⟨b2, o3, none⟩ = some v3 ∧ W.cell? ⟨b2, o4, none⟩ = some v4 ∧ Below W0.heap.size W0 W) (hc : Below W.heap.size W w') :
    w'.cell? ⟨b, o1, none⟩ = some v1 ∧ w'.cell? ⟨b, o2, none⟩ = some v2 ∧ w'.cell? ⟨b2, o3, none⟩ = some v3 ∧ w'.cell? ⟨b2, o4, none⟩ = some v4 ∧ Below W0.heap.size W0 w' := by
  obtain ⟨h1, h2, h3, h4, h5⟩ := h
  have e := (bcell hc).1
  have hs := h5.size
  refine ⟨?_, ?_, ?_, ?_, h5.trans (hc.mono hs)⟩ <;> (rw [e _ _ (by omega)]; assumption)

set_option maxHeartbeats 2000000 in
theorem rsame_any6 (a1 : Option Addr) (len1 cap1 : Nat) (xs : List En) (a2 : Option Addr) (len2 cap2 : Nat) (ys : List En) (w : World) (h1 : IsEnts w a1 len1 xs) (h2 : IsEnts w a2 len2 ys)
    (q1 : len1 ≤ 9223372036854775807) (q2 : len2 ≤ 9223372036854775807) :
    Calls Try.prog 25 #[.slice a1 len1 cap1, .slice a2 len2 cap2] w fun e w' => e = .returned (.bool (sameB xs ys)) ∧ Below w.heap.size w w' := by
  have NO := Lib.hid (fun (k : Nat) (x y : En) hx hy hn => sameB_no (a := xs) (b := ys) (k := k) (x := x) (y := y) hx hy hn)
  have YE := Lib.hid (fun hl (h : ∀ (k : Nat) (x y : En), xs[k]? = some x → ys[k]? = some y → x.cnt = y.cnt ∧ cmpR x.row y.row = 0) => sameB_yes (a := xs) (b := ys) hl h)
  have NL := Lib.hid (fun hl => sameB_len (a := xs) (b := ys) hl)
  generalize sameB xs ys = E at *
  have H1 := Lib.hid h1
  have H2 := Lib.hid h2
  have hl1 := h1.1
  have hl2 := h2.1
  clear h1 h2
  by_cases hl : len1 = len2
  · subst hl
    clear hl1 hl2
    go_enter Try.func25, Try.ntmps25
    go_wp2_with fail
    go_loopw [5] (fun iv wr => ∃ k : Nat, k ≤ len1 ∧ iv = .int .i64 k ∧ Hid (∀ (i : Nat) (x y : En), i < k → xs[i]? = some x → ys[i]? = some y → x.cnt = y.cnt ∧ cmpR x.row y.row = 0) ∧ Below w.heap.size w wr) (fun i _ => len1 - (intOf i).toNat)
    case atStart => exact ⟨0, Nat.zero_le _, rfl, fun i x y hi => absurd hi (by omega), Below.refl _ _⟩
    case round =>
      obtain ⟨k, hk, rfl, HI, hbel⟩ := hrel
      have hsz := hbel.size
      by_cases hlt : k < len1
      · obtain ⟨r1, n1, ra1, rl1, rc1, b1, off1, hx, rfl, hbl1, c0, c1, hv1, g1, g2, g3⟩ := (H1.out.below hbel (Nat.le_refl _)).at hlt
        obtain ⟨r2, n2, ra2, rl2, rc2, b2, off2, hy, rfl, hbl2, d0, d1, hv2, g4, g5, g6⟩ := (H2.out.below hbel (Nat.le_refl _)).at hlt
        have HX := Lib.hid hx
        have HY := Lib.hid hy
        have mm : maxLen = 9223372036854775807 := rfl
        clear hx hy
        by_cases hn : n1 = n2
        · subst hn
          have cs := Lib.hid (fun W (h : Below wr.heap.size wr W) => same_any ra1 rl1 rc1 r1 ra2 rl2 rc2 r2 W (hv1.below h (Nat.le_refl _)) (hv2.below h (Nat.le_refl _)) (by omega) (by omega))
          have hS0 : wr.drew.cell? ⟨b1, off1 + k * 2, none⟩ = some (.slice ra1 rl1 rc1) ∧ wr.drew.cell? ⟨b1, off1 + k * 2 + 1, none⟩ = some (.int .i64 n1) ∧ wr.drew.cell? ⟨b2, off2 + k * 2, none⟩ = some (.slice ra2 rl2 rc2) ∧ wr.drew.cell? ⟨b2, off2 + k * 2 + 1, none⟩ = some (.int .i64 n1) ∧ Below wr.heap.size wr wr.drew := ⟨c0, c1, d0, d1, (Below.refl _ _).drew⟩
          have hgn : (n1 != n1) = false := by simp
          by_cases hc : cmpR r1 r2 = 0
          · have HI2 : Hid (∀ (i : Nat) (x y : En), i < k + 1 → xs[i]? = some x → ys[i]? = some y → x.cnt = y.cnt ∧ cmpR x.row y.row = 0) := fun i u v hi hu hv => by
              by_cases e : i = k
              · subst e
                have e1 := HX.out
                have e2 := HY.out
                rw [hu] at e1
                rw [hv] at e2
                cases e1
                cases e2
                exact ⟨rfl, hc⟩
              · exact HI.out i u v (by omega) hu hv
            rw [hc] at cs
            clear HI NO YE NL HX HY hv1 hv2 mm hc c0 c1 d0 d1
            go_wp2_with fail
            go_region_held3 (fun w' => w'.cell? ⟨b1, off1 + k * 2, none⟩ = some (.slice ra1 rl1 rc1) ∧ w'.cell? ⟨b1, off1 + k * 2 + 1, none⟩ = some (.int .i64 n1) ∧ w'.cell? ⟨b2, off2 + k * 2, none⟩ = some (.slice ra2 rl2 rc2) ∧ w'.cell? ⟨b2, off2 + k * 2 + 1, none⟩ = some (.int .i64 n1) ∧ Below wr.heap.size wr w')
              (first | with_reducible exact hS0 | with_reducible exact keepFourCells hbl1 hbl2 hS0 hcall)
              (first | (go_at_call 59; refine (cs.out _ (by go_split_ands; assumption)).mono ?_; rintro e w' ⟨rfl, hcall⟩))
            all_goals
              have hF := hbel.trans ((keepFourCells hbl1 hbl2 hS0 hcall).2.2.2.2.mono hsz)
              go_wp2_with fail
              go_roundw
              case rel => exact ⟨k + 1, by omega, by go_num, HI2, hF⟩
              case measure => simp [intOf]; omega
          · obtain rfl := NO.out k _ _ HX.out HY.out (fun h => hc h.2)
            have hcb : (cmpR r1 r2 == 0) = false := by simpa using hc
            rw [hcb] at cs
            clear HI NO YE NL HX HY hv1 hv2 mm hc c0 c1 d0 d1 hcb
            go_wp2_with fail
            go_region_held3 (fun w' => w'.cell? ⟨b1, off1 + k * 2, none⟩ = some (.slice ra1 rl1 rc1) ∧ w'.cell? ⟨b1, off1 + k * 2 + 1, none⟩ = some (.int .i64 n1) ∧ w'.cell? ⟨b2, off2 + k * 2, none⟩ = some (.slice ra2 rl2 rc2) ∧ w'.cell? ⟨b2, off2 + k * 2 + 1, none⟩ = some (.int .i64 n1) ∧ Below wr.heap.size wr w')
              (first | with_reducible exact hS0 | with_reducible exact keepFourCells hbl1 hbl2 hS0 hcall)
              (first | (go_at_call 59; refine (cs.out _ (by go_split_ands; assumption)).mono ?_; rintro e w' ⟨rfl, hcall⟩))
            all_goals
              have hF := hbel.trans ((keepFourCells hbl1 hbl2 hS0 hcall).2.2.2.2.mono hsz)
              go_wp2_with fail
              go_ret
              exact ⟨rfl, hF⟩
        · obtain rfl := NO.out k _ _ HX.out HY.out (fun h => hn h.1)
          have hnb : (n1 != n2) = true := by simpa using hn
          clear HI NO YE NL HX HY hv1 hv2 mm
          go_wp2_with fail
          go_quiet (fail)
          go_wp2_with fail
          go_ret
          exact ⟨rfl, below_drewN hbel _⟩
      · obtain rfl := YE.out (by have := H1.out.1; have := H2.out.1; omega) fun i x y hx hy => HI.out i x y (by have := (List.getElem?_eq_some_iff.1 hx).1; have := H1.out.1; omega) hx hy
        clear NO YE HI NL
        go_wp2_with fail
        go_ret
        exact ⟨rfl, hbel⟩
  · obtain rfl := NL.out (by omega)
    have hn : ¬ (len1 : Int) = len2 := by omega
    clear NO YE NL hl1 hl2 H1 H2 hl
    go_enter Try.func25, Try.ntmps25
    go_wp2_with fail
    go_ret
    exact ⟨rfl, Below.refl _ _⟩

/-- Two slices that own the same entries are the same. -/
theorem rsame_true {a1 a2 : Option Addr} {len c1 c2 : Nat} {es : List En} {w : World} (h1 : IsEnts w a1 len es) (h2 : IsEnts w a2 len es) (q : len ≤ 9223372036854775807) :
    Calls Try.prog 25 #[.slice a1 len c1, .slice a2 len c2] w fun e w' => e = .returned (.bool true) ∧ Below w.heap.size w w' := by
  have h := rsame_any6 a1 len c1 es a2 len c2 es w h1 h2 q q
  rw [sameB_iff.2 rfl] at h
  exact h

end Go.Proofs.Ytdhhhmehkldliaa
