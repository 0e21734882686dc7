/-
  Widen of the reference.
-/
import Derived.Test.YtdlkkajkflebgaaSWiden
import Derived.Deep.AppendLies
set_option linter.unusedVariables false
namespace Go.Proofs.Ytdlkkajkflebgaa
open Go.RowKit Wh

theorem flat3_set2 (l : List T3) (k : Nat) (t : T3) (h : l[k]? = some t) (z : Value) : (flat3 l).set (k * 3 + 2) z = flat3 (l.set k (t.1, t.2.1, z)) := by
  unfold flat3
  induction l generalizing k with
  | nil => simp at h
  | cons u l ih =>
    cases k with
    | zero => simp at h; subst h; simp
    | succ k =>
      simp only [List.getElem?_cons_succ] at h
      have := ih k h
      rw [show (k + 1) * 3 = k * 3 + 1 + 1 + 1 from by omega]
      simpa [List.flatMap_cons] using this

/-- The cells of columns that came in. -/
theorem cols_news {w : World} {b off len : Nat} {cs : List C} (h : IsCols w (some ⟨b, off, none⟩) len cs) : ∀ j u, (flat3 (cs.map cC))[j]? = some u → w.cell? ((⟨b, off, none⟩ : Addr).add j) = some u := by
  intro j u hu
  have hadd : (⟨b, off, none⟩ : Addr).add j = ⟨b, off + j, none⟩ := by unfold Addr.add; split <;> simp_all
  rw [hadd]
  have hlt := (List.getElem?_eq_some_iff.1 hu).1
  rw [flat3_length, List.length_map] at hlt
  obtain ⟨c, hc⟩ : ∃ c, cs[j / 3]? = some c := ⟨_, List.getElem?_eq_getElem (by omega)⟩
  obtain ⟨f0, f1, f2⟩ := flat3_at (cs.map cC) (j / 3) (cC c) (by rw [List.getElem?_map, hc]; rfl)
  rcases h.2 with h0 | ⟨b', off', ha, _, hat⟩
  · rw [h0] at hc; simp at hc
  · cases ha
    obtain ⟨e0, e1, e2⟩ := hat _ _ hc
    have h3 : j % 3 = 0 ∨ j % 3 = 1 ∨ j % 3 = 2 := by omega
    rcases h3 with h3 | h3 | h3
    · rw [show j = j / 3 * 3 by omega] at hu ⊢
      rw [f0] at hu
      cases hu
      exact e0
    · rw [show j = j / 3 * 3 + 1 by omega] at hu ⊢
      rw [f1] at hu
      cases hu
      exact e1
    · rw [show j = j / 3 * 3 + 2 by omega] at hu ⊢
      rw [f2] at hu
      cases hu
      exact e2

theorem flat3_one (cs : List C) : ∀ u ∈ flat3 (cs.map cC), u.oneCell' = true := by
  intro u hu
  unfold flat3 at hu
  rw [List.mem_flatMap] at hu
  obtain ⟨t, ht, hu⟩ := hu
  obtain ⟨c, _, rfl⟩ := List.mem_map.1 ht
  simp only [cC, List.mem_cons, List.not_mem_nil, or_false] at hu
  rcases hu with rfl | rfl | rfl <;> rfl

set_option maxHeartbeats 2000000 in
theorem rwiden_any (a1 : Option Addr) (len1 cap1 : Nat) (xs : List C) (a2 : Option Addr) (len2 cap2 : Nat) (ys : List C) (w : World) (h1 : IsCols w a1 len1 xs) (h2 : IsCols w a2 len2 ys)
    (q1 : len1 ≤ 1000000) (q2 : len2 ≤ 9223372036854775807) (q3 : a1 = none → cap1 = 0) :
    Calls Try.prog 37 #[.slice a1 len1 cap1, .slice a2 len2 cap2] w (ColsPost w (widL xs ys)) := by
  have hl := widL_length xs ys
  have hl1 := h1.1
  unfold ColsPost
  rw [hl, hl1]
  cases a1 with
  | none =>
    obtain rfl := q3 rfl
    obtain rfl : xs = [] := by
      rcases h1.2 with h | ⟨b, off, h, _⟩
      · exact h
      · cases h
    obtain rfl : len1 = 0 := by simpa using hl1.symm
    clear hl hl1 h1 h2
    go_enter Try.func37, Try.ntmps37
    obtain ⟨i0, hi, hz0, hz1, hz2⟩ := info_parts info_col
    go_wp2_with (at_builtin; refine wpList_append_own_none rfl _ _ 28 rfl w.heap.size 55 i0 3 Try.underlying28 hi _ 0 [] rfl (World.ownsRow_nil _ _ _ _) rfl ?_)
    go_wp2_with fail
    go_loopw [6] (fun iv wr => iv = .int .i64 0 ∧ wr = w) (fun _ _ => 0)
    case atStart => exact ⟨rfl, rfl⟩
    case round =>
      obtain ⟨rfl, rfl⟩ := hrel
      go_wp2_with fail
      go_ret
      exact ⟨.slice none 0 0, rfl, World.ownsRow_nil _ _ _ _, Below.refl _ _⟩
  | some ad =>
    have hnews : ∀ j u, (flat3 (xs.map cC))[j]? = some u → w.cell? (ad.add j) = some u := by
      rcases h1.2 with h | ⟨b, off, h, _⟩
      · intro j u hu; rw [h] at hu; simp [flat3] at hu
      · cases h; exact cols_news h1
    obtain ⟨i0, hi, hz0, hz1, hz2⟩ := info_parts info_col
    have HAT := Lib.hid (fun (k : Nat) (c : C) (h : xs[k]? = some c) => widK_at (b := ys) h)
    have HSET := Lib.hid (fun (k : Nat) (c d : C) (h : xs[k]? = some c) (h2 : ys[k]? = some d) => widK_set h h2)
    have HEND := Lib.hid (fun (k : Nat) h => widK_end (a := xs) (b := ys) (k := k) h)
    have HLEN := Lib.hid (fun k => widK_length xs ys k)
    have H0 := Lib.hid (widK_zero xs ys)
    have HW := Lib.hid hl
    have H2 := Lib.hid h2
    have H1 := Lib.hid h1
    have hf3 : (flat3 (xs.map cC)).length = len1 * 3 := by rw [flat3_length, List.length_map, hl1]
    have h1c := flat3_one xs
    generalize hfl : flat3 (xs.map cC) = fl at *
    have HFL := Lib.hid hfl
    clear hl h1 h2 hfl
    go_enter Try.func37, Try.ntmps37
    go_wp2_with (at_builtin; refine wpList_append_own _ rfl _ _ 28 rfl w.heap.size 55 i0 _ 3 32 Try.underlying28 hi hz0 hz1 hz2 rfl (by decide) _ 0 [] rfl (World.ownsRow_nil _ _ _ _) ad len1 cap1 fl rfl hf3 hnews h1c ?c3 ?c4 ?c5 ?_)
    case c3 => simp [maxLen]; omega
    case c4 => omega
    case c5 => omega
    intro v3 w3 hown3 hgrow _
    have hB3 : Below w.heap.size w w3 := (Below.refl _ _).grown hgrow (Nat.le_refl _) (fun j hj => by cases hj)
    have hown3 : w3.ownsRow w.heap.size 55 3 v3 len1 (flat3 ((widK xs ys 0).map cC)) := by
      rw [H0.out, HFL.out]
      simpa using hown3
    clear hgrow hnews hf3 h1c
    -- where the new slice lies
    have hv : ∃ (a3 : Option Addr) (c3 : Nat), v3 = .slice a3 len1 c3 ∧ (0 < len1 → ∃ g, a3 = some ⟨g, 0, none⟩ ∧ w.heap.size ≤ g) := by
      rcases hown3.2 with ⟨rfl, rfl⟩ | ⟨g, cap, cur, rfl, hg, _⟩
      · exact ⟨none, 0, rfl, fun h => absurd h (by omega)⟩
      · exact ⟨_, cap, rfl, fun _ => ⟨g, rfl, hg⟩⟩
    obtain ⟨a3, c3, rfl, hg⟩ := hv
    have HO3 := Lib.hid hown3
    have HG := Lib.hid hg
    clear hown3 hg
    go_wp2_with fail
    go_loopw [6] (fun iv wr => ∃ k : Nat, k ≤ len1 ∧ k ≤ len2 ∧ iv = .int .i64 k ∧ wr.ownsRow w.heap.size 55 3 (.slice a3 len1 c3) len1 (flat3 ((widK xs ys k).map cC)) ∧ Below w.heap.size w wr)
      (fun i _ => len1 - (intOf i).toNat)
    case atStart => exact ⟨0, Nat.zero_le _, Nat.zero_le _, rfl, HO3.out, hB3⟩
    case round =>
      obtain ⟨k, hk, hkk, rfl, hown, hbel⟩ := hrel
      have hsz := hbel.size
      have HO := Lib.hid hown
      clear hown hB3 HO3
      by_cases hlt : k < len1
      · by_cases hlt2 : k < len2
        · obtain ⟨g, rfl, hg0⟩ := HG.out (by omega)
          obtain ⟨nm, kd, nu, b1, off1, hx, _, _, _, _, _⟩ := (H1.out.below hbel (Nat.le_refl _)).at hlt
          obtain ⟨nm2, kd2, nu2, b2, off2, hy, rfl, hbl2, d0, d1, d2⟩ := (H2.out.below hbel (Nat.le_refl _)).at hlt2
          have hA := HAT.out k _ hx
          have hS := HSET.out k _ _ hx hy
          have hln := HLEN.out k
          have hAm : ((widK xs ys k).map cC)[k]? = some (cC ⟨nm, kd, nu⟩) := by rw [List.getElem?_map, hA]; rfl
          obtain ⟨x0, x1, x2, f0, f1, f2⟩ := own3_at HO.out hAm (by rw [List.length_map, hln]; exact hl1)
          simp only [cC] at x0 x1 x2
          have hown2 : (wr.setCell ⟨g, k * 3 + 2, none⟩ (.bool (nu || nu2))).ownsRow w.heap.size 55 3 (.slice (some ⟨g, 0, none⟩) len1 c3) len1 (flat3 ((widK xs ys (k + 1)).map cC)) := by
            have h3 := (HO.out.stored (k * 3 + 2) (.bool (nu || nu2))).1
            rw [flat3_set2 _ _ _ hAm] at h3
            rw [← hS, List.map_set]
            exact h3
          have HO2 := Lib.hid hown2
          have HB := Lib.hid (hbel.setCell (p := ⟨g, k * 3 + 2, none⟩) hg0 (.bool (nu || nu2)))
          clear hown2 HO hx hy hA hS hln hAm x0 x1 f0 f1
          cases nu <;> cases nu2
          all_goals
            simp only [Bool.or_self, Bool.or_true, Bool.or_false] at HO2 HB
            go_wp2_with fail
            go_roundw
            case rel => exact ⟨k + 1, by omega, by omega, by go_num, HO2.out, HB.out⟩
            case measure => simp [intOf]; omega
        · have hown2 := HO.out
          have hl2 := H2.out.1
          rw [HEND.out k (.inr (by omega))] at hown2
          have HO2 := Lib.hid hown2
          clear hown2 HO hl2
          go_wp2_with fail
          go_ret
          exact ⟨_, rfl, HO2.out, hbel⟩
      · have hown2 := HO.out
        rw [HEND.out k (.inl (by omega))] at hown2
        have HO2 := Lib.hid hown2
        clear hown2 HO
        go_wp2_with fail
        go_ret
        exact ⟨_, rfl, HO2.out, hbel⟩

end Go.Proofs.Ytdlkkajkflebgaa
