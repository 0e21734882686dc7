/-
  sorted, of the reference.
-/
import Derived.Test.YtdhhhmehkldliaaBMerge
set_option linter.unusedVariables false
namespace Go.Proofs.Ytdhhhmehkldliaa
open Go.RowKit Wh

theorem half_facts {len h : Nat} (hh : h = len / 2) (hl : len ≤ 1000000) : (len : Int).tdiv 2 = (h : Int) ∧ (len : Int) / 2 = (h : Int) ∧ wrap64 (h : Int) = (h : Int) ∧ IntKind.i64.wrap (h : Int) = (h : Int) := by
  have hb : h ≤ 1000000 := by omega
  refine ⟨by rw [Int.tdiv_eq_ediv_of_nonneg (by omega)]; omega, by omega, ?_, ?_⟩
  · clear hh hl
    exact IntWalk.wrap64_in _ ⟨by omega, by omega⟩
  · clear hh hl
    exact IntWalk.i64_in _ ⟨by omega, by omega⟩

theorem rsorted_short (a : Option Addr) (len cap : Nat) (es : List En) (w : World) (h2 : len < 2) (hs : IsEnts w a len es) (p1 : len ≤ cap) (p2 : cap ≤ maxLen) (p3 : a = none → cap = 0) :
    Calls Try.prog 81 #[.slice a len cap] w (EntsPost w (sortL es)) := by
  have hln := hs.1
  rw [sortL_small (by omega)]
  obtain ⟨i0, hi, hz0, hz1, hz2⟩ := info_parts info_ent
  cases a with
  | none =>
    obtain rfl := p3 rfl
    obtain rfl : len = 0 := by omega
    obtain rfl : es = [] := List.eq_nil_of_length_eq_zero hln
    clear hs hln p1 p2 p3 h2
    go_enter Try.func81, Try.ntmps81
    go_wp2_with (at_builtin; refine wpList_append_own_none rfl _ _ 22 rfl w.heap.size 30 i0 2 Try.underlying22 hi _ 0 [] rfl (World.ownsRow_nil _ _ _ _) rfl ?_)
    go_wp2_with fail
    go_ret
    exact ⟨_, rfl, OwnEnts.nil _ _, Below.refl _ _⟩
  | some ad =>
    match len, h2, hs, hln with
    | 0, _, hs, hln =>
      obtain rfl : es = [] := List.eq_nil_of_length_eq_zero hln
      clear hs
      go_enter Try.func81, Try.ntmps81
      go_wp2_with (at_builtin; refine wpList_append_own _ rfl _ _ 22 rfl w.heap.size 30 i0 _ 2 32 Try.underlying22 hi hz0 hz1 hz2 rfl (by decide) _ 0 [] rfl (World.ownsRow_nil _ _ _ _) ad 0 cap [] rfl rfl (by simp) (by simp) (by simp) (by simp) (Nat.le_refl _) ?_)
      intro v3 w3 hown3 hgrow hnil
      subst hnil
      go_wp2_with fail
      go_ret
      exact ⟨_, rfl, OwnEnts.nil _ _, (Below.refl _ _).grown hgrow (Nat.le_refl _) (fun j hj => by cases hj)⟩
    | 1, _, hs, hln =>
      obtain ⟨r, n, ra, rl, rc, b, off, hx, hae, hbl, c0, c1, hv, g1, g2, g3⟩ := hs.at (k := 0) (by omega)
      cases hae
      obtain rfl : es = [⟨r, n⟩] := by
        match es, hln, hx with
        | [e], _, hx => simp at hx; subst hx; rfl
      obtain ⟨l9, ho9, PUSH⟩ := pushed n (OwnEnts.nil w w.heap.size) (⟨ra, rl, rc, rfl, hv, g1, g2, g3⟩ : IsRow w (.slice ra rl rc) r) (Below.refl _ _)
      have hl0 : l9 = [] := by
        have := ho9.1
        rw [flat2_length] at this
        exact List.eq_nil_of_length_eq_zero (by simp at this; omega)
      subst hl0
      have hnews : ∀ j u, [Value.slice ra rl rc, .int .i64 n][j]? = some u → w.cell? ((⟨b, off, none⟩ : Addr).add j) = some u := fun j u hu => by
        have hadd : (⟨b, off, none⟩ : Addr).add j = ⟨b, off + j, none⟩ := by unfold Addr.add; split <;> simp_all
        rw [hadd]
        match j, hu with
        | 0, hu => simp at hu; subst hu; simpa using c0
        | 1, hu => simp at hu; subst hu; simpa using c1
        | j + 2, hu => simp at hu
      have HP := Lib.hid PUSH
      clear hs PUSH hx hv
      go_enter Try.func81, Try.ntmps81
      go_wp2_with (at_builtin; refine wpList_append_lies _ rfl _ _ 22 rfl w.heap.size 30 i0 _ 2 32 Try.underlying22 hi hz0 hz1 hz2 rfl (by decide) _ 0 [] rfl (World.ownsRow_nil _ _ _ _) ⟨b, off, none⟩ 1 cap [.slice ra rl rc, .int .i64 n] rfl rfl hnews (by simp [Value.oneCell']) (by omega) (by unfold maxLen; omega) (by omega) (Nat.le_refl _) w.heap.size rfl ?_)
      intro gg cc w9 hown9 hgrow9 hat9 hlt9
      obtain ⟨hO3, hB3⟩ := HP.out w gg cc w9 (Below.refl _ _) hown9 hgrow9 (hat9.imp id fun h => by rw [h]; exact Nat.le_refl _)
      go_wp2_with fail
      go_ret
      exact ⟨_, rfl, hO3, hB3⟩

set_option maxHeartbeats 4000000 in
set_option maxRecDepth 100000 in
theorem rsorted_any : ∀ (N : Nat) (a : Option Addr) (len cap : Nat) (es : List En) (w : World), len ≤ N → IsEnts w a len es → len ≤ cap → cap ≤ maxLen → (a = none → cap = 0) → len ≤ 1000000 → absS es ≤ 1000000000000 →
    Calls Try.prog 81 #[.slice a len cap] w (EntsPost w (sortL es)) := by
  intro N
  induction N with
  | zero =>
    intro a len cap es w hN hs p1 p2 p3 hl hab
    exact rsorted_short a len cap es w (by omega) hs p1 p2 p3
  | succ N ih =>
    intro a len cap es w hN hs p1 p2 p3 hl hab
    by_cases h2 : len < 2
    · exact rsorted_short a len cap es w h2 hs p1 p2 p3
    · have hln := hs.1
      have hse := sortL_halves (l := es) (by omega)
      obtain ⟨r, n, ra, rl, rc, b, off, hx, rfl, hbl, c0, c1, hv, g1, g2, g3⟩ := hs.at (k := 0) (by omega)
      obtain ⟨h, hh⟩ : ∃ h, h = len / 2 := ⟨_, rfl⟩
      rw [show es.length / 2 = h by omega] at hse
      have s1 : ∀ W, (Instr.slice 22 (.slice (some ⟨b, off, none⟩) len cap) none (some (.int .i64 h)) none).run Try.prog W = .ok (.slice (some ⟨b, off, none⟩) h cap) W := fun W => slice_to_ents (some ⟨b, off, none⟩) len cap h (by omega) p2 (by intro h; cases h) (by rintro x ⟨⟩; rfl) W
      obtain ⟨a9, c9, s2, hd9, j1, j2, j3⟩ := slice_from_ents h (h : Int) rfl hs (by omega) p1 p2 p3
      have ht9 := hs.take (show h ≤ len by omega)
      have ha1 := absS_append (es.take h) (es.drop h)
      rw [List.take_append_drop] at ha1
      have ha2 := absS_nonneg (es.take h)
      have ha3 := absS_nonneg (es.drop h)
      have IH1 := Lib.hid (fun W (hW : Below w.heap.size w W) => ih (some ⟨b, off, none⟩) h cap (es.take h) W (by omega) (ht9.below hW (Nat.le_refl _)) (by omega) p2 (by intro h; cases h) (by omega) (by omega))
      have IH2 := Lib.hid (fun W (hW : Below w.heap.size w W) => ih a9 (len - h) c9 (es.drop h) W (by omega) (hd9.below hW (Nat.le_refl _)) j1 j2 j3 (by omega) (by omega))
      have ab1 := absS_sort _ (es.take h) (Nat.le_refl _)
      have ab2 := absS_sort _ (es.drop h) (Nat.le_refl _)
      have ln1 := (sortL_facts _ (es.take h) (Nat.le_refl _)).2.2
      have ln2 := (sortL_facts _ (es.drop h) (Nat.le_refl _)).2.2
      rw [List.length_take] at ln1
      rw [List.length_drop] at ln2
      rw [hse]
      have hsm : (sortL (es.take h)).length + (sortL (es.drop h)).length ≤ 1000000 := by omega
      have hsa : absS (sortL (es.take h)) + absS (sortL (es.drop h)) ≤ 1000000000000 := by omega
      generalize sortL (es.take h) = e1 at *
      generalize sortL (es.drop h) = e2 at *
      obtain ⟨hq, hq2, hq3, hq4⟩ := half_facts hh hl
      have hl2 : (2 : Int) ≤ (len : Int) := by omega
      clear ih hs hd9 ht9 ha1 ha2 ha3 ab1 ab2 ln1 ln2 hse hx hv hh hN hab hln
      go_enter Try.func81, Try.ntmps81
      go_wp2_with fail
      go_region_with (first | (go_at_call_of 81 (Value.slice (some ⟨b, off, none⟩) h cap); refine (IH1.out _ (Below.refl _ _).drew).mono ?_; rintro e w1 ⟨v1, rfl, ho1, hb1⟩; obtain ⟨a5, k5, rfl, hi1, i1, i2, i3, _⟩ := own_ents ho1; have hb1' := (Below.refl w.heap.size w).drew.trans hb1) |
        (go_at_call_of 81 (Value.slice a9 (len - h) c9); refine (IH2.out _ hb1').mono ?_; rintro e w2 ⟨v2, rfl, ho2, hb2⟩; obtain ⟨a6, k6, rfl, hi2, i4, i5, i6, _⟩ := own_ents ho2; have hb2' := hb1'.trans (hb2.mono hb1'.size)) |
        (go_at_call 65; refine (rmerge_any a5 e1.length k5 e1 a6 e2.length k6 e2 w2 (hi1.below hb2 (Nat.le_refl _)) hi2 i1 i2 i3 i4 i5 i6 hsm hsa).mono ?_; rintro e w3 ⟨v3, rfl, ho3, hb3⟩))
      all_goals
        go_wp2_with fail
        go_ret
        exact ⟨_, rfl, ho3.mono hb2'.size, hb2'.trans (hb3.mono hb2'.size)⟩

end Go.Proofs.Ytdhhhmehkldliaa
