/-
  result, of the reference.
-/
import Derived.Test.YtdhhhmehkldliaaBRead
import Derived.Test.YtdhhhmehkldliaaBPush
import Derived.Test.YtdhhhmehkldliaaGClone
import Derived.Deep.RegionLaw
import Derived.BigQuiet
set_option linter.unusedVariables false
namespace Wh

theorem nzL_append (a b : List En) : nzL (a ++ b) = nzL a ++ nzL b := by unfold nzL; rw [List.filter_append]
theorem nzL_zero {es : List En} {k : Nat} {e : En} (h : es[k]? = some e) (h0 : e.cnt = 0) : nzL (es.take (k + 1)) = nzL (es.take k) := by
  rw [List.take_add_one, h, nzL_append]
  simp [nzL, h0]
theorem nzL_more {es : List En} {k : Nat} {e : En} (h : es[k]? = some e) (h0 : ¬ e.cnt = 0) : nzL (es.take (k + 1)) = nzL (es.take k) ++ [e] := by
  rw [List.take_add_one, h, nzL_append]
  simp [nzL, h0]
theorem nzL_split (es : List En) (k : Nat) : nzL es = nzL (es.take k) ++ nzL (es.drop k) := by rw [← nzL_append, List.take_append_drop]
theorem resOut_bad {es : List En} {k : Nat} {e : En} (h : es[k]? = some e) (h0 : ¬ e.cnt = 0) (hb : smallB e.cnt = false ∨ (nzL (es.take k)).length = 4096) : resOut es = ([], 2) := by
  have hs := nzL_split es (k + 1)
  rw [nzL_more h h0] at hs
  unfold resOut
  rw [if_neg]
  rintro ⟨h1, h2⟩
  rcases hb with hb | hb
  · have := h2 e (by rw [hs]; simp)
    rw [hb] at this
    cases this
  · rw [hs] at h1
    simp only [List.length_append, List.length_cons, List.length_nil] at h1
    omega
theorem resOut_good {es : List En} (h1 : (nzL es).length ≤ 4096) (h2 : ∀ e ∈ nzL es, smallB e.cnt = true) : resOut es = (nzL es, 0) := by
  unfold resOut
  rw [if_pos ⟨h1, h2⟩]

end Wh
namespace Go.Proofs.Ytdhhhmehkldliaa
open Go.RowKit Wh

set_option maxHeartbeats 4000000 in
set_option maxRecDepth 100000 in
theorem rresult_any (a : Option Addr) (len cap : Nat) (es : List En) (w : World) (hs : IsEnts w a len es) (hl : len ≤ 1000000) (hrw : ∀ e ∈ es, e.row.length ≤ 1000000) :
    Calls Try.prog 64 #[.slice a len cap] w (EntsErr w (resOut es)) := by
  have hln := hs.1
  have HS := Lib.hid hs
  have HRW := Lib.hid hrw
  have HBAD := Lib.hid (fun (k : Nat) (e : En) h h0 hb => resOut_bad (es := es) (k := k) (e := e) h h0 hb)
  have HGOOD := Lib.hid (fun h1 h2 => resOut_good (es := es) h1 h2)
  obtain ⟨i0, hi, hz0, hz1, hz2⟩ := info_parts info_ent
  generalize resOut es = E at *
  clear hs hrw
  go_enter Try.func64, Try.ntmps64
  go_wp2_with fail
  go_loopw [4, 5] (fun ov iv wr => ∃ k : Nat, k ≤ len ∧ iv = .int .i64 k ∧ OwnEnts wr w.heap.size ov (nzL (es.take k)) ∧ (nzL (es.take k)).length ≤ 4096 ∧ Hid (∀ e ∈ nzL (es.take k), smallB e.cnt = true) ∧ Below w.heap.size w wr) (fun _ i _ => len - (intOf i).toNat)
  case atStart => exact ⟨0, Nat.zero_le _, rfl, OwnEnts.nil _ _, Nat.zero_le _, fun e he => (by simp [nzL] at he), Below.refl _ _⟩
  case round =>
    obtain ⟨k, hk, rfl, hO, h96, HSM, hbel⟩ := hrel
    have HO := Lib.hid hO
    have hsz := hbel.size
    obtain ⟨ax, cx, rfl, _, _, _, _, _⟩ := own_ents hO
    clear hO
    by_cases hlt : k < len
    · obtain ⟨r, n, ra, rl, rc, b, off, hx, rfl, hbl, c0, c1, hv, g1, g2, g3⟩ := (HS.out.below hbel (Nat.le_refl _)).at hlt
      have hrl : r.length ≤ 1000000 := HRW.out _ (List.mem_of_getElem? hx)
      have hvl := hv.1
      have HX := Lib.hid hx
      have hk9 : (k : Int) < (len : Int) := by omega
      clear hx
      by_cases hn : n = 0
      · have hN := nzL_zero HX.out hn
        have HN := Lib.hid hN
        subst hn
        clear hN hv HBAD HGOOD
        go_wp2_with fail
        go_roundw
        case rel => exact ⟨k + 1, by omega, by go_num, by rw [HN.out]; exact HO.out, by rw [HN.out]; exact h96, by rw [HN.out]; exact HSM, hbel⟩
        case measure => simp [intOf]; omega
      · have hn0 : (n == 0) = false := by simpa using hn
        have cs := fun W => rsmall_any n W
        cases hsm : smallB n with
        | false =>
          obtain rfl := HBAD.out k _ HX.out hn (.inl hsm)
          rw [hsm] at cs
          clear hv HBAD HGOOD hn hsm
          go_wp2_with (first | (go_at_call 75; refine (cs _).mono ?_; rintro e w1 ⟨rfl, rfl⟩))
          go_ret2
          exact ⟨_, rfl, OwnEnts.nil _ _, hbel⟩
        | true =>
          by_cases h4 : (nzL (es.take k)).length = 4096
          · obtain rfl := HBAD.out k _ HX.out hn (.inr h4)
            rw [hsm] at cs
            rw [h4] at HO
            clear hv HBAD HGOOD hn hsm
            rw [h4]
            go_wp2_with (first | (go_at_call 75; refine (cs _).mono ?_; rintro e w1 ⟨rfl, rfl⟩))
            go_ret2
            exact ⟨_, rfl, OwnEnts.nil _ _, hbel⟩
          · rw [hsm] at cs
            have hN := nzL_more HX.out hn
            have HN := Lib.hid hN
            have HSM2 : Hid (∀ e ∈ nzL (es.take (k + 1)), smallB e.cnt = true) := fun e he => by
              rw [HN.out] at he
              rcases List.mem_append.1 he with he | he
              · exact HSM.out e he
              · simp only [List.mem_singleton] at he
                subst he
                exact hsm
            have h96' : (nzL (es.take (k + 1))).length ≤ 4096 := by rw [HN.out, List.length_append]; simp; omega
            have H96 := Lib.hid h96'
            have h4b : ((nzL (es.take k)).length : Int) ≠ 4096 := by omega
            generalize nzL (es.take k) = acc at *
            generalize hq2 : nzL (es.take (k + 1)) = acc2 at *
            have HQ := Lib.hid hq2
            clear hq2
            have hv' : IsVals wr.drew ra rl r := hv.below ((Below.refl _ _).drew) (Nat.le_refl _)
            have hl7 : (wr.drew).heap.size = wr.heap.size := rfl
            have hrl' : rl ≤ 1000000 := by omega
            clear hN hv HBAD HGOOD hn hsm h96'
            go_wp2_with (first | (go_at_call 75; refine (cs _).mono ?_; rintro e w1 ⟨rfl, rfl⟩))
            go_region_law (first | (refine step_clone (by rfl) _ (.tmp 35) (by rfl) (by rfl) (by rfl) hv' g3 hrl' ?_; intro v5 w5 h5 hg5; obtain ⟨a5, k5, rfl, _, _, _, _⟩ := own_rowv h5 hvl; obtain ⟨hrow5, hfar5⟩ := clone_row h5 hvl; have hB5 : Below wr.heap.size wr w5 := ((Below.refl _ _).drew).grown hg5 (Nat.le_refl _) (fun j hj => by cases hj); have hO5 := OwnEnts.below HO.out hB5; obtain ⟨l9, ho9, PUSH⟩ := pushedNew n hO5 hrow5 (hfar5 _ fun j hj => (HO.out.choose_spec.2.1.lt j hj).2) (hbel.trans (hB5.mono hsz)); have hs5 := hB5.size; have d1 : w5.cell? ⟨b, off + k * 2 + 1, none⟩ = some (.int .i64 n) := by rw [(bcell hB5).1 _ _ hbl]; exact c1) |
              (refine step_append_lies _ (by rfl) (.tmp 30) (.tmp 43) _ (by rfl) w.heap.size 30 i0 _ 2 32 Try.underlying22 hi hz0 hz1 hz2 rfl (by omega) _ _ _ (by rfl) (ho9.alloc _) ⟨w5.heap.size, 0, none⟩ 1 1 [.slice a5 rl k5, .int .i64 n] (by rfl) (by rfl) (World.news_of_block (cs := #[.slice a5 rl k5, .int .i64 n]) (t := 30) (fr := (0, 0)) (heap_alloc_new w5 _)) (by simp [Value.oneCell']) (by omega) (by unfold maxLen; omega) (by omega) (by simp; omega) (w5.heap.size + 1) (by simp) ?_; intro gg cc w9 hown9 hgrow9 hat9 hlt9))
            all_goals
              obtain ⟨hO3, hB3⟩ := PUSH _ gg cc w9 ((Below.refl _ _).alloc (Nat.le_refl _) _) hown9 hgrow9 (hat9.imp id fun h => by rw [h]; simp)
              rw [← HN.out] at hO3
              clear PUSH hown9 hgrow9 hat9 hlt9 ho9 hO5 hB5 hrow5 hfar5 h5 hg5
              go_wp2_with fail
              go_roundw
              case rel => exact ⟨k + 1, by omega, by go_num, by rw [HQ.out]; exact hO3, by rw [HQ.out]; exact H96.out, by rw [HQ.out]; exact HSM2, hB3⟩
              case measure => simp [intOf]; omega
    · obtain rfl : k = len := by omega
      have hE : es.take k = es := List.take_of_length_le (by omega)
      rw [hE] at HO HSM h96
      rw [hE]
      obtain rfl := HGOOD.out h96 HSM.out
      clear hE HBAD HGOOD
      go_wp2_with fail
      go_ret2
      exact ⟨_, rfl, HO.out, hbel⟩

end Go.Proofs.Ytdhhhmehkldliaa
