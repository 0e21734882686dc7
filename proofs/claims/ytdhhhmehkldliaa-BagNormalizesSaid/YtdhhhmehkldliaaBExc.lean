/-
  Except, of the reference.
-/
import Derived.Test.YtdhhhmehkldliaaBNorm
set_option linter.unusedVariables false
namespace Wh

/-- The list while its counts are raised to 0. -/
def upTo (es : List En) (k : Nat) : List En := atLeast0 (es.take k) ++ es.drop k
theorem upTo_length (es : List En) (k : Nat) : (upTo es k).length = es.length := by
  unfold upTo atLeast0
  rw [List.length_append, List.length_map, List.length_take, List.length_drop]
  omega
theorem upTo_at {es : List En} {k : Nat} {e : En} (h : es[k]? = some e) : (upTo es k)[k]? = some e := by
  have hk := (List.getElem?_eq_some_iff.1 h).1
  have hl : (atLeast0 (es.take k)).length = k := by unfold atLeast0; rw [List.length_map, List.length_take]; omega
  unfold upTo
  rw [List.getElem?_append_right (by omega), hl, Nat.sub_self, List.getElem?_drop, Nat.add_zero]
  exact h
theorem upTo_succ {es : List En} {k : Nat} {e : En} (h : es[k]? = some e) : (upTo es k).set k ⟨e.row, max 0 e.cnt⟩ = upTo es (k + 1) := by
  have hk := List.getElem?_eq_some_iff.1 h
  have hl : (atLeast0 (es.take k)).length = k := by have := hk.1; unfold atLeast0; rw [List.length_map, List.length_take]; omega
  unfold upTo
  rw [List.set_append_right _ _ (by omega), hl, Nat.sub_self, List.drop_eq_getElem_cons hk.1, hk.2, List.set_cons_zero, List.take_add_one, h]
  simp [atLeast0]
theorem upTo_end {es : List En} {k : Nat} (h : es.length ≤ k) : upTo es k = atLeast0 es := by
  unfold upTo
  rw [List.take_of_length_le h, List.drop_eq_nil_of_le h, List.append_nil]
theorem RowsB.least {l : List En} (h : RowsB l) : RowsB (atLeast0 l) := fun e he => by
  unfold atLeast0 at he
  obtain ⟨x, hx, rfl⟩ := List.mem_map.1 he
  exact h x hx
theorem atLeast0_length (l : List En) : (atLeast0 l).length = l.length := List.length_map _

end Wh
namespace Go.Proofs.Ytdhhhmehkldliaa
open Go.RowKit Wh

set_option maxHeartbeats 4000000
set_option maxRecDepth 100000

theorem flat2_set1 (l : List T2) (k : Nat) (t : T2) (h : l[k]? = some t) (z : Value) : (flat2 l).set (k * 2 + 1) z = flat2 (l.set k (t.1, z)) := by
  unfold flat2
  induction l generalizing k with
  | nil => simp at h
  | cons u l ih =>
    cases k with
    | zero => simp at h; subst h; simp
    | succ k =>
      simp only [List.getElem?_cons_succ] at h
      have := ih k h
      rw [show (k + 1) * 2 + 1 = (k * 2 + 1) + 1 + 1 from by omega]
      simpa [List.flatMap_cons] using this
theorem IsRow.grown {w w' : World} {v : Value} {r : List V} {row : Option Nat} (h : IsRow w v r) (hg : w.grownBy w' row) (hf : FarOf row v r) : IsRow w' v r := by
  obtain ⟨a, n, c, rfl, hv, g1, g2, g3⟩ := h
  exact ⟨a, n, c, rfl, hv.grown hg (fun hne x hx => hf hne x n c (by rw [hx])), g1, g2, g3⟩
theorem own_cnt {w : World} {base g n cap k : Nat} {es : List En} {e : En} (h : OwnEnts w base (.slice (some ⟨g, 0, none⟩) n cap) es) (he : es[k]? = some e) :
    w.cell? ⟨g, k * 2 + 1, none⟩ = some (.int .i64 e.cnt) ∧ w.frozen? ⟨g, k * 2 + 1, none⟩ = false := by
  obtain ⟨l, h1, h2, h3⟩ := h
  obtain ⟨rv, a1, _, _⟩ := h3 k e he
  have hk := (List.getElem?_eq_some_iff.1 he).1
  obtain rfl : n = es.length := by
    rcases h2.2 with ⟨h', _⟩ | ⟨_, _, _, h', _⟩
    · cases h'
    · cases h'; rfl
  exact ⟨by rw [h2.cellAt (k * 2 + 1) (by omega)]; exact (flat2_at l k _ a1).2, h2.frozenAt _⟩
theorem OwnEnts.setCnt {w : World} {base g n cap k : Nat} {es : List En} {e : En} (h : OwnEnts w base (.slice (some ⟨g, 0, none⟩) n cap) es) (he : es[k]? = some e) (m : Int) :
    OwnEnts (w.setCell ⟨g, k * 2 + 1, none⟩ (.int .i64 m)) base (.slice (some ⟨g, 0, none⟩) n cap) (es.set k ⟨e.row, m⟩) := by
  obtain ⟨l, h1, h2, h3⟩ := h
  obtain ⟨rv, a1, a2, a3⟩ := h3 k e he
  have hk := (List.getElem?_eq_some_iff.1 he).1
  obtain rfl : n = es.length := by
    rcases h2.2 with ⟨h', _⟩ | ⟨_, _, _, h', _⟩
    · cases h'
    · cases h'; rfl
  obtain ⟨s1, s2⟩ := h2.stored (k * 2 + 1) (.int .i64 m)
  rw [flat2_set1 l k _ a1] at s1
  refine ⟨l.set k (rv, .int .i64 m), by simp [h1], by rw [List.length_set]; exact s1, fun i x hx => ?_⟩
  by_cases hik : i = k
  · subst hik
    rw [List.getElem?_set_self hk] at hx
    cases hx
    exact ⟨rv, List.getElem?_set_self (by omega), a2.grown s2 a3, a3⟩
  · rw [List.getElem?_set_ne (Ne.symm hik)] at hx
    obtain ⟨u, b1, b2, b3⟩ := h3 i x hx
    exact ⟨u, by rw [List.getElem?_set_ne (Ne.symm hik)]; exact b1, b2.grown s2 b3, b3⟩

theorem rexcept_any (a : Option Addr) (len cap : Nat) (es : List En) (a2 : Option Addr) (len2 cap2 : Nat) (fs : List En) (w : World) (hs : IsEnts w a len es) (hl : len ≤ 9223372036854775807) (hs2 : IsEnts w a2 len2 fs) (hl2 : len2 ≤ 9223372036854775807)
    (p1 : len ≤ cap) (p2 : cap ≤ maxLen) (p3 : a = none → cap = 0) (p4 : len2 ≤ cap2) (p5 : cap2 ≤ maxLen) (p6 : a2 = none → cap2 = 0) :
    Calls Try.prog 35 #[.slice a len cap, .slice a2 len2 cap2] w (EntsErr w (excOut es fs)) := by
  have hln := hs.1
  have hln2 := hs2.1
  have c1 := rtwo_any a len cap es a2 len2 cap2 fs w hs hl hs2 hl2
  unfold excOut
  by_cases hz : twoE es fs = 0
  · obtain ⟨z1, z2⟩ := twoE_zero.1 hz
    have ok1 := bagE_zero.1 z1
    have ok2 := bagE_zero.1 z2
    rw [if_neg (by simpa using hz)]
    rw [hz] at c1
    have P1 := Lib.hid (fun W (h : Below w.heap.size w W) => rpositive_any a len cap es W (hs.below h (Nat.le_refl _)) hl)
    have P2 := Lib.hid (fun W (h : Below w.heap.size w W) => rpositive_any a2 len2 cap2 fs W (hs2.below h (Nat.le_refl _)) hl2)
    have hb2 : len2 ≤ 1000000 := by have := ok2.len; omega
    have ab2 : absS fs ≤ 1000000000000 := by have := ok2.abs; omega
    have hnl := negL_length fs
    have hsm : len + (negL fs).length ≤ 1000000 := by have := ok1.len; have := ok2.len; omega
    have hab : absS es + absS (negL fs) ≤ 1000000000000 := by rw [absS_neg]; have := ok1.abs; have := ok2.abs; omega
    have C3 := Lib.hid (fun W (h : Below w.heap.size w W) => rnegated_any a2 len2 cap2 fs W (hs2.below h (Nat.le_refl _)) hb2 ab2)
    have C2 := Lib.hid (fun W (h : Below w.heap.size w W) a6 k6 (h6 : IsEnts W a6 (negL fs).length (negL fs)) q4 q5 q6 => rmerge_any a len cap es a6 (negL fs).length k6 (negL fs) W (hs.below h (Nat.le_refl _)) h6 p1 p2 p3 q4 q5 q6 hsm hab)
    have R1 := Lib.hid (ok1.rows.merge ok2.rows.neg)
    have hl1 : (mergeL es (negL fs)).length ≤ 1000000 := by have := mergeL_length _ es (negL fs) (Nat.le_refl _); omega
    generalize mergeL es (negL fs) = e1 at *
    generalize negL fs = gs at *
    have C1 := Lib.hid c1
    generalize hq1 : posB es = b1 at *
    generalize hq2 : posB fs = b2 at *
    have d0 : Below w.heap.size w w := Below.refl _ _
    clear c1 hs hs2 ok1 ok2 z1 z2 hz hab ab2 hnl hln hln2 hq1 hq2
    cases b1 with
    | false =>
      rw [if_neg (by simp)]
      go_enter Try.func35, Try.ntmps35
      go_wp2_with fail
      refine C1.out.mono ?_
      rintro e w1 ⟨rfl, hb1⟩
      go_wp2_with (first | (go_at_call 53; refine (P1.out _ hb1).mono ?_; rintro e w2 ⟨rfl, rfl⟩))
      go_ret2
      exact ⟨_, rfl, OwnEnts.nil _ _, hb1⟩
    | true =>
      cases b2 with
      | false =>
        rw [if_neg (by simp)]
        go_enter Try.func35, Try.ntmps35
        go_wp2_with fail
        refine C1.out.mono ?_
        rintro e w1 ⟨rfl, hb1⟩
        go_wp2_with fail
        refine (P1.out _ hb1).mono ?_
        rintro e w2 ⟨rfl, rfl⟩
        go_wp2_with fail
        refine (P2.out _ hb1).mono ?_
        rintro e w3 ⟨rfl, rfl⟩
        go_wp2_with fail
        go_ret2
        exact ⟨_, rfl, OwnEnts.nil _ _, hb1⟩
      | true =>
        rw [if_pos (by simp)]
        go_enter Try.func35, Try.ntmps35
        go_wp2_with fail
        refine C1.out.mono ?_
        rintro e w1 ⟨rfl, hb1⟩
        go_wp2_with fail
        refine (P1.out _ hb1).mono ?_
        rintro e w2 ⟨rfl, rfl⟩
        go_wp2_with fail
        refine (P2.out _ hb1).mono ?_
        rintro e w3 ⟨rfl, rfl⟩
        go_wp2_with fail
        refine (C3.out _ hb1).mono ?_
        rintro e w2 ⟨v2, rfl, ho2, hb2'⟩
        obtain ⟨a6, k6, rfl, hi6, j1, j2, j3, _⟩ := own_ents ho2
        have hB2 := hb1.trans (hb2'.mono hb1.size)
        go_wp2_with fail
        refine (C2.out _ hB2 a6 k6 hi6 j1 j2 j3).mono ?_
        rintro e w3 ⟨v3, rfl, ho3, hb3⟩
        obtain ⟨a5, k5, rfl, hi1, i1, i2, i3, i4⟩ := own_ents ho3
        have hB3 := hB2.trans (hb3.mono hB2.size)
        have HO3 := Lib.hid (ho3.mono hB2.size)
        have H4 := Lib.hid (show ∀ x, a5 = some x → ∃ g, x = ⟨g, 0, none⟩ ∧ w.heap.size ≤ g from fun x hx => (i4 x hx).imp fun g h => ⟨h.1, Nat.le_trans hB2.size h.2.1⟩)
        have H5 := Lib.hid hi1
        clear C1 C2 C3 P1 P2 ho2 hi6 ho3 hi1 i4 j1 j2 j3 hb3 hb2'
        go_wp2_with fail
        go_loopw [8] (fun iv wr => ∃ k : Nat, k ≤ e1.length ∧ iv = .int .i64 k ∧ OwnEnts wr w.heap.size (.slice a5 e1.length k5) (upTo e1 k) ∧ Below w.heap.size w wr) (fun i _ => e1.length - (intOf i).toNat)
        case atStart => exact ⟨0, Nat.zero_le _, rfl, HO3.out, hB3⟩
        case round =>
          obtain ⟨k, hk, rfl, hO, hbel⟩ := hrel
          have hs9 := hbel.size
          have HO := Lib.hid hO
          clear hO
          by_cases hlt : k < e1.length
          · obtain ⟨x, hx⟩ : ∃ x, e1[k]? = some x := ⟨_, List.getElem?_eq_getElem hlt⟩
            obtain ⟨g, rfl, hg⟩ : ∃ g, a5 = some ⟨g, 0, none⟩ ∧ w.heap.size ≤ g := by
              rcases H5.out.2 with h | ⟨b, off, ha, _⟩
              · rw [h] at hlt; simp at hlt
              · obtain ⟨g, h1, h2⟩ := H4.out _ ha
                exact ⟨g, by rw [ha, h1], h2⟩
            obtain ⟨q0, q1⟩ := own_cnt HO.out (upTo_at hx)
            have hset := fun m => HO.out.setCnt (upTo_at hx) m
            have hup := upTo_succ hx
            obtain ⟨r, m⟩ := x
            simp only at hset hup q0
            have hbs : ∀ u, Below w.heap.size w (wr.setCell ⟨g, k * 2 + 1, none⟩ u) := fun u => hbel.setCell hg u
            have hS := hset (max 0 m)
            rw [hup] at hS
            have HS := Lib.hid hS
            have HB := Lib.hid hbs
            clear hset hup hS hbs hx H4 H5
            rcases Int.lt_trichotomy m 0 with hm | hm | hm
            · rw [show max 0 m = 0 by omega] at HS
              go_wp2_with fail
              go_roundw
              case rel => exact ⟨k + 1, by omega, by go_num, HS.out, HB.out _⟩
              case measure => simp [intOf]; omega
            · subst hm
              rw [show max (0 : Int) 0 = 0 by omega] at HS
              go_wp2_with fail
              go_roundw
              case rel => exact ⟨k + 1, by omega, by go_num, HS.out, HB.out _⟩
              case measure => simp [intOf]; omega
            · rw [show max 0 m = m by omega] at HS
              go_wp2_with fail
              go_roundw
              case rel => exact ⟨k + 1, by omega, by go_num, HS.out, HB.out _⟩
              case measure => simp [intOf]; omega
          · have hke : k = e1.length := by omega
            have hO := HO.out
            rw [upTo_end (by omega)] at hO
            have hl8 : (atLeast0 e1).length ≤ 1000000 := by rw [atLeast0_length]; exact hl1
            have R2 := Lib.hid R1.out.least
            obtain ⟨a7, k7, he7, hi7, _, _, _, _⟩ := own_ents hO
            have he8 := atLeast0_length e1
            rw [he8] at he7 hi7 hl8
            cases he7
            generalize atLeast0 e1 = e2 at *
            have HR := Lib.hid (rresult_any a5 e1.length k5 e2 wr hi7 hl8 R2.out)
            clear hi7 he8 hO hke
            go_wp2_with fail
            refine HR.out.mono ?_
            rintro e w4 ⟨v4, rfl, ho4, hb4⟩
            go_wp2_with fail
            go_ret2
            exact ⟨_, rfl, ho4.mono hs9, hbel.trans (hb4.mono hs9)⟩
  · rw [if_pos (by simpa using hz)]
    generalize twoE es fs = z at *
    have hz0 : (z == 0) = false := by simpa using hz
    have C1 := Lib.hid c1
    clear c1 hs hs2 hz
    go_enter Try.func35, Try.ntmps35
    go_wp2_with fail
    refine C1.out.mono ?_
    rintro e w1 ⟨rfl, hb1⟩
    go_wp2_with fail
    go_ret2
    exact ⟨_, rfl, OwnEnts.nil _ _, hb1⟩

end Go.Proofs.Ytdhhhmehkldliaa
