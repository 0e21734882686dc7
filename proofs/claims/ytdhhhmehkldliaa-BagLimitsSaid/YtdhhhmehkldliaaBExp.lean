/-
  For every layer that holds lists of rows: rows of rows in memory, what came in and what the call makes. · Expand, of the program and of the reference; SameRows. · Expand of the reference; SameRows.
-/
import Derived.Test.YtdhhhmehkldliaaGEnts
import Derived.Test.YtdhhhmehkldliaaBPSum
import Derived.Test.YtdhhhmehkldliaaBSame
import Derived.Test.YtdhhhmehkldliaaBRead2
import Derived.Test.YtdhhhmehkldliaaGClone
set_option linter.unusedVariables false
set_option maxRecDepth 100000
namespace Go.Proofs.Ytdhhhmehkldliaa
open Go.RowKit Wh

theorem info_rowv : (Try.prog.info? 28).map (fun i => (i.zero, i.size, i.bytes)) = some (some (.slice none 0 0), 1, 24) := by kernel_rfl

/-- The slice (a, len) has the rows rs. -/
def IsRowsL (w : World) (a : Option Addr) (len : Nat) (rs : List (List V)) : Prop :=
  rs.length = len ∧ (rs = [] ∨ ∃ b off, a = some ⟨b, off, none⟩ ∧ b < w.heap.size ∧ ∀ i r, rs[i]? = some r → ∃ v, w.cell? ⟨b, off + i, none⟩ = some v ∧ IsRow w v r)
theorem IsRowsL.below {w w' : World} {a : Option Addr} {len B : Nat} {rs : List (List V)} (h : IsRowsL w a len rs) (hb : Below B w w') (hB : w.heap.size ≤ B) : IsRowsL w' a len rs := by
  obtain ⟨h1, h2⟩ := h
  refine ⟨h1, ?_⟩
  rcases h2 with h2 | ⟨b, off, ha, hlt, hc⟩
  · exact .inl h2
  · have e : ∀ o, w'.cell? ⟨b, o, none⟩ = w.cell? ⟨b, o, none⟩ := fun o => hb.cell (p := ⟨b, o, none⟩) (by show b < B; omega)
    refine .inr ⟨b, off, ha, by have := hb.size; omega, fun i x hx => ?_⟩
    obtain ⟨v, c0, hr⟩ := hc i x hx
    exact ⟨v, by rw [e]; exact c0, hr.below hb hB⟩
theorem IsRowsL.at {w : World} {a : Option Addr} {len : Nat} {rs : List (List V)} (h : IsRowsL w a len rs) {k : Nat} (hk : k < len) :
    ∃ r ra rl rc b off, rs[k]? = some r ∧ a = some ⟨b, off, none⟩ ∧ b < w.heap.size ∧ w.cell? ⟨b, off + k, none⟩ = some (.slice ra rl rc) ∧ IsVals w ra rl r ∧ rl ≤ rc ∧ rc ≤ maxLen ∧ (ra = none → rc = 0) := by
  obtain ⟨h1, h2⟩ := h
  obtain ⟨r, hs⟩ : ∃ s, rs[k]? = some s := ⟨_, List.getElem?_eq_getElem (by omega)⟩
  rcases h2 with rfl | ⟨b, off, ha, hlt, hc⟩
  · simp at hs
  · obtain ⟨v, c0, ra, rl, rc, rfl, g1, g2, g3, g4⟩ := hc k _ hs
    exact ⟨r, ra, rl, rc, b, off, hs, ha, hlt, c0, g1, g2, g3, g4⟩

/-- The value owns a row of rows rs; the rows lie elsewhere. -/
def OwnRows (w : World) (base : Nat) (v : Value) (rs : List (List V)) : Prop :=
  ∃ l : List Value, l.length = rs.length ∧ w.ownsRow base 28 1 v rs.length l ∧ ∀ (i : Nat) (r : List V), rs[i]? = some r → ∃ rv : Value, l[i]? = some rv ∧ IsRow w rv r ∧ FarOf v.ownBlock rv r
theorem OwnRows.nil (w : World) (base : Nat) : OwnRows w base (.slice none 0 0) [] := ⟨[], rfl, World.ownsRow_nil _ _ _ _, fun i e h => by simp at h⟩
theorem OwnRows.empty {w : World} {base : Nat} {v : Value} (h : w.ownsRow base 28 1 v 0 []) : OwnRows w base v [] := ⟨[], rfl, h, fun i e h => by simp at h⟩
theorem OwnRows.below {w w' : World} {base : Nat} {v : Value} {rs : List (List V)} (h : OwnRows w base v rs) (hb : Below w.heap.size w w') : OwnRows w' base v rs := by
  obtain ⟨l, h1, h2, h3⟩ := h
  refine ⟨l, h1, own_below h2 hb, fun i e he => ?_⟩
  obtain ⟨rv, a1, a2, a3⟩ := h3 i e he
  exact ⟨rv, a1, a2.below hb (Nat.le_refl _), a3⟩
theorem OwnRows.mono {w : World} {base base' : Nat} {v : Value} {rs : List (List V)} (h : OwnRows w base v rs) (hb : base' ≤ base) : OwnRows w base' v rs := by
  obtain ⟨l, h1, h2, h3⟩ := h
  exact ⟨l, h1, own_mono h2 hb, h3⟩
theorem own_rows {w : World} {base : Nat} {v : Value} {rs : List (List V)} (h : OwnRows w base v rs) :
    ∃ a cap, v = .slice a rs.length cap ∧ IsRowsL w a rs.length rs ∧ rs.length ≤ cap ∧ cap ≤ maxLen ∧ (a = none → cap = 0) := by
  obtain ⟨l, h1, h2, h3⟩ := h
  rcases h2.2 with ⟨rfl, h0⟩ | ⟨g, cap, cur, rfl, hg, hh, hnc, hmc, _, ht⟩
  · exact ⟨none, 0, by rw [h0], ⟨rfl, .inl (List.eq_nil_of_length_eq_zero h0)⟩, by omega, Nat.zero_le _, fun _ => rfl⟩
  · have hlt : g < w.heap.size := (Array.getElem?_eq_some_iff.1 hh).1
    refine ⟨_, cap, rfl, ⟨rfl, .inr ⟨g, 0, rfl, hlt, fun i e he => ?_⟩⟩, hnc, hmc, (by rintro ⟨⟩)⟩
    obtain ⟨rv, a1, a2, _⟩ := h3 i e he
    have hi := (List.getElem?_eq_some_iff.1 he).1
    refine ⟨rv, ?_, a2⟩
    rw [Nat.zero_add, h2.cellAt i (by omega)]
    exact a1

theorem OwnRows.push {w w' : World} {base : Nat} {v rv : Value} {rs : List (List V)} {l : List Value} {r : List V} {g cap : Nat}
    (h1 : l.length = rs.length) (h3 : ∀ (i : Nat) (r : List V), rs[i]? = some r → ∃ rv : Value, l[i]? = some rv ∧ IsRow w rv r ∧ FarOf v.ownBlock rv r)
    (hr : IsRow w rv r) (hf : FarOf v.ownBlock rv r)
    (hown : w'.ownsRow base 28 1 (.slice (some ⟨g, 0, none⟩) (rs.length + 1) cap) (rs.length + 1) (l ++ [rv])) (hgrow : w.grownBy w' v.ownBlock) (hat : v.ownBlock = some g ∨ w.heap.size ≤ g) :
    OwnRows w' base (.slice (some ⟨g, 0, none⟩) (rs.length + 1) cap) (rs ++ [r]) := by
  have keep : ∀ u r, IsRow w u r → FarOf v.ownBlock u r → IsRow w' u r ∧ FarOf (some g) u r := fun u r hu hfu => by
    obtain ⟨a, n, c, rfl, g1, g2⟩ := hu
    refine ⟨⟨a, n, c, rfl, g1.grown hgrow fun hne x hx => hfu hne x n c (by rw [hx]), g2⟩, fun hne x n' c' hx => ?_⟩
    cases hx
    rcases hat with hat | hat
    · have := hfu hne x n c rfl
      rwa [hat] at this
    · rcases g1.2 with h0 | ⟨b, off, hx, hlt, _⟩
      · exact absurd h0 hne
      · cases hx
        intro hc
        cases hc
        exact absurd hlt (Nat.not_lt.2 hat)
  refine ⟨l ++ [rv], by simp [h1], ?_, fun i x hx => ?_⟩
  · rw [List.length_append]
    exact hown
  · by_cases hi : i < rs.length
    · rw [List.getElem?_append_left hi] at hx
      obtain ⟨u, a1, a2, a3⟩ := h3 i x hx
      obtain ⟨k1, k2⟩ := keep u _ a2 a3
      exact ⟨u, by rw [List.getElem?_append_left (by omega)]; exact a1, k1, k2⟩
    · have hlt := (List.getElem?_eq_some_iff.1 hx).1
      simp only [List.length_append, List.length_cons, List.length_nil] at hlt
      obtain rfl : i = rs.length := by omega
      rw [List.getElem?_append_right (Nat.le_refl _), Nat.sub_self] at hx
      simp at hx
      subst hx
      obtain ⟨k1, k2⟩ := keep rv _ hr hf
      exact ⟨rv, by rw [List.getElem?_append_right (by omega), h1, Nat.sub_self]; rfl, k1, k2⟩

theorem rowPushed {w0 wr : World} {v rv : Value} {acc : List (List V)} {r : List V} (hO : OwnRows wr w0.heap.size v acc) (hrv : IsRow wr rv r) (far : FarOf v.ownBlock rv r) (hbel : Below w0.heap.size w0 wr) :
    ∃ l : List Value, wr.ownsRow w0.heap.size 28 1 v acc.length l ∧ (∀ W g cap w3, Below wr.heap.size wr W → w3.ownsRow w0.heap.size 28 1 (.slice (some ⟨g, 0, none⟩) (acc.length + 1) cap) (acc.length + 1) (l ++ [rv]) →
      W.grownBy w3 v.ownBlock → (v.ownBlock = some g ∨ W.heap.size ≤ g) → OwnRows w3 w0.heap.size (.slice (some ⟨g, 0, none⟩) (acc.length + 1) cap) (acc ++ [r]) ∧ Below w0.heap.size w0 w3) := by
  obtain ⟨l, h1, h2, h3⟩ := hO
  refine ⟨l, h2, fun W g cap w3 hW hown hgrow hat => ⟨?_, ?_⟩⟩
  · exact OwnRows.push h1 (fun i e he => by
      obtain ⟨u, a1, a2, a3⟩ := h3 i e he
      exact ⟨u, a1, a2.below hW (Nat.le_refl _), a3⟩) (hrv.below hW (Nat.le_refl _)) far hown hgrow hat
  · exact (hbel.trans (hW.mono hbel.size)).grown hgrow (Nat.le_trans hbel.size hW.size) (fun j hj => (h2.lt j hj).1)
theorem OwnRows.far {w : World} {base : Nat} {v : Value} {rs : List (List V)} (h : OwnRows w base v rs) : ∀ j, v.ownBlock = some j → j < w.heap.size := fun j hj => by
  obtain ⟨l, _, h2, _⟩ := h
  exact (h2.lt j hj).2

/-- The call returns a new list of rows, and an error. -/
def RowsErr (w : World) (out : List (List V) × Int) (e : Ending) (w' : World) : Prop := ∃ sv : Value, e = .returned (.tuple #[sv, .int .i64 out.2]) ∧ OwnRows w' w.heap.size sv out.1 ∧ Below w.heap.size w w'

end Go.Proofs.Ytdhhhmehkldliaa

set_option linter.unusedVariables false
set_option maxRecDepth 100000
namespace Wh

/-- The rows of a table, each as often as its count says. -/
def expL (es : List En) : List (List V) := es.flatMap fun e => List.replicate e.cnt.toNat e.row
def expOut (es : List En) : List (List V) × Int := if ¬ bagE es = 0 then ([], bagE es) else if posB es = false then ([], 8) else if 4096 < sumC es then ([], 2) else (expL es, 0)
theorem expL_next {es : List En} {k : Nat} {e : En} (h : es[k]? = some e) : expL (es.take (k + 1)) = expL (es.take k) ++ List.replicate e.cnt.toNat e.row := by
  unfold expL
  rw [List.take_add_one, h, List.flatMap_append]
  simp
theorem expL_length {es : List En} (h : ∀ e ∈ es, 0 < e.cnt) : ((expL es).length : Int) = sumC es := by
  unfold expL
  induction es with
  | nil => rfl
  | cons e es ih =>
    have h1 := h e List.mem_cons_self
    simp only [List.flatMap_cons, List.length_append, List.length_replicate, sumC]
    have := ih fun x hx => h x (List.mem_cons_of_mem _ hx)
    omega
theorem sumC_nonneg {es : List En} (h : ∀ e ∈ es, 0 < e.cnt) : 0 ≤ sumC es := by rw [← expL_length h]; omega
theorem posB_mem {es : List En} (h : posB es = true) : ∀ e ∈ es, 0 < e.cnt := fun e he => by
  unfold posB at h
  rw [List.all_eq_true] at h
  simpa using h e he
theorem sumC_take {es : List En} (h : ∀ e ∈ es, 0 < e.cnt) (k : Nat) : sumC (es.take k) ≤ sumC es := by
  have h1 := sumC_append (es.take k) (es.drop k)
  rw [List.take_append_drop] at h1
  have h2 := sumC_nonneg (es := es.drop k) fun e he => h e (List.mem_of_mem_drop he)
  omega
theorem rep_next (r : List V) (acc : List (List V)) (j : Nat) : acc ++ List.replicate (j + 1) r = acc ++ List.replicate j r ++ [r] := by
  rw [List.append_assoc, ← List.replicate_succ']

end Wh
namespace Go.Proofs.Ytdhhhmehkldliaa
open Go.RowKit Wh

set_option maxHeartbeats 4000000 in
theorem expand_any (a : Option Addr) (len cap : Nat) (es : List En) (w : World) (hs : IsEnts w a len es) (hl : len ≤ 9223372036854775807) :
    Calls Try.prog 43 #[.slice a len cap] w (RowsErr w (expOut es)) := by
  have hln := hs.1
  have c1 := size_any6 a len cap es w hs hl
  have C2 := Lib.hid (fun W (h : Below w.heap.size w W) => contains_any6 _ _ _ pred_neg a len cap es W (hs.below h (Nat.le_refl _)) hl)
  unfold expOut
  by_cases hz : bagE es = 0
  · have ok := bagE_zero.1 hz
    rw [if_neg (by simpa using hz), posB_any ok.bag.nz]
    rw [show sizeZ es = sumC es by unfold sizeZ; rw [if_pos hz], hz] at c1
    have C1 := Lib.hid c1
    have hpq := posB_any ok.bag.nz
    have hPM := fun h => posB_mem (es := es) h
    rw [hpq] at hPM
    generalize anyP (fun n => decide (n < 0)) es = b at *
    cases b with
    | true =>
      rw [if_pos (by rfl)]
      clear c1 hs hz ok hpq hPM
      go_enter Try.func43, Try.ntmps43
      go_wp2_with fail
      refine C1.out.mono ?_
      rintro e w1 ⟨rfl, hb1⟩
      go_wp2_with fail
      refine (C2.out _ hb1).mono ?_
      rintro e w2 ⟨rfl, hb2⟩
      go_wp2_with fail
      go_ret2
      exact ⟨_, rfl, OwnRows.nil _ _, hb1.trans (hb2.mono hb1.size)⟩
    | false =>
      rw [if_neg (by simp)]
      have hpos := hPM rfl
      by_cases hbig : 4096 < sumC es
      · rw [if_pos hbig]
        generalize sumC es = s at *
        clear c1 hs hz ok hpq hPM
        go_enter Try.func43, Try.ntmps43
        go_wp2_with fail
        refine C1.out.mono ?_
        rintro e w1 ⟨rfl, hb1⟩
        go_wp2_with fail
        refine (C2.out _ hb1).mono ?_
        rintro e w2 ⟨rfl, hb2⟩
        go_wp2_with fail
        go_ret2
        exact ⟨_, rfl, OwnRows.nil _ _, hb1.trans (hb2.mono hb1.size)⟩
      · rw [if_neg hbig]
        have hnn := sumC_nonneg hpos
        have HTK := Lib.hid (fun k => show (expL (es.take k)).length ≤ 4096 by
          have h1 := expL_length (es := es.take k) fun e he => hpos e (List.mem_of_mem_take he)
          have h2 := sumC_take hpos k
          omega)
        have HPOS := Lib.hid hpos
        have HFIT := Lib.hid ok.rows
        obtain ⟨S, hS⟩ : ∃ S : Nat, sumC es = S := ⟨(sumC es).toNat, by omega⟩
        rw [hS] at C1
        have hS4 : S ≤ 4096 := by omega
        have HS := Lib.hid hs
        obtain ⟨i0, hi, hz0, hz1, hz2⟩ := info_parts info_rowv
        clear c1 hs hz ok hpq hPM hpos hbig hnn hS
        go_enter Try.func43, Try.ntmps43
        go_wp2_with fail
        refine C1.out.mono ?_
        rintro e w1 ⟨rfl, hb1⟩
        go_wp2_with fail
        refine (C2.out _ hb1).mono ?_
        rintro e w2 ⟨rfl, hb2⟩
        have hB2 := hb1.trans (hb2.mono hb1.size)
        have hs2 := hB2.size
        clear C1 C2 hb1 hb2
        go_wp2_with (refine wpList_make_own _ rfl (.const (.int .i64 0)) (.tmp 24) 52 rfl w.heap.size 28 i0 _ 1 Try.underlying52 hi hz0 hz1 .i64 .i64 _ S rfl rfl rfl ?c1 ?c2 hs2 ?_)
        case c1 => rw [hz2]; omega
        case c2 => simp [maxLen]; omega
        intro w0 own0 hg0
        have B0 := hB2.grown hg0 hs2 (fun j hj => by cases hj)
        have HO0 := Lib.hid (OwnRows.empty own0)
        generalize hgg : w2.heap.size = g at *
        clear own0 hg0 hgg hB2 hs2
        go_wp2_with fail
        go_loopw [6, 28] (fun ov iv wr => ∃ k : Nat, k ≤ len ∧ iv = .int .i64 k ∧ OwnRows wr w.heap.size ov (expL (es.take k)) ∧ Below w.heap.size w wr) (fun _ i _ => len - (intOf i).toNat)
        case atStart => exact ⟨0, Nat.zero_le _, rfl, HO0.out, B0⟩
        case round =>
          obtain ⟨k, hk, rfl, hO, hbel⟩ := hrel
          have HO := Lib.hid hO
          have hsz := hbel.size
          clear hO HO0 B0
          by_cases hlt : k < len
          · obtain ⟨r, n, ra, rl, rc, b, off, hx, rfl, hbl, d0, d1, hv, g1, g2, g3⟩ := (HS.out).at hlt
            have d0 := (hbel.cell (p := ⟨b, _, none⟩) hbl).trans d0
            have d1 := (hbel.cell (p := ⟨b, _, none⟩) hbl).trans d1
            have hn0 := HPOS.out _ (List.mem_of_getElem? hx)
            have hrl := HFIT.out _ (List.mem_of_getElem? hx)
            have hvl := hv.1
            simp only at hn0 hrl
            have HN := Lib.hid (expL_next hx)
            have hl5 := HTK.out (k + 1)
            rw [HN.out, List.length_append, List.length_replicate] at hl5
            simp only at hl5 HN
            obtain ⟨N, rfl⟩ : ∃ N : Nat, n = N := ⟨n.toNat, by omega⟩
            rw [Int.toNat_natCast] at hl5 HN
            have bx := (ebox wr (.slice ra rl rc) (N : Int) 30).1
            have hW1 : Below wr.heap.size wr (wr.alloc (.cells #[.slice ra rl rc, .int .i64 N] 30)) := (Below.refl _ _).alloc (Nat.le_refl _) _
            have hW1s : (wr.alloc (.cells #[.slice ra rl rc, .int .i64 N] 30)).heap.size = wr.heap.size + 1 := by simp
            have HO1 := Lib.hid (HO.out.below hW1)
            have HFX := Lib.hid (fun jj hjj => Nat.ne_of_lt (HO.out.far jj hjj))
            have HV := Lib.hid hv
            generalize expL (es.take k) = acc at *
            generalize hq : expL (es.take (k + 1)) = acc2 at *
            have HQ := Lib.hid hq
            clear hx hv hq HO
            go_wp2_with fail
            generalize hw1 : wr.alloc (.cells #[.slice ra rl rc, .int .i64 N] 30) = W1 at *
            have hBW := hbel.trans (hW1.mono hsz)
            have hX : wr.heap.size < W1.heap.size := by omega
            clear hw1 hW1 hbel d0 d1
            generalize hXX : wr.heap.size = X at *
            clear hXX hW1s
            go_loopw [6, 34] (fun ov jv wq => ∃ j : Nat, j ≤ N ∧ jv = .int .i64 j ∧ OwnRows wq w.heap.size ov (acc ++ List.replicate j r) ∧ wq.cell? ⟨X, 0, none⟩ = some (.slice ra rl rc) ∧ (∀ jj, ov.ownBlock = some jj → jj ≠ X) ∧ Below w.heap.size w wq ∧ X < wq.heap.size) (fun _ j _ => N - (intOf j).toNat)
            case atStart => exact ⟨0, Nat.zero_le _, rfl, by simpa using HO1.out, bx, HFX.out, hBW, hX⟩
            case round =>
              clear hBW hX HO1 bx HFX
              obtain ⟨j, hj, rfl, hOj, x0, hfx, hb5, hX5⟩ := hrel
              have HOj := Lib.hid hOj
              have HFJ := Lib.hid hfx
              have hw5 := hb5.size
              clear hOj hfx
              by_cases hjn : j < N
              · have hji : (j : Int) < (N : Int) := by omega
                have CC := Lib.hid (clonev_any ra rl rc r wr (HV.out.below hb5 (Nat.le_refl _)) g3 g1 (by omega))
                have hla : (acc ++ List.replicate j r).length ≤ 4096 := by rw [List.length_append, List.length_replicate]; omega
                have HR := Lib.hid (rep_next r acc j)
                generalize acc ++ List.replicate j r = cur at *
                generalize hq2 : acc ++ List.replicate (j + 1) r = cur2 at *
                have HQ2 := Lib.hid hq2
                clear hq2
                go_wp2_with fail
                refine CC.out.mono ?_
                rintro e w4 ⟨sv, rfl, hown, hb⟩
                obtain ⟨hrow5, hfar5⟩ := clone_row hown hvl
                obtain ⟨ra5, k5, rfl, _, _, _, _⟩ := own_rowv hown hvl
                have hs4 := hb.size
                have HO4 := HOj.out.below hb
                obtain ⟨l9, ho9, PUSH⟩ := rowPushed HO4 hrow5 (hfar5 _ fun i hi => HOj.out.far i hi) (hb5.trans (hb.mono hw5))
                have HP := Lib.hid PUSH
                have hx4 := ((bcell hb).1 X 0 hX5).trans x0
                have hX4 : X < w4.heap.size := by omega
                have hwq : w.heap.size ≤ w4.heap.size := by omega
                clear PUSH hown hrow5 hfar5 CC HO4
                go_wp2_with (at_builtin; refine wpList_append_lies _ rfl _ _ 52 rfl w.heap.size 28 i0 _ 1 24 Try.underlying52 hi hz0 hz1 hz2 rfl (by decide) _ _ _ rfl (ho9.alloc _) ⟨w4.heap.size, 0, none⟩ 1 1 [.slice ra5 rl k5] rfl rfl (World.news_of_block (cs := #[.slice ra5 rl k5]) (t := 28) (fr := (0, 0)) (heap_alloc_new w4 _)) (by simp [Value.oneCell']) (by omega) (by unfold maxLen; omega) (by omega) (by simp; omega) (w4.heap.size + 1) (by simp) ?_)
                intro gg cc w9 hown9 hgrow9 hat9 hlt9
                have HH := HP.out (w4.alloc (.cells #[.slice ra5 rl k5] 28)) gg cc w9 ((Below.refl _ _).alloc (Nat.le_refl _) _) hown9 hgrow9 (hat9.imp id fun h => by rw [h]; simp)
                have hx9 : w9.cell? ⟨X, 0, none⟩ = some (.slice ra rl rc) := hgrow9.cell (((bcell (show Below w4.heap.size w4 (w4.alloc (.cells #[.slice ra5 rl k5] 28)) from (Below.refl _ _).alloc (Nat.le_refl _) _)).1 X 0 hX4).trans hx4) (fun h => HFJ.out X h.symm rfl)
                have hsz9 : X < w9.heap.size := by have := hgrow9.size; simp at this; omega
                have hf9 : ∀ jj, (Value.slice (some ⟨gg, 0, none⟩) (cur.length + 1) cc).ownBlock = some jj → jj ≠ X := by
                  intro jj h
                  cases h
                  rcases hat9 with h | h
                  · exact HFJ.out _ h
                  · rw [h]; simp; omega
                clear hgrow9 hown9 hat9 hlt9 ho9 HP x0 hx4
                go_wp2_with fail
                go_roundw
                case rel => exact ⟨j + 1, by omega, by go_num, by rw [HQ2.out, HR.out]; exact HH.1, hx9, hf9, HH.2, hsz9⟩
                case measure => simp [intOf]; omega
              · obtain rfl : j = N := by omega
                have HF := Lib.hid (HOj.out)
                clear HOj
                go_wp2_with fail
                go_roundw
                case rel => exact ⟨k + 1, by omega, by go_num, by rw [HQ.out, HN.out]; exact HF.out, hb5⟩
                case measure => simp [intOf]; omega
          · obtain rfl : k = len := by omega
            have hE : es.take k = es := List.take_of_length_le (by omega)
            rw [hE] at HO
            clear hE
            go_wp2_with fail
            go_ret2
            exact ⟨_, rfl, HO.out, hbel⟩
  · rw [if_pos (by simpa using hz)]
    rw [show sizeZ es = 0 by unfold sizeZ; rw [if_neg hz]] at c1
    generalize bagE es = z at *
    have hz0 : (z == 0) = false := by simpa using hz
    have C1 := Lib.hid c1
    clear c1 hs hz C2
    go_enter Try.func43, Try.ntmps43
    go_wp2_with fail
    refine C1.out.mono ?_
    rintro e w1 ⟨rfl, hb1⟩
    go_wp2_with fail
    go_ret2
    exact ⟨_, rfl, OwnRows.nil _ _, hb1⟩

end Go.Proofs.Ytdhhhmehkldliaa

set_option linter.unusedVariables false
set_option maxRecDepth 100000
namespace Go.Proofs.Ytdhhhmehkldliaa
open Go.RowKit Wh

set_option maxHeartbeats 4000000 in
theorem rexpand_any (a : Option Addr) (len cap : Nat) (es : List En) (w : World) (hs : IsEnts w a len es) (hl : len ≤ 9223372036854775807) :
    Calls Try.prog 44 #[.slice a len cap] w (RowsErr w (expOut es)) := by
  have hln := hs.1
  have c1 := rsize_any6 a len cap es w hs hl
  have C2 := Lib.hid (fun W (h : Below w.heap.size w W) => rpositive_any a len cap es W (hs.below h (Nat.le_refl _)) hl)
  unfold expOut
  by_cases hz : bagE es = 0
  · have ok := bagE_zero.1 hz
    rw [if_neg (by simpa using hz)]
    rw [show sizeZ es = sumC es by unfold sizeZ; rw [if_pos hz], hz] at c1
    have C1 := Lib.hid c1
    have hPM := fun h => posB_mem (es := es) h
    generalize posB es = b at *
    cases b with
    | false =>
      rw [if_pos (by rfl)]
      clear c1 hs hz ok hPM
      go_enter Try.func44, Try.ntmps44
      go_wp2_with fail
      refine C1.out.mono ?_
      rintro e w1 ⟨rfl, hb1⟩
      go_wp2_with fail
      refine (C2.out _ hb1).mono ?_
      rintro e w2 ⟨rfl, rfl⟩
      go_wp2_with fail
      go_ret2
      exact ⟨_, rfl, OwnRows.nil _ _, hb1⟩
    | true =>
      rw [if_neg (by simp)]
      have hpos := hPM rfl
      by_cases hbig : 4096 < sumC es
      · rw [if_pos hbig]
        generalize sumC es = s at *
        clear c1 hs hz ok hPM
        go_enter Try.func44, Try.ntmps44
        go_wp2_with fail
        refine C1.out.mono ?_
        rintro e w1 ⟨rfl, hb1⟩
        go_wp2_with fail
        refine (C2.out _ hb1).mono ?_
        rintro e w2 ⟨rfl, rfl⟩
        go_wp2_with fail
        go_ret2
        exact ⟨_, rfl, OwnRows.nil _ _, hb1⟩
      · rw [if_neg hbig]
        have hnn := sumC_nonneg hpos
        have HTK := Lib.hid (fun k => show (expL (es.take k)).length ≤ 4096 by
          have h1 := expL_length (es := es.take k) fun e he => hpos e (List.mem_of_mem_take he)
          have h2 := sumC_take hpos k
          omega)
        have HPOS := Lib.hid hpos
        have HFIT := Lib.hid ok.rows
        obtain ⟨S, hS⟩ : ∃ S : Nat, sumC es = S := ⟨(sumC es).toNat, by omega⟩
        rw [hS] at C1
        have hS4 : S ≤ 4096 := by omega
        have HS := Lib.hid hs
        obtain ⟨i0, hi, hz0, hz1, hz2⟩ := info_parts info_rowv
        clear c1 hs hz ok hPM hpos hbig hnn hS
        go_enter Try.func44, Try.ntmps44
        go_wp2_with fail
        refine C1.out.mono ?_
        rintro e w1 ⟨rfl, hb1⟩
        go_wp2_with fail
        refine (C2.out _ hb1).mono ?_
        rintro e w2 ⟨rfl, rfl⟩
        clear C1 C2
        go_wp2_with fail
        go_loopw [6, 7, 8] (fun ov iv _ wr => ∃ k : Nat, k ≤ len ∧ iv = .int .i64 k ∧ OwnRows wr w.heap.size ov (expL (es.take k)) ∧ Below w.heap.size w wr) (fun _ i _ _ => len - (intOf i).toNat)
        case atStart => exact ⟨0, Nat.zero_le _, rfl, OwnRows.nil _ _, hb1⟩
        case round =>
          clear hb1
          obtain ⟨k, hk, rfl, hO, hbel⟩ := hrel
          have HO := Lib.hid hO
          have hsz := hbel.size
          clear hO
          by_cases hlt : k < len
          · obtain ⟨r, n, ra, rl, rc, b, off, hx, rfl, hbl, d0, d1, hv, g1, g2, g3⟩ := (HS.out).at hlt
            have hn0 := HPOS.out _ (List.mem_of_getElem? hx)
            have hrl := HFIT.out _ (List.mem_of_getElem? hx)
            have hvl := hv.1
            simp only at hn0 hrl
            have HN := Lib.hid (expL_next hx)
            have hl5 := HTK.out (k + 1)
            rw [HN.out, List.length_append, List.length_replicate] at hl5
            simp only at hl5 HN
            obtain ⟨N, rfl⟩ : ∃ N : Nat, n = N := ⟨n.toNat, by omega⟩
            rw [Int.toNat_natCast] at hl5 HN
            have HV := Lib.hid hv
            generalize expL (es.take k) = acc at *
            generalize hq : expL (es.take (k + 1)) = acc2 at *
            have HQ := Lib.hid hq
            clear hx hv hq
            go_wp2_with fail
            go_loopw [6, 8] (fun ov jv wq => ∃ j : Nat, j ≤ N ∧ jv = .int .i64 j ∧ OwnRows wq w.heap.size ov (acc ++ List.replicate j r) ∧ Below w.heap.size w wq) (fun _ j _ => N - (intOf j).toNat)
            case atStart => exact ⟨0, Nat.zero_le _, rfl, by simpa using HO.out, hbel⟩
            case round =>
              clear hbel hsz HO
              obtain ⟨j, hj, rfl, hOj, hb5⟩ := hrel
              have HOj := Lib.hid hOj
              have hw5 := hb5.size
              have e0 := (hb5.cell (p := ⟨b, off + k * 2, none⟩) hbl).trans d0
              have e1 := (hb5.cell (p := ⟨b, off + k * 2 + 1, none⟩) hbl).trans d1
              clear hOj
              by_cases hjn : j < N
              · have hji : (j : Int) < (N : Int) := by omega
                have hla : (acc ++ List.replicate j r).length ≤ 4096 := by rw [List.length_append, List.length_replicate]; omega
                have HR := Lib.hid (rep_next r acc j)
                have hvr := HV.out.below hb5 (Nat.le_refl _)
                generalize acc ++ List.replicate j r = cur at *
                generalize hq2 : acc ++ List.replicate (j + 1) r = cur2 at *
                have HQ2 := Lib.hid hq2
                clear hq2 d0 d1
                go_wp2_with (at_builtin; refine wpList_clone rfl _ (.tmp 42) rfl rfl rfl hvr g3 (by omega) ?_)
                intro v5 w4 hown hg4
                obtain ⟨hrow5, hfar5⟩ := clone_row hown hvl
                obtain ⟨ra5, k5, rfl, _, _, _, _⟩ := own_rowv hown hvl
                have hb : Below wr.heap.size wr w4 := (Below.refl _ _).grown hg4 (Nat.le_refl _) (fun j hj => by cases hj)
                have hs4 := hb.size
                have HO4 := HOj.out.below hb
                obtain ⟨l9, ho9, PUSH⟩ := rowPushed HO4 hrow5 (hfar5 _ fun i hi => HOj.out.far i hi) (hb5.trans (hb.mono hw5))
                have HP := Lib.hid PUSH
                have hwq : w.heap.size ≤ w4.heap.size := by omega
                clear PUSH hown hrow5 hfar5 HO4 hg4 hvr
                go_wp2_with (at_builtin; refine wpList_append_lies _ rfl _ _ 52 rfl w.heap.size 28 i0 _ 1 24 Try.underlying52 hi hz0 hz1 hz2 rfl (by decide) _ _ _ rfl (ho9.alloc _) ⟨w4.heap.size, 0, none⟩ 1 1 [.slice ra5 rl k5] rfl rfl (World.news_of_block (cs := #[.slice ra5 rl k5]) (t := 28) (fr := (0, 0)) (heap_alloc_new w4 _)) (by simp [Value.oneCell']) (by omega) (by unfold maxLen; omega) (by omega) (by simp; omega) (w4.heap.size + 1) (by simp) ?_)
                intro gg cc w9 hown9 hgrow9 hat9 hlt9
                have HH := HP.out (w4.alloc (.cells #[.slice ra5 rl k5] 28)) gg cc w9 ((Below.refl _ _).alloc (Nat.le_refl _) _) hown9 hgrow9 (hat9.imp id fun h => by rw [h]; simp)
                clear hgrow9 hown9 hat9 hlt9 ho9 HP
                go_wp2_with fail
                go_roundw
                case rel => exact ⟨j + 1, by omega, by go_num, by rw [HQ2.out, HR.out]; exact HH.1, HH.2⟩
                case measure => simp [intOf]; omega
              · obtain rfl : j = N := by omega
                have HF := Lib.hid (HOj.out)
                clear HOj
                go_wp2_with fail
                go_roundw
                case rel => exact ⟨k + 1, by omega, by go_num, by rw [HQ.out, HN.out]; exact HF.out, hb5⟩
                case measure => simp [intOf]; omega
          · obtain rfl : k = len := by omega
            have hE : es.take k = es := List.take_of_length_le (by omega)
            rw [hE] at HO
            clear hE
            go_wp2_with fail
            go_ret2
            exact ⟨_, rfl, HO.out, hbel⟩
  · rw [if_pos (by simpa using hz)]
    rw [show sizeZ es = 0 by unfold sizeZ; rw [if_neg hz]] at c1
    generalize bagE es = z at *
    have hz0 : (z == 0) = false := by simpa using hz
    have C1 := Lib.hid c1
    clear c1 hs hz C2
    go_enter Try.func44, Try.ntmps44
    go_wp2_with fail
    refine C1.out.mono ?_
    rintro e w1 ⟨rfl, hb1⟩
    go_wp2_with fail
    go_ret2
    exact ⟨_, rfl, OwnRows.nil _ _, hb1⟩

theorem keepTwoBlocks {W0 W w' : World} {b o1 b2 o2 : Nat} {v1 v2 : Value} (hb : b < W0.heap.size) (hb2 : b2 < W0.heap.size)
    (h : W.cell? ⟨b, o1, none⟩ = some v1 ∧ W.cell? ⟨b2, o2, none⟩ = some v2 ∧ Below W0.heap.size W0 W) (hc : Below W.heap.size W w') :
    w'.cell? ⟨b, o1, none⟩ = some v1 ∧ w'.cell? ⟨b2, o2, none⟩ = some v2 ∧ Below W0.heap.size W0 w' := by
  obtain ⟨h1, h2, h3⟩ := h
  have e := (bcell hc).1
  have hs := h3.size
  refine ⟨?_, ?_, h3.trans (hc.mono hs)⟩ <;> (rw [e _ _ (by omega)]; assumption)

theorem rsamerows_true {a1 a2 : Option Addr} {len c1 c2 : Nat} {rs : List (List V)} {w : World} (h1 : IsRowsL w a1 len rs) (h2 : IsRowsL w a2 len rs) (q : len ≤ 9223372036854775807) :
    Calls Try.prog 46 #[.slice a1 len c1, .slice a2 len c2] w fun e w' => e = .returned (.bool true) ∧ Below w.heap.size w w' := by
  have H1 := Lib.hid h1
  have H2 := Lib.hid h2
  clear h1 h2
  go_enter Try.func46, Try.ntmps46
  go_wp2_with fail
  go_loopw [5] (fun iv wr => ∃ k : Nat, k ≤ len ∧ iv = .int .i64 k ∧ Below w.heap.size w wr) (fun i _ => len - (intOf i).toNat)
  case atStart => exact ⟨0, Nat.zero_le _, rfl, Below.refl _ _⟩
  case round =>
    obtain ⟨k, hk, rfl, hbel⟩ := hrel
    have hsz := hbel.size
    by_cases hlt : k < len
    · obtain ⟨r1, ra1, rl1, rc1, b1, off1, hx, rfl, hbl1, c0, hv1, g1, g2, g3⟩ := (H1.out.below hbel (Nat.le_refl _)).at hlt
      obtain ⟨r2, ra2, rl2, rc2, b2, off2, hy, rfl, hbl2, d0, hv2, g4, g5, g6⟩ := (H2.out.below hbel (Nat.le_refl _)).at hlt
      rw [hx] at hy
      cases hy
      have mm : maxLen = 9223372036854775807 := rfl
      have cs := Lib.hid (fun W (h : Below wr.heap.size wr W) => same_any ra1 rl1 rc1 r1 ra2 rl2 rc2 r1 W (hv1.below h (Nat.le_refl _)) (hv2.below h (Nat.le_refl _)) (by omega) (by omega))
      rw [show (cmpR r1 r1 == 0) = true by simp [cmpR_self]] at cs
      have hS0 : wr.drew.cell? ⟨b1, off1 + k, none⟩ = some (.slice ra1 rl1 rc1) ∧ wr.drew.cell? ⟨b2, off2 + k, none⟩ = some (.slice ra2 rl2 rc2) ∧ Below wr.heap.size wr wr.drew := ⟨c0, d0, (Below.refl _ _).drew⟩
      clear hv1 hv2 mm hx c0 d0
      go_wp2_with fail
      go_region_held3 (fun w' => w'.cell? ⟨b1, off1 + k, none⟩ = some (.slice ra1 rl1 rc1) ∧ w'.cell? ⟨b2, off2 + k, none⟩ = some (.slice ra2 rl2 rc2) ∧ Below wr.heap.size wr w')
        (first | with_reducible exact hS0 | with_reducible exact keepTwoBlocks hbl1 hbl2 hS0 hcall)
        (first | (go_at_call 59; refine (cs.out _ (by go_split_ands; assumption)).mono ?_; rintro e w' ⟨rfl, hcall⟩))
      all_goals
        have hF := hbel.trans ((keepTwoBlocks hbl1 hbl2 hS0 hcall).2.2.mono hsz)
        go_wp2_with fail
        go_roundw
        case rel => exact ⟨k + 1, by omega, by go_num, hF⟩
        case measure => simp [intOf]; omega
    · obtain rfl : k = len := by omega
      go_wp2_with fail
      go_ret
      exact ⟨rfl, hbel⟩

end Go.Proofs.Ytdhhhmehkldliaa
