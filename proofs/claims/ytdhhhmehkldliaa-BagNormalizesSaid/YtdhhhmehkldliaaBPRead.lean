/-
  The program's functions that only read bags: isCount, isNegative, isZero, checkEntry, Validate, validateBoth, Size, Count, IndexFunc, ContainsFunc, IsTable.
-/
import Derived.Test.YtdhhhmehkldliaaBPCmp
import Derived.Test.YtdhhhmehkldliaaBSame
set_option linter.unusedVariables false
set_option maxRecDepth 100000
namespace Go.Proofs.Ytdhhhmehkldliaa
open Go.RowKit Wh

theorem iscount_any (n : Int) (w : World) : Calls Try.prog 73 #[.int .i64 n] w fun e w' => e = .returned (.bool (smallB n)) ∧ w = w' := by
  go_enter Try.func73, Try.ntmps73
  go_wp2
  all_goals
    go_ret
    refine ⟨ret_bool ?_, rfl⟩
    unfold smallB
    first | (rw [decide_eq_true (p := -65536 ≤ n) (by assumption), Bool.true_and]) | (rw [decide_eq_false (p := -65536 ≤ n) (by assumption), Bool.false_and]) | (rw [decide_eq_false (p := -65536 ≤ n) (by omega), Bool.false_and])

theorem isneg_any (rv : Value) (n : Int) (w : World) (h : ∃ a m c, rv = .slice a m c) : Calls Try.prog 52 #[.agg #[rv, .int .i64 n]] w fun e w' => e = .returned (.bool (decide (n < 0))) ∧ Below w.heap.size w w' := by
  obtain ⟨a, m, c, rfl⟩ := h
  go_enter Try.func52, Try.ntmps52
  go_wp2_with fail
  go_ret
  exact ⟨rfl, (Below.refl _ _).alloc (Nat.le_refl _) _⟩

theorem iszero_any (rv : Value) (n : Int) (w : World) (h : ∃ a m c, rv = .slice a m c) : Calls Try.prog 80 #[.agg #[rv, .int .i64 n]] w fun e w' => e = .returned (.bool (decide (n = 0))) ∧ Below w.heap.size w w' := by
  obtain ⟨a, m, c, rfl⟩ := h
  by_cases hn : n = 0
  · subst hn
    go_enter Try.func80, Try.ntmps80
    go_wp2_with fail
    go_ret
    exact ⟨rfl, (Below.refl _ _).alloc (Nat.le_refl _) _⟩
  · rw [decide_eq_false hn]
    have hn0 : (n == 0) = false := by simpa using hn
    go_enter Try.func80, Try.ntmps80
    go_wp2_with fail
    go_ret
    exact ⟨ret_bool rfl, (Below.refl _ _).alloc (Nat.le_refl _) _⟩

set_option maxHeartbeats 1000000 in
theorem check_any (ra : Option Addr) (rl rc : Nat) (r : List V) (n : Int) (w : World) (hr : IsVals w ra rl r) (hl : rl ≤ 9223372036854775807) :
    Calls Try.prog 48 #[.agg #[.slice ra rl rc, .int .i64 n]] w fun e w' => e = .returned (.int .i64 (fitE ⟨r, n⟩)) ∧ Below w.heap.size w w' := by
  have hrl := hr.1
  have B0 : ∀ o, Below w.heap.size w (w.alloc o) := fun o => (Below.refl _ _).alloc (Nat.le_refl _) o
  by_cases h12 : 12 < rl
  · have he : fitE ⟨r, n⟩ = 2 := by unfold fitE; rw [if_pos (.inl (by show 12 < r.length; omega))]
    rw [he]
    clear he hr hrl
    go_enter Try.func48, Try.ntmps48
    go_wp2_with fail
    go_ret
    exact ⟨rfl, B0 _⟩
  have cs := fun W => iscount_any n W
  cases hs : smallB n with
  | false =>
    have he : fitE ⟨r, n⟩ = 2 := by unfold fitE; rw [if_pos (.inr hs)]
    rw [he]
    rw [hs] at cs
    clear he hr hrl hs
    go_enter Try.func48, Try.ntmps48
    go_wp2_with (first | (go_at_call 73; refine (cs _).mono ?_; rintro e w' ⟨rfl, rfl⟩))
    go_ret
    exact ⟨rfl, B0 _⟩
  | true =>
    have he : fitE ⟨r, n⟩ = if okRow r = true then 0 else 8 := by
      unfold fitE
      rw [if_neg]
      rintro (h | h)
      · exact h12 (by rw [← hrl]; exact h)
      · rw [hs] at h; cases h
    rw [he]
    rw [hs] at cs
    have NO := Lib.hid (fun (i : Nat) (v : V) h1 h2 => okRow_no (r := r) (i := i) (v := v) h1 h2)
    have YE := Lib.hid (fun h => okRow_yes (r := r) h)
    generalize okRow r = ok at *
    have HR := Lib.hid hr
    clear he hr hrl hs
    go_enter Try.func48, Try.ntmps48
    go_wp2_with (first | (go_at_call 73; refine (cs _).mono ?_; rintro e w' ⟨rfl, rfl⟩))
    clear cs
    go_loopw [18] (fun iv wr => ∃ k : Nat, k ≤ rl ∧ iv = .int .i64 k ∧ Hid (∀ (i : Nat) (v : V), i < k → r[i]? = some v → validB v.k v.n v.s = true) ∧ Below w.heap.size w wr) (fun i _ => rl - (intOf i).toNat)
    case atStart => exact ⟨0, Nat.zero_le _, rfl, fun i v hi => absurd hi (by omega), B0 _⟩
    case round =>
      obtain ⟨k, hk, rfl, HI, hbel⟩ := hrel
      by_cases hlt : k < rl
      · obtain ⟨vk, vn, vt, b, off, hx, rfl, hbl, d0, d1, d2⟩ := (HR.out.below hbel (Nat.le_refl _)).at hlt
        have HX := Lib.hid hx
        clear hx
        have cv := fun W => valid_any vk vn vt W
        have hs1 := hbel.size
        cases hv : validB vk vn vt with
        | true =>
          have HI2 : Hid (∀ (i : Nat) (v : V), i < k + 1 → r[i]? = some v → validB v.k v.n v.s = true) := fun i v hi hiv => by
            by_cases e : i = k
            · subst e
              have := HX.out
              rw [hiv] at this
              cases this
              exact hv
            · exact HI.out i v (by omega) hiv
          rw [hv] at cv
          clear hv HI NO YE HX B0
          go_wp2_with (first | (go_at_call 74; refine (cv _).mono ?_; rintro e w1 ⟨rfl, hb⟩))
          go_roundw
          case rel => exact ⟨k + 1, by omega, by go_num, HI2, (hbel.alloc hs1 _).trans (hb.mono (by simp; omega))⟩
          case measure => simp [intOf]; omega
        | false =>
          obtain rfl := NO.out k _ HX.out hv
          rw [hv] at cv
          clear hv HI NO YE HX B0
          go_wp2_with (first | (go_at_call 74; refine (cv _).mono ?_; rintro e w1 ⟨rfl, hb⟩))
          go_ret
          exact ⟨rfl, (hbel.alloc hs1 _).trans (hb.mono (by simp; omega))⟩
      · obtain rfl := YE.out fun i v hi => HI.out i v (by have := (List.getElem?_eq_some_iff.1 hi).1; have := HR.out.1; omega) hi
        clear NO YE HI B0
        go_wp2_with fail
        go_ret
        exact ⟨rfl, hbel⟩

/-- A new box of an entry. -/
theorem ebox (w : World) (v : Value) (n : Int) (t : TypeId) : (w.alloc (.cells #[v, .int .i64 n] t)).cell? ⟨w.heap.size, 0, none⟩ = some v ∧ (w.alloc (.cells #[v, .int .i64 n] t)).cell? ⟨w.heap.size, 1, none⟩ = some (.int .i64 n) :=
  ⟨cell_of_row _ _ 0 _ _ _ (heap_alloc_new w _), cell_of_row _ _ 1 _ _ _ (heap_alloc_new w _)⟩

set_option maxHeartbeats 2000000 in
theorem validate_any6 (a : Option Addr) (len cap : Nat) (es : List En) (w : World) (hs : IsEnts w a len es) (hl : len ≤ 9223372036854775807) :
    Calls Try.prog 17 #[.slice a len cap] w fun e w' => e = .returned (.int .i64 (bagE es)) ∧ Below w.heap.size w w' := by
  have hlen := hs.1
  by_cases hbig : 4096 < len
  · have he : bagE es = 2 := by unfold bagE; rw [if_pos (by omega)]
    rw [he]
    clear he hs hlen
    go_enter Try.func17, Try.ntmps17
    go_wp2_with fail
    go_ret
    exact ⟨rfl, Below.refl _ _⟩
  have he : bagE es = goBag none es := by unfold bagE; rw [if_neg (by omega)]
  rw [he]
  generalize hE : goBag none es = E
  have HE := Lib.hid hE
  have HS := Lib.hid hs
  clear he hE hs hlen
  go_enter Try.func17, Try.ntmps17
  go_wp2_with fail
  go_loopw [11] (fun iv wr => ∃ k : Nat, k ≤ len ∧ iv = .int .i64 k ∧ Hid (goBag (befR es k) (es.drop k) = E) ∧ Below w.heap.size w wr) (fun i _ => len - (intOf i).toNat)
  case atStart => exact ⟨0, Nat.zero_le _, rfl, HE.out, Below.refl _ _⟩
  case round =>
    obtain ⟨k, hk, rfl, HG, hbel⟩ := hrel
    have hsz := hbel.size
    by_cases hlt : k < len
    · obtain ⟨r, n, ra, rl, rc, b, off, hx, rfl, hbl, c0, c1, hv, g1, g2, g3⟩ := (HS.out.below hbel (Nat.le_refl _)).at hlt
      have HN := Lib.hid (goBag_next hx (befR es k))
      have HB := Lib.hid (befR_succ hx)
      simp only at HN
      have bx := ebox wr (.slice ra rl rc) n 30
      have hW1 : Below wr.heap.size wr (wr.alloc (.cells #[.slice ra rl rc, .int .i64 n] 30)) := (Below.refl _ _).alloc (Nat.le_refl _) _
      have hW1s : (wr.alloc (.cells #[.slice ra rl rc, .int .i64 n] 30)).heap.size = wr.heap.size + 1 := by simp
      have CF := Lib.hid (check_any ra rl rc r n _ (hv.below hW1 (Nat.le_refl _)) (by have : maxLen = 9223372036854775807 := rfl; omega))
      by_cases hf : fitE ⟨r, n⟩ = 0
      · have HN2 : Hid (E = if n = 0 then 8 else if afterB (befR es k) r = false then 14 else goBag (some r) (es.drop (k + 1))) := by show _ = _; rw [← HG.out, HN.out, if_neg (by simpa using hf)]
        rw [hf] at CF
        clear HN HG hf
        by_cases hn : n = 0
        · have HR : Hid (E = 8) := by show _ = _; rw [HN2.out, if_pos hn]
          subst hn
          clear HN2 hx hv
          go_wp2_with (first | (go_at_call 48; refine CF.out.mono ?_; rintro e w1 ⟨rfl, hb⟩; have e1 := (bcell hb).1; have x0 := (e1 wr.heap.size 0 (by omega)).trans bx.1; have x1 := (e1 wr.heap.size 1 (by omega)).trans bx.2))
          go_ret
          exact ⟨ret_int HR.out.symm, hbel.trans ((hW1.trans (hb.mono (by omega))).mono hsz)⟩
        · have HN3 : Hid (E = if afterB (befR es k) r = false then 14 else goBag (some r) (es.drop (k + 1))) := by show _ = _; rw [HN2.out, if_neg hn]
          have hn0 : (n == 0) = false := by simpa using hn
          clear HN2 hn
          by_cases hk0 : k = 0
          · subst hk0
            have HR : Hid (goBag (befR es (0 + 1)) (es.drop (0 + 1)) = E) := by show _ = _; rw [HN3.out, if_neg (by simp [befR, afterB]), HB.out]
            clear HN3 HB hx hv
            simp only [Nat.zero_mul, Nat.add_zero] at c0 c1
            go_wp2_with (first | (go_at_call 48; refine CF.out.mono ?_; rintro e w1 ⟨rfl, hb⟩; have e1 := (bcell hb).1; have x0 := (e1 wr.heap.size 0 (by omega)).trans bx.1; have x1 := (e1 wr.heap.size 1 (by omega)).trans bx.2))
            go_quiet (fail)
            go_wp2_with fail
            go_roundw
            case rel => exact ⟨1, by omega, rfl, HR, below_drewN (hbel.trans ((hW1.trans (hb.mono (by omega))).mono hsz)) _⟩
            case measure => simp [intOf]; omega
          · obtain ⟨j, hj⟩ : ∃ j : Nat, k = j + 1 := ⟨k - 1, by omega⟩
            obtain ⟨r', n', ra', rl', rc', b', off', hx', hae, hbl', d0, d1, hv', g1', g2', g3'⟩ := (HS.out.below hbel (Nat.le_refl _)).at (k := j) (by omega)
            cases hae
            have hbf : afterB (befR es k) r = decide (cmpR r' r < 0) := by
              have : befR es k = some r' := by
                unfold befR
                rw [if_neg hk0, show k - 1 = j by omega, hx']
                rfl
              rw [this]
              rfl
            rw [hbf] at HN3
            have mm : maxLen = 9223372036854775807 := rfl
            have CR := Lib.hid (fun W (h : Below wr.heap.size wr W) => cmp_ents ra' rl' rc' r' n' ra rl rc r n W (hv'.below h (Nat.le_refl _)) (hv.below h (Nat.le_refl _)) (by omega) (by omega))
            have hcv := cmpR_vals r' r
            generalize cmpR r' r = c at *
            have hw : IntKind.i64.wrap ((k : Int) - 1) = (j : Int) := by rw [IntKind.wrap_i64]; omega
            have hk1 : (0 : Int) < (k : Int) := by omega
            have hjl : (j : Int) < (len : Int) := by omega
            clear hbf hx hx' hv hv' mm hj
            go_wp2_with (first | (go_at_call 48; refine CF.out.mono ?_; rintro e w1 ⟨rfl, hb⟩; have e1 := (bcell hb).1; have x0 := (e1 wr.heap.size 0 (by omega)).trans bx.1; have x1 := (e1 wr.heap.size 1 (by omega)).trans bx.2; have y0 := (e1 b (off + j * 2) (by omega)).trans ((hW1.cell (p := ⟨b, off + j * 2, none⟩) hbl).trans d0); have y1 := (e1 b (off + j * 2 + 1) (by omega)).trans ((hW1.cell (p := ⟨b, off + j * 2 + 1, none⟩) hbl).trans d1)))
            have hbW : Below wr.heap.size wr w1.drew := (hW1.trans (hb.mono (by omega))).drew
            generalize hw0 : wr.alloc (.cells #[.slice ra rl rc, .int .i64 n] 30) = W0 at *
            have hS0 : w1.drew.cell? ⟨b, off + j * 2, none⟩ = some (.slice ra' rl' rc') ∧ w1.drew.cell? ⟨b, off + j * 2 + 1, none⟩ = some (.int .i64 n') ∧ w1.drew.cell? ⟨wr.heap.size, 0, none⟩ = some (.slice ra rl rc) ∧ w1.drew.cell? ⟨wr.heap.size, 1, none⟩ = some (.int .i64 n) ∧ Below W0.heap.size W0 w1.drew := ⟨y0, y1, x0, x1, hb.drew⟩
            have hb1 : b < W0.heap.size := by omega
            have hb2 : wr.heap.size < W0.heap.size := by omega
            have HW := Lib.hid hW1
            have hgd : decide ((0 : Int) < (k : Int)) = true := decide_eq_true hk1
            have hgn : decide (0 < k) = true := decide_eq_true (by omega)
            have hgp : 0 < k := by omega
            by_cases hc0 : c < 0
            · have HR : Hid (goBag (befR es (k + 1)) (es.drop (k + 1)) = E) := by show _ = _; rw [HN3.out, if_neg (by simpa using hc0), HB.out]
              clear HN3 HB c0 c1 d0 d1 CF e1 bx x0 x1 y0 y1 hW1 hbW hw0
              go_region_held3 (fun w' => w'.cell? ⟨b, off + j * 2, none⟩ = some (.slice ra' rl' rc') ∧ w'.cell? ⟨b, off + j * 2 + 1, none⟩ = some (.int .i64 n') ∧ w'.cell? ⟨wr.heap.size, 0, none⟩ = some (.slice ra rl rc) ∧ w'.cell? ⟨wr.heap.size, 1, none⟩ = some (.int .i64 n) ∧ Below W0.heap.size W0 w')
                (first | with_reducible exact hS0 | with_reducible exact keepFourCells hb1 hb2 hS0 hcall)
                (first | (go_at_call 49; refine (CR.out _ (HW.out.trans (Below.mono (by go_split_ands; assumption) (by omega)))).mono ?_; rintro e w' ⟨rfl, hcall⟩; have hcall := hcall.1))
              all_goals
                have hF := hbel.trans ((HW.out.trans ((keepFourCells hb1 hb2 hS0 hcall).2.2.2.2.mono (by omega))).mono hsz)
                go_wp2_with fail
                go_roundw
                case rel => exact ⟨k + 1, by omega, by go_num, HR, hF⟩
                case measure => simp [intOf]; omega
            · have HR : Hid (E = 14) := by show _ = _; rw [HN3.out, if_pos (by simpa using hc0)]
              have hc1 : 0 ≤ c := by omega
              clear HN3 HB c0 c1 d0 d1 CF e1 bx x0 x1 y0 y1 hW1 hbW hw0
              go_region_held3 (fun w' => w'.cell? ⟨b, off + j * 2, none⟩ = some (.slice ra' rl' rc') ∧ w'.cell? ⟨b, off + j * 2 + 1, none⟩ = some (.int .i64 n') ∧ w'.cell? ⟨wr.heap.size, 0, none⟩ = some (.slice ra rl rc) ∧ w'.cell? ⟨wr.heap.size, 1, none⟩ = some (.int .i64 n) ∧ Below W0.heap.size W0 w')
                (first | with_reducible exact hS0 | with_reducible exact keepFourCells hb1 hb2 hS0 hcall)
                (first | (go_at_call 49; refine (CR.out _ (HW.out.trans (Below.mono (by go_split_ands; assumption) (by omega)))).mono ?_; rintro e w' ⟨rfl, hcall⟩; have hcall := hcall.1))
              all_goals
                have hF := hbel.trans ((HW.out.trans ((keepFourCells hb1 hb2 hS0 hcall).2.2.2.2.mono (by omega))).mono hsz)
                go_wp2_with fail
                go_ret
                exact ⟨ret_int HR.out.symm, hF⟩
      · have HR : Hid (E = fitE ⟨r, n⟩) := by show _ = _; rw [← HG.out, HN.out, if_pos hf]
        generalize fitE ⟨r, n⟩ = fe at *
        have hf0 : (fe == 0) = false := by simpa using hf
        clear HN HG hx hv
        go_wp2_with (first | (go_at_call 48; refine CF.out.mono ?_; rintro e w1 ⟨rfl, hb⟩))
        go_ret
        exact ⟨ret_int HR.out.symm, hbel.trans ((hW1.trans (hb.mono (by omega))).mono hsz)⟩
    · have HR : Hid (E = 0) := by show _ = _; rw [← HG.out, List.drop_of_length_le (by have := HS.out.1; omega)]; cases befR es k <;> rfl
      clear HG
      go_wp2_with fail
      go_ret
      exact ⟨ret_int HR.out.symm, hbel⟩

end Go.Proofs.Ytdhhhmehkldliaa
