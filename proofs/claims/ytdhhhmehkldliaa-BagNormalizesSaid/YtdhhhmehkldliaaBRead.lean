/-
  The functions of the reference that only read bags: small, fits, Validate, positive, IsTable, Size, Count.
-/
import Derived.Test.YtdhhhmehkldliaaGEnts
import Derived.Test.YtdhhhmehkldliaaBSpec
import Derived.Test.YtdhhhmehkldliaaGVCmp
import Derived.Deep.RegionHeld3
set_option linter.unusedVariables false
namespace Go.Proofs.Ytdhhhmehkldliaa
open Go.RowKit Wh

theorem rsmall_any (n : Int) (w : World) : Calls Try.prog 75 #[.int .i64 n] w fun e w' => e = .returned (.bool (smallB n)) ∧ w = w' := by
  go_enter Try.func75, Try.ntmps75
  go_wp2
  all_goals
    go_ret
    refine ⟨ret_bool ?_, rfl⟩
    unfold smallB
    first | (rw [decide_eq_true (p := -65536 ≤ n) (by assumption), Bool.true_and]) | (rw [decide_eq_false (p := -65536 ≤ n) (by assumption), Bool.false_and]) | (rw [decide_eq_false (p := -65536 ≤ n) (by omega), Bool.false_and])

set_option maxHeartbeats 1000000 in
theorem rfits_any (ra : Option Addr) (rl rc : Nat) (r : List V) (n : Int) (w : World) (hr : IsVals w ra rl r) (hl : rl ≤ 9223372036854775807) :
    Calls Try.prog 50 #[.agg #[.slice ra rl rc, .int .i64 n]] w fun e w' => e = .returned (.int .i64 (fitE ⟨r, n⟩)) ∧ Below w.heap.size w w' := by
  have hrl := hr.1
  have B0 : ∀ o, Below w.heap.size w (w.alloc o) := fun o => (Below.refl _ _).alloc (Nat.le_refl _) o
  by_cases h12 : 12 < rl
  · have he : fitE ⟨r, n⟩ = 2 := by unfold fitE; rw [if_pos (.inl (by show 12 < r.length; omega))]
    rw [he]
    clear he hr hrl
    go_enter Try.func50, Try.ntmps50
    go_wp2_with fail
    go_ret
    exact ⟨rfl, B0 _⟩
  have cs := fun W => rsmall_any n W
  cases hs : smallB n with
  | false =>
    have he : fitE ⟨r, n⟩ = 2 := by unfold fitE; rw [if_pos (.inr hs)]
    rw [he]
    rw [hs] at cs
    clear he hr hrl hs
    go_enter Try.func50, Try.ntmps50
    go_wp2_with (first | (go_at_call 75; refine (cs _).mono ?_; rintro e w' ⟨rfl, rfl⟩))
    go_ret
    exact ⟨rfl, B0 _⟩
  | true =>
    have he : fitE ⟨r, n⟩ = if okRow r = true then 0 else 8 := by
      unfold fitE
      rw [if_neg]
      rintro (h | h)
      · exact h12 (by rw [← hrl]; exact h)
      · rw [hs] at h; cases h
    rw [he]
    rw [hs] at cs
    have NO := Lib.hid (fun (i : Nat) (v : V) h1 h2 => okRow_no (r := r) (i := i) (v := v) h1 h2)
    have YE := Lib.hid (fun h => okRow_yes (r := r) h)
    generalize okRow r = ok at *
    have HR := Lib.hid hr
    clear he hr hrl hs
    go_enter Try.func50, Try.ntmps50
    go_wp2_with (first | (go_at_call 75; refine (cs _).mono ?_; rintro e w' ⟨rfl, rfl⟩))
    clear cs
    go_loopw [3] (fun iv wr => ∃ k : Nat, k ≤ rl ∧ iv = .int .i64 k ∧ Hid (∀ (i : Nat) (v : V), i < k → r[i]? = some v → validB v.k v.n v.s = true) ∧ wr.cell? ⟨w.heap.size, 0, none⟩ = some (.slice ra rl rc) ∧ w.heap.size < wr.heap.size ∧ Below w.heap.size w wr) (fun i _ => rl - (intOf i).toNat)
    case atStart => exact ⟨0, Nat.zero_le _, rfl, fun i v hi => absurd hi (by omega), cell_of_row _ _ 0 _ _ _ (heap_alloc_new w _), by simp, B0 _⟩
    case round =>
      obtain ⟨k, hk, rfl, HI, hc, hsz, hbel⟩ := hrel
      by_cases hlt : k < rl
      · obtain ⟨vk, vn, vt, b, off, hx, rfl, hbl, d0, d1, d2⟩ := (HR.out.below hbel (Nat.le_refl _)).at hlt
        have HX := Lib.hid hx
        clear hx
        have cv := fun W => rvalid_any vk vn vt W
        have hs1 := hbel.size
        cases hv : validB vk vn vt with
        | true =>
          have HI2 : Hid (∀ (i : Nat) (v : V), i < k + 1 → r[i]? = some v → validB v.k v.n v.s = true) := fun i v hi hiv => by
            by_cases e : i = k
            · subst e
              have := HX.out
              rw [hiv] at this
              cases this
              exact hv
            · exact HI.out i v (by omega) hiv
          rw [hv] at cv
          clear hv HI NO YE HX B0
          go_wp2_with (first | (go_at_call 76; refine (cv _).mono ?_; rintro e w1 ⟨rfl, hb⟩))
          go_roundw
          case rel => exact ⟨k + 1, by omega, by go_num, HI2, by rw [(bcell hb).1 _ _ hsz]; exact hc, by have := hb.size; omega, hbel.trans (hb.mono hs1)⟩
          case measure => simp [intOf]; omega
        | false =>
          obtain rfl := NO.out k _ HX.out hv
          rw [hv] at cv
          clear hv HI NO YE HX B0
          go_wp2_with (first | (go_at_call 76; refine (cv _).mono ?_; rintro e w1 ⟨rfl, hb⟩))
          go_ret
          exact ⟨rfl, hbel.trans (hb.mono hs1)⟩
      · obtain rfl := YE.out fun i v hi => HI.out i v (by have := (List.getElem?_eq_some_iff.1 hi).1; have := HR.out.1; omega) hi
        clear NO YE HI B0
        go_wp2_with fail
        go_ret
        exact ⟨rfl, hbel⟩

theorem goBag_next {es : List En} {k : Nat} {e : En} (h : es[k]? = some e) (p : Option (List V)) :
    goBag p (es.drop k) = if ¬ fitE e = 0 then fitE e else if e.cnt = 0 then 8 else if afterB p e.row = false then 14 else goBag (some e.row) (es.drop (k + 1)) := by
  have hk := List.getElem?_eq_some_iff.1 h
  rw [List.drop_eq_getElem_cons hk.1, hk.2]
  rfl

/-- The row before place k. -/
def befR (es : List En) (k : Nat) : Option (List V) := if k = 0 then none else (es[k - 1]?).map En.row
theorem befR_succ {es : List En} {k : Nat} {e : En} (h : es[k]? = some e) : befR es (k + 1) = some e.row := by
  unfold befR
  rw [if_neg (by omega), Nat.add_sub_cancel, h]
  rfl

theorem keepTwoCells {W0 W w' : World} {b o1 o2 : Nat} {v1 v2 : Value} (hb : b < W0.heap.size)
    (h : W.cell? ⟨b, o1, none⟩ = some v1 ∧ W.cell? ⟨b, o2, none⟩ = some v2 ∧ Below W0.heap.size W0 W) (hc : Below W.heap.size W w') :
    w'.cell? ⟨b, o1, none⟩ = some v1 ∧ w'.cell? ⟨b, o2, none⟩ = some v2 ∧ Below W0.heap.size W0 w' := by
  obtain ⟨h1, h2, h3⟩ := h
  have e := (bcell hc).1
  have hs := h3.size
  refine ⟨?_, ?_, h3.trans (hc.mono hs)⟩ <;> (rw [e _ _ (by omega)]; assumption)

set_option maxHeartbeats 2000000 in
theorem rvalidate_any6 (a : Option Addr) (len cap : Nat) (es : List En) (w : World) (hs : IsEnts w a len es) (hl : len ≤ 9223372036854775807) :
    Calls Try.prog 18 #[.slice a len cap] w fun e w' => e = .returned (.int .i64 (bagE es)) ∧ Below w.heap.size w w' := by
  have hlen := hs.1
  by_cases hbig : 4096 < len
  · have he : bagE es = 2 := by unfold bagE; rw [if_pos (by omega)]
    rw [he]
    clear he hs hlen
    go_enter Try.func18, Try.ntmps18
    go_wp2_with fail
    go_ret
    exact ⟨rfl, Below.refl _ _⟩
  have he : bagE es = goBag none es := by unfold bagE; rw [if_neg (by omega)]
  rw [he]
  generalize hE : goBag none es = E
  have HE := Lib.hid hE
  have HS := Lib.hid hs
  clear he hE hs hlen
  go_enter Try.func18, Try.ntmps18
  go_wp2_with fail
  go_loopw [3] (fun iv wr => ∃ k : Nat, k ≤ len ∧ iv = .int .i64 k ∧ Hid (goBag (befR es k) (es.drop k) = E) ∧ Below w.heap.size w wr) (fun i _ => len - (intOf i).toNat)
  case atStart => exact ⟨0, Nat.zero_le _, rfl, HE.out, Below.refl _ _⟩
  case round =>
    obtain ⟨k, hk, rfl, HG, hbel⟩ := hrel
    have hsz := hbel.size
    by_cases hlt : k < len
    · obtain ⟨r, n, ra, rl, rc, b, off, hx, rfl, hbl, c0, c1, hv, g1, g2, g3⟩ := (HS.out.below hbel (Nat.le_refl _)).at hlt
      have HN := Lib.hid (goBag_next hx (befR es k))
      have HB := Lib.hid (befR_succ hx)
      simp only at HN
      have cf := fun W (h : Below wr.heap.size wr W) => rfits_any ra rl rc r n W (hv.below h (Nat.le_refl _)) (by have : maxLen = 9223372036854775807 := rfl; omega)
      have CF := Lib.hid (cf wr (Below.refl _ _))
      clear cf
      by_cases hf : fitE ⟨r, n⟩ = 0
      · have HN2 : Hid (E = if n = 0 then 8 else if afterB (befR es k) r = false then 14 else goBag (some r) (es.drop (k + 1))) := by show _ = _; rw [← HG.out, HN.out, if_neg (by simpa using hf)]
        rw [hf] at CF
        clear HN HG hf
        by_cases hn : n = 0
        · have HR : Hid (E = 8) := by show _ = _; rw [HN2.out, if_pos hn]
          subst hn
          clear HN2 hx hv
          go_wp2_with (first | (go_at_call 50; refine CF.out.mono ?_; rintro e w1 ⟨rfl, hb⟩; have e1 := (bcell hb).1; rw [← e1 _ _ hbl] at c0 c1))
          go_ret
          exact ⟨ret_int HR.out.symm, hbel.trans (hb.mono hsz)⟩
        · have HN3 : Hid (E = if afterB (befR es k) r = false then 14 else goBag (some r) (es.drop (k + 1))) := by show _ = _; rw [HN2.out, if_neg hn]
          have hn0 : (n == 0) = false := by simpa using hn
          clear HN2 hn
          by_cases hk0 : k = 0
          · subst hk0
            have HR : Hid (goBag (befR es (0 + 1)) (es.drop (0 + 1)) = E) := by show _ = _; rw [HN3.out, if_neg (by simp [befR, afterB]), HB.out]
            clear HN3 HB hx hv
            simp only [Nat.zero_mul, Nat.add_zero] at c0 c1
            go_wp2_with (first | (go_at_call 50; refine CF.out.mono ?_; rintro e w1 ⟨rfl, hb⟩; have e1 := (bcell hb).1; rw [← e1 _ _ hbl] at c0 c1))
            go_quiet (fail)
            go_wp2_with fail
            go_roundw
            case rel => exact ⟨1, by omega, rfl, HR, below_drewN (hbel.trans (hb.mono hsz)) _⟩
            case measure => simp [intOf]; omega
          · obtain ⟨j, hj⟩ : ∃ j : Nat, k = j + 1 := ⟨k - 1, by omega⟩
            obtain ⟨r', n', ra', rl', rc', b', off', hx', hae, hbl', d0, d1, hv', g1', g2', g3'⟩ := (HS.out.below hbel (Nat.le_refl _)).at (k := j) (by omega)
            cases hae
            have hbf : afterB (befR es k) r = decide (cmpR r' r < 0) := by
              have : befR es k = some r' := by
                unfold befR
                rw [if_neg hk0, show k - 1 = j by omega, hx']
                rfl
              rw [this]
              rfl
            rw [hbf] at HN3
            have mm : maxLen = 9223372036854775807 := rfl
            have CR := Lib.hid (fun W (h : Below wr.heap.size wr W) => rrows_any ra' rl' rc' r' ra rl rc r W (hv'.below h (Nat.le_refl _)) (hv.below h (Nat.le_refl _)) (by omega) (by omega))
            have hcv := cmpR_vals r' r
            generalize cmpR r' r = c at *
            have hw : IntKind.i64.wrap ((k : Int) - 1) = (j : Int) := by rw [IntKind.wrap_i64]; omega
            have hk1 : (0 : Int) < (k : Int) := by omega
            have hjl : (j : Int) < (len : Int) := by omega
            clear hbf hx hx' hv hv' mm hj
            go_wp2_with (first | (go_at_call 50; refine CF.out.mono ?_; rintro e w1 ⟨rfl, hb⟩; have e1 := (bcell hb).1; rw [← e1 _ _ hbl] at c0 c1 d0 d1))
            have hS0 : w1.drew.cell? ⟨b, off + k * 2, none⟩ = some (.slice ra rl rc) ∧ w1.drew.cell? ⟨b, off + j * 2, none⟩ = some (.slice ra' rl' rc') ∧ Below wr.heap.size wr w1.drew := ⟨c0, d0, hb.drew⟩
            by_cases hc0 : c < 0
            · have HR : Hid (goBag (befR es (k + 1)) (es.drop (k + 1)) = E) := by show _ = _; rw [HN3.out, if_neg (by simpa using hc0), HB.out]
              clear HN3 HB c0 c1 d0 d1 CF e1
              have hgd : decide ((0 : Int) < (k : Int)) = true := decide_eq_true hk1
              have hgn : decide (0 < k) = true := decide_eq_true (by omega)
              have hgp : 0 < k := by omega
              go_region_held3 (fun w' => w'.cell? ⟨b, off + k * 2, none⟩ = some (.slice ra rl rc) ∧ w'.cell? ⟨b, off + j * 2, none⟩ = some (.slice ra' rl' rc') ∧ Below wr.heap.size wr w')
                (first | with_reducible exact hS0 | with_reducible exact keepTwoCells hbl hS0 hcall)
                (first | (go_at_call 45; refine (CR.out _ (by go_split_ands; assumption)).mono ?_; rintro e w' ⟨rfl, hcall⟩))
              all_goals
                have hF := hbel.trans ((keepTwoCells hbl hS0 hcall).2.2.mono hsz)
                go_wp2_with fail
                go_roundw
                case rel => exact ⟨k + 1, by omega, by go_num, HR, hF⟩
                case measure => simp [intOf]; omega
            · have HR : Hid (E = 14) := by show _ = _; rw [HN3.out, if_pos (by simpa using hc0)]
              have hc1 : 0 ≤ c := by omega
              clear HN3 HB c0 c1 d0 d1 CF e1
              have hgd : decide ((0 : Int) < (k : Int)) = true := decide_eq_true hk1
              have hgn : decide (0 < k) = true := decide_eq_true (by omega)
              have hgp : 0 < k := by omega
              go_region_held3 (fun w' => w'.cell? ⟨b, off + k * 2, none⟩ = some (.slice ra rl rc) ∧ w'.cell? ⟨b, off + j * 2, none⟩ = some (.slice ra' rl' rc') ∧ Below wr.heap.size wr w')
                (first | with_reducible exact hS0 | with_reducible exact keepTwoCells hbl hS0 hcall)
                (first | (go_at_call 45; refine (CR.out _ (by go_split_ands; assumption)).mono ?_; rintro e w' ⟨rfl, hcall⟩))
              all_goals
                have hF := hbel.trans ((keepTwoCells hbl hS0 hcall).2.2.mono hsz)
                go_wp2_with fail
                go_ret
                exact ⟨ret_int HR.out.symm, hF⟩
      · have HR : Hid (E = fitE ⟨r, n⟩) := by show _ = _; rw [← HG.out, HN.out, if_pos hf]
        generalize fitE ⟨r, n⟩ = fe at *
        have hf0 : (fe == 0) = false := by simpa using hf
        clear HN HG hx hv
        go_wp2_with (first | (go_at_call 50; refine CF.out.mono ?_; rintro e w1 ⟨rfl, hb⟩))
        go_ret
        exact ⟨ret_int HR.out.symm, hbel.trans (hb.mono hsz)⟩
    · have HR : Hid (E = 0) := by show _ = _; rw [← HG.out, List.drop_of_length_le (by have := HS.out.1; omega)]; cases befR es k <;> rfl
      clear HG
      go_wp2_with fail
      go_ret
      exact ⟨ret_int HR.out.symm, hbel⟩

end Go.Proofs.Ytdhhhmehkldliaa
