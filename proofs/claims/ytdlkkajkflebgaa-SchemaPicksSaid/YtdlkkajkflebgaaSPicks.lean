/-
  The law SchemaPicks: walk.
-/
import Derived.Test.YtdlkkajkflebgaaSKnown
import Derived.Test.YtdlkkajkflebgaaSRPick
import Derived.Test.YtdlkkajkflebgaaSSame
set_option linter.unusedVariables false
namespace Go.Proofs.Ytdlkkajkflebgaa
open Go.RowKit Wh

/-- The number that picking twice picks. -/
def bothZ (nz : List Int) (z : Int) : Int := if 0 ≤ z ∧ z < nz.length then nz.getD z.toNat 0 else -1

theorem bothZ_out {nz : List Int} {z : Int} (h : z < 0 ∨ (nz.length : Int) ≤ z) : bothZ nz z = -1 := by unfold bothZ; rw [if_neg (by omega)]
theorem bothZ_in {nz : List Int} {m : Nat} {z : Int} (h : nz[m]? = some z) : bothZ nz (m : Int) = z := by
  have hm := (List.getElem?_eq_some_iff.1 h).1
  unfold bothZ
  rw [if_pos (by omega)]
  simp [List.getD, h]

theorem pick_twice (vs : List V) (nz : List Int) : pickV (pickV vs nz) nz = pickV vs (nz.map (bothZ nz)) := by
  show nz.map (pickOV (pickV vs nz)) = (nz.map (bothZ nz)).map (pickOV vs)
  rw [List.map_map]
  apply List.map_congr_left
  intro z _
  show pickOV (pickV vs nz) z = pickOV vs (bothZ nz z)
  by_cases h : 0 ≤ z ∧ z < nz.length
  · obtain ⟨m, rfl⟩ : ∃ m : Nat, z = m := ⟨z.toNat, by omega⟩
    obtain ⟨y, hy⟩ : ∃ y, nz[m]? = some y := ⟨_, List.getElem?_eq_getElem (by omega)⟩
    rw [bothZ_in hy]
    have e : (pickV vs nz)[m]? = some (pickOV vs y) := by
      show (nz.map (pickOV vs))[m]? = _
      rw [List.getElem?_map, hy]
      rfl
    exact pickOV_in e
  · rw [bothZ_out (by omega), pickOV_out (by rw [pickV_length]; omega), pickOV_out (.inl (by omega))]

/-- The first j numbers of picking twice, as cells. -/
def bothC (nz : List Int) (j : Nat) : List Value := ((nz.take j).map (bothZ nz)).map (Value.int .i64)

theorem same_true {a1 a2 : Option Addr} {len c1 c2 : Nat} {vs : List V} {w : World} (h1 : IsVals w a1 len vs) (h2 : IsVals w a2 len vs) (q : len ≤ 9223372036854775807) :
    Calls Try.prog 29 #[.slice a1 len c1, .slice a2 len c2] w fun e w' => e = .returned (.bool true) ∧ Below w.heap.size w w' := by
  have h := same_any a1 len c1 vs a2 len c2 vs w h1 h2 q q
  rw [(cmpR_zero vs vs).2 rfl] at h
  exact h
theorem equal_true {a1 a2 : Option Addr} {len c1 c2 : Nat} {cs : List C} {w : World} (h1 : IsCols w a1 len cs) (h2 : IsCols w a2 len cs) (q : len ≤ 9223372036854775807) :
    Calls Try.prog 31 #[.slice a1 len c1, .slice a2 len c2] w fun e w' => e = .returned (.bool true) ∧ Below w.heap.size w w' := by
  have h := equal_any a1 len c1 cs a2 len c2 cs w h1 h2 q q
  rw [allL_refl cs eqC_refl] at h
  exact h

set_option maxHeartbeats 8000000 in
theorem picks_walk (w : World) (a : Option Addr) (len cap : Nat) (vs : List V) (hv : IsVals w a len vs) (hl : len ≤ cap) (hm : cap ≤ maxLen) (_ : a = none → cap = 0)
    (a1 : Option Addr) (len1 cap1 : Nat) (cs : List C) (hc : IsCols w a1 len1 cs) (hl1 : len1 ≤ cap1) (hm1 : cap1 ≤ maxLen) (_ : a1 = none → cap1 = 0)
    (a2 : Option Addr) (len2 cap2 : Nat) (iz : List Int) (hz : IsInts w a2 len2 iz) (hl2 : len2 ≤ cap2) (hm2 : cap2 ≤ maxLen) (_ : ∀ z ∈ iz, -9223372036854775808 ≤ z ∧ z ≤ 9223372036854775807)
    (a3 : Option Addr) (len3 cap3 : Nat) (ls : List Int) (hy : IsInts w a3 len3 ls) (hl3 : len3 ≤ cap3) (hm3 : cap3 ≤ maxLen) (hbd : ∀ z ∈ ls, -9223372036854775808 ≤ z ∧ z ≤ 9223372036854775807) :
    Calls Try.prog 8 #[.slice a len cap, .slice a1 len1 cap1, .slice a2 len2 cap2, .slice a3 len3 cap3] w fun e w' => e = .returned (.bool true) ∧ Below w.heap.size w w' := by
  have hmm : maxLen = 9223372036854775807 := rfl
  by_cases g0 : 50 < len
  · clear hv hl hm hc hl1 hm1 hz hl2 hm2 hy hl3 hm3 hbd
    go_enter Try.func8, Try.ntmps8
    go_wp2_with (go_at_call 10; refine (known_any _).mono ?_; rintro e w' ⟨rfl, hb⟩)
    go_ret
    exact ⟨rfl, hb⟩
  by_cases g1 : 50 < len1
  · clear hv hl hm hc hl1 hm1 hz hl2 hm2 hy hl3 hm3 hbd
    go_enter Try.func8, Try.ntmps8
    go_wp2_with (go_at_call 10; refine (known_any _).mono ?_; rintro e w' ⟨rfl, hb⟩)
    go_ret
    exact ⟨rfl, hb⟩
  by_cases g2 : 50 < len2
  · clear hv hl hm hc hl1 hm1 hz hl2 hm2 hy hl3 hm3 hbd
    go_enter Try.func8, Try.ntmps8
    go_wp2_with (go_at_call 10; refine (known_any _).mono ?_; rintro e w' ⟨rfl, hb⟩)
    go_ret
    exact ⟨rfl, hb⟩
  by_cases g3 : 50 < len3
  · clear hv hl hm hc hl1 hm1 hz hl2 hm2 hy hl3 hm3 hbd
    go_enter Try.func8, Try.ntmps8
    go_wp2_with (go_at_call 10; refine (known_any _).mono ?_; rintro e w' ⟨rfl, hb⟩)
    go_ret
    exact ⟨rfl, hb⟩
  have HV := Lib.hid (fun W (h : Below w.heap.size w W) => hv.below h (Nat.le_refl _))
  have HC := Lib.hid (fun W (h : Below w.heap.size w W) => hc.below h (Nat.le_refl _))
  have HZ := Lib.hid (fun W (h : Below w.heap.size w W) => hz.below h (Nat.le_refl _))
  have HY := Lib.hid (fun W (h : Below w.heap.size w W) => hy.below h (Nat.le_refl _))
  have HBD := Lib.hid hbd
  have hzl := hz.1
  clear hv hc hz hy hbd
  obtain ⟨i0, hi, hz0, hz1, hz2⟩ := info_parts info_int
  go_enter Try.func8, Try.ntmps8
  go_wp2_with fail
  go_loopw [9, 10] (fun sv iv wr => ∃ (k : Nat) (nz : List Int), k ≤ len3 ∧ nz.length = k ∧ iv = .int .i64 k ∧ wr.ownsRow w.heap.size 3 1 sv k (nz.map (Value.int .i64)) ∧ Below w.heap.size w wr) (fun _ i _ => len3 - (intOf i).toNat)
  case atStart => exact ⟨0, [], Nat.zero_le _, rfl, rfl, World.ownsRow_nil _ _ _ _, Below.refl _ _⟩
  case round =>
    obtain ⟨k, nz, hk, hnl, rfl, hown, hbel⟩ := hrel
    have hs := hbel.size
    have HNL := Lib.hid hnl
    clear hnl
    by_cases hlt : k < len3
    · obtain ⟨z, b3, off3, hx, rfl, hbl, hc0⟩ := (HY.out _ hbel).at hlt
      obtain ⟨z0, z1⟩ := HBD.out z (List.mem_of_getElem? hx)
      have HO := Lib.hid hown
      clear hx hown
      go_wp2_with (at_builtin; refine wpList_append_own _ rfl _ _ 22 rfl w.heap.size 3 i0 _ 1 8 Try.underlying22 hi hz0 hz1 hz2 rfl (by decide) _ _ _ rfl (HO.out.alloc _) ⟨wr.heap.size, 0, none⟩ 1 1 [.int .i64 (z.tmod 16)] rfl rfl ?c1 ?c2 ?c3 ?c4 ?c5 ?_)
      case c1 => exact World.news_of_block (cs := #[.int .i64 (z.tmod 16)]) (t := 3) (fr := (0, 0)) (heap_alloc_new wr _)
      case c2 => simp [Value.oneCell']
      case c3 => simp [maxLen]; omega
      case c4 => omega
      case c5 => simp; omega
      intro v3 w3 hown3 hgrow _
      have hB : Below w.heap.size w w3 := (hbel.alloc (by omega) _).grown hgrow (by simp; omega) (fun j hj => (HO.out.lt j hj).1)
      have hown4 : w3.ownsRow w.heap.size 3 1 v3 (k + 1) ((nz ++ [z.tmod 16]).map (Value.int .i64)) := by
        rw [List.map_append]
        exact hown3
      clear hown3 hgrow HO
      go_wp2_with fail
      go_roundw
      case rel => exact ⟨k + 1, nz ++ [z.tmod 16], by omega, by rw [List.length_append, HNL.out]; rfl, by go_num, hown4, hB⟩
      case measure => simp [intOf]; omega
    · obtain ⟨a4, cap4, rfl, hn, hn1, hn2, _, _⟩ := own_ints hown
      have HN := Lib.hid (fun W (h : Below wr.heap.size wr W) => hn.below h (Nat.le_refl _))
      have cf := pickVals_any a len cap vs a4 k cap4 nz wr (HV.out _ hbel) hn (by omega) (by omega)
      have hfl := (pickV_length vs nz).trans HNL.out
      have TW := Lib.hid (pick_twice vs nz)
      have hk50 : k ≤ 50 := by omega
      generalize hP2 : pickV vs nz = P2 at *
      have HP2 := Lib.hid hP2
      have CF := Lib.hid cf
      have HFL := Lib.hid hfl
      clear hown hn cf hP2 hfl
      obtain rfl : k = len3 := by omega
      go_wp2_with fail
      refine CF.out.mono ?_
      rintro e w5 ⟨sv, rfl, hown, h5⟩
      rw [HFL.out] at hown
      obtain ⟨a5, cap5, rfl, hf, hf1, hf2, _⟩ := own_rowv hown HFL.out
      have hs5 := h5.size
      have HF := Lib.hid (fun W (h : Below w5.heap.size w5 W) => hf.below h (Nat.le_refl _))
      have hb5 := hbel.trans (h5.mono hs)
      clear hown hf CF
      go_wp2_with fail
      go_loopw [12, 13, 14] (fun sv iv _ wr => ∃ j : Nat, j ≤ k ∧ iv = .int .i64 j ∧ wr.ownsRow w5.heap.size 3 1 sv j (bothC nz j) ∧ Below w5.heap.size w5 wr) (fun _ i _ _ => k - (intOf i).toNat)
      case atStart => exact ⟨0, Nat.zero_le _, rfl, World.ownsRow_nil _ _ _ _, Below.refl _ _⟩
      case round =>
        obtain ⟨j, hj, rfl, hown, hbq⟩ := hrel
        have hsq := hbq.size
        have hnw := HN.out _ (h5.trans (hbq.mono hs5))
        by_cases hlt : j < k
        · obtain ⟨z, b4, off4, hx, rfl, hbl, hc0⟩ := hnw.at hlt
          have FIN : ∀ y : Int, bothZ nz z = y → bothC nz j ++ [.int .i64 y] = bothC nz (j + 1) := fun y hy => by
            unfold bothC
            rw [List.take_add_one, hx, List.map_append, List.map_append, ← hy]
            rfl
          have HFIN := Lib.hid FIN
          have HO := Lib.hid hown
          clear FIN hown
          by_cases hlow : z < 0
          · have HR := Lib.hid (HFIN.out (-1) (bothZ_out (.inl hlow)))
            clear HFIN hx hnw
            go_wp2_with (at_builtin; refine wpList_append_own _ rfl _ _ 22 rfl w5.heap.size 3 i0 _ 1 8 Try.underlying22 hi hz0 hz1 hz2 rfl (by decide) _ _ _ rfl (HO.out.alloc _) ⟨wr.heap.size, 0, none⟩ 1 1 [.int .i64 (-1)] rfl rfl ?cx1 ?cx2 ?cx3 ?cx4 ?cx5 ?_)
            case cx2 => simp [Value.oneCell']
            case cx3 => omega
            case cx4 => omega
            case cx5 => omega
            intro v3 w3 hown3 hgrow _
            have hB : Below w5.heap.size w5 w3 := (hbq.alloc (by omega) _).grown hgrow (by simp; omega) (fun i hi => (HO.out.lt i hi).1)
            rw [HR.out] at hown3
            have hown4 := Lib.hid hown3
            clear hown3 hgrow HO
            go_wp2_with fail
            go_roundw
            case rel => exact ⟨j + 1, by omega, by go_num, hown4.out, hB⟩
            case measure => simp [intOf]; omega
          by_cases hup : z < k
          · obtain ⟨m, rfl⟩ : ∃ m : Nat, z = m := ⟨z.toNat, by omega⟩
            obtain ⟨y, b4', off4', hx2, hae, _, hc1⟩ := hnw.at (k := m) (by omega)
            cases hae
            have HR := Lib.hid (HFIN.out y (bothZ_in hx2))
            clear HFIN hx hx2 hnw
            go_wp2_with (at_builtin; refine wpList_append_own _ rfl _ _ 22 rfl w5.heap.size 3 i0 _ 1 8 Try.underlying22 hi hz0 hz1 hz2 rfl (by decide) _ _ _ rfl (HO.out.alloc _) ⟨wr.heap.size, 0, none⟩ 1 1 [.int .i64 y] rfl rfl ?cy1 ?cy2 ?cy3 ?cy4 ?cy5 ?_)
            case cy2 => simp [Value.oneCell']
            case cy3 => omega
            case cy4 => omega
            case cy5 => omega
            intro v3 w3 hown3 hgrow _
            have hB : Below w5.heap.size w5 w3 := (hbq.alloc (by omega) _).grown hgrow (by simp; omega) (fun i hi => (HO.out.lt i hi).1)
            rw [HR.out] at hown3
            have hown4 := Lib.hid hown3
            clear hown3 hgrow HO
            go_wp2_with fail
            go_roundw
            case rel => exact ⟨j + 1, by omega, by go_num, hown4.out, hB⟩
            case measure => simp [intOf]; omega
          · have HR := Lib.hid (HFIN.out (-1) (bothZ_out (.inr (by have := HNL.out; omega))))
            clear HFIN hx hnw
            go_wp2_with (at_builtin; refine wpList_append_own _ rfl _ _ 22 rfl w5.heap.size 3 i0 _ 1 8 Try.underlying22 hi hz0 hz1 hz2 rfl (by decide) _ _ _ rfl (HO.out.alloc _) ⟨wr.heap.size, 0, none⟩ 1 1 [.int .i64 (-1)] rfl rfl ?cz1 ?cz2 ?cz3 ?cz4 ?cz5 ?_)
            case cz2 => simp [Value.oneCell']
            case cz3 => omega
            case cz4 => omega
            case cz5 => omega
            intro v3 w3 hown3 hgrow _
            have hB : Below w5.heap.size w5 w3 := (hbq.alloc (by omega) _).grown hgrow (by simp; omega) (fun i hi => (HO.out.lt i hi).1)
            rw [HR.out] at hown3
            have hown4 := Lib.hid hown3
            clear hown3 hgrow HO
            go_wp2_with fail
            go_roundw
            case rel => exact ⟨j + 1, by omega, by go_num, hown4.out, hB⟩
            case measure => simp [intOf]; omega
        · obtain rfl : j = k := by omega
          rw [show bothC nz j = (nz.map (bothZ nz)).map (Value.int .i64) by unfold bothC; rw [List.take_of_length_le (by have := HNL.out; omega)]] at hown
          obtain ⟨a6, cap6, rfl, hq, hq1, hq2, _, _⟩ := own_ints hown
          generalize hbz : nz.map (bothZ nz) = bz at *
          have HQ := Lib.hid (fun W (h : Below wr.heap.size wr W) => hq.below h (Nat.le_refl _))
          have bq := hb5.trans (hbq.mono hb5.size)
          have NQ := Lib.hid (fun W (h : Below wr.heap.size wr W) => HN.out _ ((h5.trans (hbq.mono hs5)).trans (h.mono (Nat.le_trans hs5 hsq))))
          have FQ := Lib.hid (fun W (h : Below wr.heap.size wr W) => HF.out _ (hbq.trans (h.mono hsq)))
          have B0 := Lib.hid (fun W (h : Below wr.heap.size wr W) => bq.trans (h.mono bq.size))
          have tw := TW.out
          have K1 := Lib.hid (fun W (h : Below wr.heap.size wr W) => pickVals_any a len cap vs a2 len2 cap2 iz W (HV.out _ (B0.out _ h)) (HZ.out _ (B0.out _ h)) (by omega) (by omega))
          have K2 := Lib.hid (fun W (h : Below wr.heap.size wr W) => rpick_any a len cap vs a2 len2 cap2 iz W (HV.out _ (B0.out _ h)) (HZ.out _ (B0.out _ h)) (by omega) (by omega))
          have K4 := Lib.hid (fun W (h : Below wr.heap.size wr W) => rpick_any a len cap vs a4 j cap4 nz W (HV.out _ (B0.out _ h)) (NQ.out _ h) (by omega) (by omega))
          have K6 := Lib.hid (fun W (h : Below wr.heap.size wr W) => pickVals_any a5 j cap5 P2 a4 j cap4 nz W (FQ.out _ h) (NQ.out _ h) (by omega) (by omega))
          have K7 := Lib.hid (fun W (h : Below wr.heap.size wr W) => pickVals_any a len cap vs a6 j cap6 bz W (HV.out _ (B0.out _ h)) (HQ.out _ h) (by omega) (by omega))
          have K9 := Lib.hid (fun W (h : Below wr.heap.size wr W) => select_any a1 len1 cap1 cs a4 j cap4 nz W (HC.out _ (B0.out _ h)) (NQ.out _ h) (by omega) (by omega))
          have K10 := Lib.hid (fun W (h : Below wr.heap.size wr W) => rselect_any a1 len1 cap1 cs a4 j cap4 nz W (HC.out _ (B0.out _ h)) (NQ.out _ h) (by omega) (by omega))
          have K12 := Lib.hid (fun W (h : Below wr.heap.size wr W) => select_any a1 len1 cap1 cs a2 len2 cap2 iz W (HC.out _ (B0.out _ h)) (HZ.out _ (B0.out _ h)) (by omega) (by omega))
          have K13 := Lib.hid (fun W (h : Below wr.heap.size wr W) => rselect_any a1 len1 cap1 cs a2 len2 cap2 iz W (HC.out _ (B0.out _ h)) (HZ.out _ (B0.out _ h)) (by omega) (by omega))
          rw [tw] at K6
          rw [HP2.out] at K4
          have L1 := Lib.hid ((pickV_length vs iz).trans hzl)
          have L3 := Lib.hid ((pickV_length vs bz).trans (show bz.length = j by rw [← hbz, List.length_map]; exact HNL.out))
          have L9 := Lib.hid ((pickC_length cs nz).trans HNL.out)
          have L12 := Lib.hid ((pickC_length cs iz).trans hzl)
          generalize pickV vs iz = P1 at *
          generalize pickV vs bz = P3 at *
          generalize pickC cs nz = Q1 at *
          generalize pickC cs iz = Q2 at *
          have r0 : Below wr.heap.size wr wr := Below.refl _ _
          clear hown hq tw TW HP2 HN HF HV HC HZ HY HBD hbz HNL
          go_wp2_with (first | (go_at_call_of 28 (Value.slice a2 len2 cap2); refine (K1.out _ r0).mono ?_; rintro e x1 ⟨s1, rfl, o1, e1⟩; rw [L1.out] at o1; obtain ⟨d1, k1, rfl, i1, _, _, _⟩ := own_rowv o1 L1.out; have r1 := r0.trans (e1.mono r0.size)) |
            (go_at_call_of 30 (Value.slice a2 len2 cap2); refine (K2.out _ r1).mono ?_; rintro e x2 ⟨s2, rfl, o2, e2⟩; rw [L1.out] at o2; obtain ⟨d2, k2, rfl, i2, _, _, _⟩ := own_rowv o2 L1.out; have r2 := r1.trans (e2.mono r1.size); have i1' := i1.below e2 (Nat.le_refl _)) |
            (go_at_call_of 29 (Value.slice d1 len2 k1); refine (same_true i1' i2 (by omega)).mono ?_; rintro e x3 ⟨rfl, e3⟩; have r3 := r2.trans (e3.mono r2.size)) |
            (go_at_call_of 30 (Value.slice a4 j cap4); refine (K4.out _ r3).mono ?_; rintro e x4 ⟨s4, rfl, o4, e4⟩; rw [HFL.out] at o4; obtain ⟨d4, k4, rfl, i4, _, _, _⟩ := own_rowv o4 HFL.out; have r4 := r3.trans (e4.mono r3.size)) |
            (go_at_call_of 29 (Value.slice a5 j cap5); refine (same_true (FQ.out _ r4) i4 (by omega)).mono ?_; rintro e x5 ⟨rfl, e5⟩; have r5 := r4.trans (e5.mono r4.size)) |
            (go_at_call_of 28 (Value.slice a5 j cap5); refine (K6.out _ r5).mono ?_; rintro e x6 ⟨s6, rfl, o6, e6⟩; rw [L3.out] at o6; obtain ⟨d6, k6, rfl, i6, _, _, _⟩ := own_rowv o6 L3.out; have r6 := r5.trans (e6.mono r5.size)) |
            (go_at_call_of 28 (Value.slice a6 j cap6); refine (K7.out _ r6).mono ?_; rintro e x7 ⟨s7, rfl, o7, e7⟩; rw [L3.out] at o7; obtain ⟨d7, k7, rfl, i7, _, _, _⟩ := own_rowv o7 L3.out; have r7 := r6.trans (e7.mono r6.size); have i6' := i6.below e7 (Nat.le_refl _)) |
            (go_at_call_of 29 (Value.slice d6 j k6); refine (same_true i6' i7 (by omega)).mono ?_; rintro e x8 ⟨rfl, e8⟩; have r8 := r7.trans (e8.mono r7.size)) |
            (go_at_call_of 32 (Value.slice a4 j cap4); refine (K9.out _ r8).mono ?_; rintro e x9 ⟨s9, rfl, o9, e9⟩; rw [L9.out] at o9; obtain ⟨d9, k9, rfl, i9, _, _, _⟩ := own_cols o9 L9.out; have r9 := r8.trans (e9.mono r8.size)) |
            (go_at_call_of 33 (Value.slice a4 j cap4); refine (K10.out _ r9).mono ?_; rintro e x10 ⟨s10, rfl, o10, e10⟩; rw [L9.out] at o10; obtain ⟨d10, k10, rfl, i10, _, _, _⟩ := own_cols o10 L9.out; have r10 := r9.trans (e10.mono r9.size); have i9' := i9.below e10 (Nat.le_refl _)) |
            (go_at_call_of 31 (Value.slice d9 j k9); refine (equal_true i9' i10 (by omega)).mono ?_; rintro e x11 ⟨rfl, e11⟩; have r11 := r10.trans (e11.mono r10.size)) |
            (go_at_call_of 32 (Value.slice a2 len2 cap2); refine (K12.out _ r11).mono ?_; rintro e x12 ⟨s12, rfl, o12, e12⟩; rw [L12.out] at o12; obtain ⟨d12, k12, rfl, i12, _, _, _⟩ := own_cols o12 L12.out; have r12 := r11.trans (e12.mono r11.size)) |
            (go_at_call_of 33 (Value.slice a2 len2 cap2); refine (K13.out _ r12).mono ?_; rintro e x13 ⟨s13, rfl, o13, e13⟩; rw [L12.out] at o13; obtain ⟨d13, k13, rfl, i13, _, _, _⟩ := own_cols o13 L12.out; have r13 := r12.trans (e13.mono r12.size); have i12' := i12.below e13 (Nat.le_refl _)) |
            (go_at_call_of 31 (Value.slice d12 len2 k12); refine (equal_true i12' i13 (by omega)).mono ?_; rintro e x14 ⟨rfl, e14⟩; have r14 := r13.trans (e14.mono r13.size)) |
            (go_at_call 10; refine (known_any _).mono ?_; rintro e x15 ⟨rfl, e15⟩; have r15 := r14.trans (e15.mono r14.size)))
          go_ret
          exact ⟨rfl, bq.trans (r15.mono bq.size)⟩

end Go.Proofs.Ytdlkkajkflebgaa
