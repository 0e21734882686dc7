/-
  For every layer: the number at a place of a slice that came in. · Picking values, plainly; Pick of the reference. · Pick of schema (and pick at values).
-/
import Derived.Test.YtdhhhmehkldliaaGInts
import Derived.Test.YtdhhhmehkldliaaGOwn
import Derived.Test.YtdhhhmehkldliaaGVRow
set_option linter.unusedVariables false
namespace Go.Proofs.Ytdhhhmehkldliaa
open Go.RowKit

theorem IsInts.at {w : World} {a : Option Addr} {len : Nat} {zs : List Int} (h : IsInts w a len zs) {k : Nat} (hk : k < len) :
    ∃ z b off, zs[k]? = some z ∧ a = some ⟨b, off, none⟩ ∧ b < w.heap.size ∧ w.cell? ⟨b, off + k, none⟩ = some (.int .i64 z) := by
  obtain ⟨h1, h2⟩ := h
  obtain ⟨z, hs⟩ : ∃ s, zs[k]? = some s := ⟨_, List.getElem?_eq_getElem (by omega)⟩
  rcases h2 with rfl | ⟨b, off, ha, hlt, hc⟩
  · simp at hs
  · exact ⟨z, b, off, hs, ha, hlt, hc k _ hs⟩

end Go.Proofs.Ytdhhhmehkldliaa

set_option linter.unusedVariables false
namespace Go.Proofs.Ytdhhhmehkldliaa
open Go.RowKit Wh

/-- The value that a number picks, and the values that numbers pick. -/
def pickOV (vs : List V) (n : Int) : V := if 0 ≤ n ∧ n < vs.length then vs.getD n.toNat vNull else vNull
def pickV (vs : List V) (zs : List Int) : List V := zs.map (pickOV vs)

theorem pickOV_out {vs : List V} {n : Int} (h : n < 0 ∨ (vs.length : Int) ≤ n) : pickOV vs n = vNull := by unfold pickOV; rw [if_neg (by omega)]
theorem pickOV_in {vs : List V} {m : Nat} {v : V} (h : vs[m]? = some v) : pickOV vs (m : Int) = v := by
  have hm := (List.getElem?_eq_some_iff.1 h).1
  unfold pickOV
  rw [if_pos (by omega)]
  simp [List.getD, h]
theorem pickV_at {vs : List V} {zs : List Int} {k : Nat} {n : Int} (h : zs[k]? = some n) : ((pickV vs zs).map cV)[k]? = some (cV (pickOV vs n)) := by
  unfold pickV
  rw [List.getElem?_map, List.getElem?_map, h]
  rfl
theorem pickV_length (vs : List V) (zs : List Int) : (pickV vs zs).length = zs.length := by simp [pickV]


set_option maxHeartbeats 1000000 in
set_option maxRecDepth 100000 in
theorem rpick_any (a1 : Option Addr) (len1 cap1 : Nat) (vs : List V) (a2 : Option Addr) (len2 cap2 : Nat) (zs : List Int) (w : World) (h1 : IsVals w a1 len1 vs) (h2 : IsInts w a2 len2 zs)
    (q1 : len1 ≤ 9223372036854775807) (q2 : len2 ≤ 1000000) :
    Calls Try.prog 69 #[.slice a1 len1 cap1, .slice a2 len2 cap2] w (ValsPost w (pickV vs zs)) := by
  have hl := pickV_length vs zs
  have hl2 := h2.1
  have hlm : ((pickV vs zs).map cV).length = len2 := by rw [List.length_map, hl, hl2]
  have hat := fun k n h => pickV_at (vs := vs) (zs := zs) (k := k) (n := n) h
  unfold ValsPost
  rw [hl, hl2]
  generalize (pickV vs zs).map cV = out at *
  have HAT := Lib.hid hat
  have HLM := Lib.hid hlm
  have H1 := Lib.hid h1
  have H2 := Lib.hid h2
  clear h1 h2 hat hlm hl hl2
  obtain ⟨i0, hi, hz0, hz1, hz2⟩ := info_parts info_val
  go_enter Try.func69, Try.ntmps69
  go_wp2_with (refine wpList_make_full _ rfl (.tmp 8) (.tmp 8) 28 rfl w.heap.size 38 i0 _ 3 Try.underlying28 hi hz0 hz1 .i64 .i64 _ _ len2 rfl rfl rfl rfl ?c1 ?c2 (Nat.le_refl _) ?_)
  case c1 => rw [hz2]; omega
  case c2 => simp [maxLen]; omega
  intro w0 own0 hg0
  have B0 : Below w.heap.size w w0 := (Below.refl _ _).grown hg0 (Nat.le_refl _) (fun j hj => by cases hj)
  have own1 : w0.ownsRow w.heap.size 38 3 (.slice (some ⟨w.heap.size, 0, none⟩) len2 len2) len2 (flat3 (half out (cV vNull) 0)) := by
    rw [half_zero, HLM.out, show cV vNull = ((.int .i64 0, .int .i64 0, .string ⟨#[]⟩)) from rfl, ← flat3_made]
    exact own0
  have HO1 := Lib.hid own1
  clear own0 hg0 own1
  go_wp2_with fail
  go_loopw [6] (fun iv wr => ∃ k : Nat, k ≤ len2 ∧ iv = .int .i64 k ∧ wr.ownsRow w.heap.size 38 3 (.slice (some ⟨w.heap.size, 0, none⟩) len2 len2) len2 (flat3 (half out (cV vNull) k)) ∧ Below w.heap.size w wr)
    (fun i _ => len2 - (intOf i).toNat)
  case atStart => exact ⟨0, Nat.zero_le _, rfl, HO1.out, B0⟩
  case round =>
    obtain ⟨k, hk, rfl, hown, hbel⟩ := hrel
    have hsz := hbel.size
    have HO := Lib.hid hown
    clear hown HO1 B0
    by_cases hlt : k < len2
    · obtain ⟨n, b2, off2, hx, rfl, hbl2, hc0⟩ := (H2.out.below hbel (Nat.le_refl _)).at hlt
      have HA := Lib.hid (HAT.out k n hx)
      clear hx
      by_cases hn0 : n < 0
      · have hown2 : wr.ownsRow w.heap.size 38 3 (.slice (some ⟨w.heap.size, 0, none⟩) len2 len2) len2 (flat3 (half out (cV vNull) (k + 1))) := by
          rw [← half_same (by rw [HA.out, pickOV_out (.inl hn0)])]; exact HO.out
        have HO2 := Lib.hid hown2
        clear hown2 HO
        go_wp2_with fail
        go_roundw
        case rel => exact ⟨k + 1, by omega, by go_num, HO2.out, hbel⟩
        case measure => simp [intOf]; omega
      by_cases hn1 : n < len1
      · obtain ⟨m, rfl⟩ : ∃ m : Nat, n = m := ⟨n.toNat, by omega⟩
        obtain ⟨kd, vn, vt, b1, off1, hy, rfl, hbl1, d0, d1, d2⟩ := (H1.out.below hbel (Nat.le_refl _)).at (k := m) (by omega)
        have hA := HA.out
        rw [pickOV_in hy] at hA
        obtain ⟨x0, x1, x2, f0, f1, f2⟩ := own3_at HO.out (half_at (z := cV vNull) (by rw [HLM.out]; exact hlt)) (by rw [half_length (by rw [HLM.out]; omega), HLM.out])
        have hown2 := own3_set HO.out (k := k) (by rw [half_length (by rw [HLM.out]; omega), HLM.out]; exact hlt) (.int .i64 kd) (.int .i64 vn) (.string vt)
        rw [show ((.int .i64 kd, .int .i64 vn, .string vt) : T3) = cV ⟨kd, vn, vt⟩ from rfl, half_set hA] at hown2
        have HO2 := Lib.hid hown2
        have HB := Lib.hid (((hbel.setCell (p := ⟨w.heap.size, k * 3, none⟩) (Nat.le_refl _) (.int .i64 kd)).setCell (p := ⟨w.heap.size, k * 3 + 1, none⟩) (Nat.le_refl _) (.int .i64 vn)).setCell (p := ⟨w.heap.size, k * 3 + 2, none⟩) (Nat.le_refl _) (.string vt))
        clear hown2 HO hy hA HA HAT
        go_wp2_with fail
        go_roundw
        case rel => exact ⟨k + 1, by omega, by go_num, HO2.out, HB.out⟩
        case measure => simp [intOf]; omega
      · have hl1 := H1.out.1
        have hown2 : wr.ownsRow w.heap.size 38 3 (.slice (some ⟨w.heap.size, 0, none⟩) len2 len2) len2 (flat3 (half out (cV vNull) (k + 1))) := by
          rw [← half_same (by rw [HA.out, pickOV_out (.inr (by omega))])]; exact HO.out
        have HO2 := Lib.hid hown2
        clear hown2 HO hl1
        go_wp2_with fail
        go_roundw
        case rel => exact ⟨k + 1, by omega, by go_num, HO2.out, hbel⟩
        case measure => simp [intOf]; omega
    · obtain rfl : k = len2 := by omega
      have hown2 := HO.out
      have he := half_end out (cV vNull)
      rw [HLM.out] at he
      rw [he] at hown2
      have HO2 := Lib.hid hown2
      clear hown2 HO he
      go_wp2_with fail
      go_ret
      exact ⟨_, rfl, HO2.out, hbel⟩

end Go.Proofs.Ytdhhhmehkldliaa

set_option linter.unusedVariables false
namespace Go.Proofs.Ytdhhhmehkldliaa
open Go.RowKit Wh

set_option maxHeartbeats 1000000 in
set_option maxRecDepth 100000 in
theorem pickV_any (a1 : Option Addr) (len1 cap1 : Nat) (vs : List V) (a2 : Option Addr) (len2 cap2 : Nat) (zs : List Int) (w : World) (h1 : IsVals w a1 len1 vs) (h2 : IsInts w a2 len2 zs)
    (q1 : len1 ≤ 9223372036854775807) (q2 : len2 ≤ 1000000) :
    Calls Try.prog 85 #[.slice a1 len1 cap1, .slice a2 len2 cap2] w (ValsPost w (pickV vs zs)) := by
  have hl := pickV_length vs zs
  have hl2 := h2.1
  have hlm : ((pickV vs zs).map cV).length = len2 := by rw [List.length_map, hl, hl2]
  have hat := fun k n h => pickV_at (vs := vs) (zs := zs) (k := k) (n := n) h
  unfold ValsPost
  rw [hl, hl2]
  generalize (pickV vs zs).map cV = out at *
  have HAT := Lib.hid hat
  have HLM := Lib.hid hlm
  have H1 := Lib.hid h1
  have H2 := Lib.hid h2
  clear h1 h2 hat hlm hl hl2
  obtain ⟨i0, hi, hz0, hz1, hz2⟩ := info_parts info_val
  go_enter Try.func85, Try.ntmps85
  go_wp2_with (refine wpList_make_full _ rfl (.tmp 9) (.tmp 9) 28 rfl w.heap.size 38 i0 _ 3 Try.underlying28 hi hz0 hz1 .i64 .i64 _ _ len2 rfl rfl rfl rfl ?c1 ?c2 (Nat.le_refl _) ?_)
  case c1 => rw [hz2]; omega
  case c2 => simp [maxLen]; omega
  intro w0 own0 hg0
  have B0 : Below w.heap.size w w0 := (Below.refl _ _).grown hg0 (Nat.le_refl _) (fun j hj => by cases hj)
  have own1 : w0.ownsRow w.heap.size 38 3 (.slice (some ⟨w.heap.size, 0, none⟩) len2 len2) len2 (flat3 (half out (cV vNull) 0)) := by
    rw [half_zero, HLM.out, show cV vNull = ((.int .i64 0, .int .i64 0, .string ⟨#[]⟩)) from rfl, ← flat3_made]
    exact own0
  have HO1 := Lib.hid own1
  clear own0 hg0 own1
  go_wp2_with fail
  go_loopw [13] (fun iv wr => ∃ k : Nat, k ≤ len2 ∧ iv = .int .i64 k ∧ wr.ownsRow w.heap.size 38 3 (.slice (some ⟨w.heap.size, 0, none⟩) len2 len2) len2 (flat3 (half out (cV vNull) k)) ∧ Below w.heap.size w wr)
    (fun i _ => len2 - (intOf i).toNat)
  case atStart => exact ⟨0, Nat.zero_le _, rfl, HO1.out, B0⟩
  case round =>
    obtain ⟨k, hk, rfl, hown, hbel⟩ := hrel
    have hsz := hbel.size
    have HO := Lib.hid hown
    clear hown HO1 B0
    by_cases hlt : k < len2
    · obtain ⟨n, b2, off2, hx, rfl, hbl2, hc0⟩ := (H2.out.below hbel (Nat.le_refl _)).at hlt
      have HA := Lib.hid (HAT.out k n hx)
      clear hx
      by_cases hn0 : n < 0
      · have hown2 : wr.ownsRow w.heap.size 38 3 (.slice (some ⟨w.heap.size, 0, none⟩) len2 len2) len2 (flat3 (half out (cV vNull) (k + 1))) := by
          rw [← half_same (by rw [HA.out, pickOV_out (.inl hn0)])]; exact HO.out
        have HO2 := Lib.hid hown2
        clear hown2 HO
        go_wp2_with fail
        go_roundw
        case rel => exact ⟨k + 1, by omega, by go_num, HO2.out, hbel⟩
        case measure => simp [intOf]; omega
      by_cases hn1 : n < len1
      · obtain ⟨m, rfl⟩ : ∃ m : Nat, n = m := ⟨n.toNat, by omega⟩
        obtain ⟨kd, vn, vt, b1, off1, hy, rfl, hbl1, d0, d1, d2⟩ := (H1.out.below hbel (Nat.le_refl _)).at (k := m) (by omega)
        have hA := HA.out
        rw [pickOV_in hy] at hA
        obtain ⟨x0, x1, x2, f0, f1, f2⟩ := own3_at HO.out (half_at (z := cV vNull) (by rw [HLM.out]; exact hlt)) (by rw [half_length (by rw [HLM.out]; omega), HLM.out])
        have hown2 := own3_set HO.out (k := k) (by rw [half_length (by rw [HLM.out]; omega), HLM.out]; exact hlt) (.int .i64 kd) (.int .i64 vn) (.string vt)
        rw [show ((.int .i64 kd, .int .i64 vn, .string vt) : T3) = cV ⟨kd, vn, vt⟩ from rfl, half_set hA] at hown2
        have HO2 := Lib.hid hown2
        have HB := Lib.hid (((hbel.setCell (p := ⟨w.heap.size, k * 3, none⟩) (Nat.le_refl _) (.int .i64 kd)).setCell (p := ⟨w.heap.size, k * 3 + 1, none⟩) (Nat.le_refl _) (.int .i64 vn)).setCell (p := ⟨w.heap.size, k * 3 + 2, none⟩) (Nat.le_refl _) (.string vt))
        clear hown2 HO hy hA HA HAT
        go_wp2_with fail
        go_roundw
        case rel => exact ⟨k + 1, by omega, by go_num, HO2.out, HB.out⟩
        case measure => simp [intOf]; omega
      · have hl1 := H1.out.1
        have hown2 : wr.ownsRow w.heap.size 38 3 (.slice (some ⟨w.heap.size, 0, none⟩) len2 len2) len2 (flat3 (half out (cV vNull) (k + 1))) := by
          rw [← half_same (by rw [HA.out, pickOV_out (.inr (by omega))])]; exact HO.out
        have HO2 := Lib.hid hown2
        clear hown2 HO hl1
        go_wp2_with fail
        go_roundw
        case rel => exact ⟨k + 1, by omega, by go_num, HO2.out, hbel⟩
        case measure => simp [intOf]; omega
    · obtain rfl : k = len2 := by omega
      have hown2 := HO.out
      have he := half_end out (cV vNull)
      rw [HLM.out] at he
      rw [he] at hown2
      have HO2 := Lib.hid hown2
      clear hown2 HO he
      go_wp2_with fail
      go_ret
      exact ⟨_, rfl, HO2.out, hbel⟩

theorem pickVals_any (a1 : Option Addr) (len1 cap1 : Nat) (vs : List V) (a2 : Option Addr) (len2 cap2 : Nat) (zs : List Int) (w : World) (h1 : IsVals w a1 len1 vs) (h2 : IsInts w a2 len2 zs)
    (q1 : len1 ≤ 9223372036854775807) (q2 : len2 ≤ 1000000) :
    Calls Try.prog 68 #[.slice a1 len1 cap1, .slice a2 len2 cap2] w (ValsPost w (pickV vs zs)) := by
  have c := pickV_any a1 len1 cap1 vs a2 len2 cap2 zs w h1 h2 q1 q2
  generalize pickV vs zs = out at *
  go_enter Try.func68, Try.ntmps68
  go_wp2_with (first | (go_at_call 85; refine c.mono ?_; rintro e w' ⟨sv, rfl, hown, hb⟩))
  go_ret
  exact ⟨_, rfl, hown, hb⟩

end Go.Proofs.Ytdhhhmehkldliaa
