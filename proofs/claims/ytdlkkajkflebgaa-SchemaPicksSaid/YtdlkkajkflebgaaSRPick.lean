/-
  Pick and Select of the reference.
-/
import Derived.Test.YtdlkkajkflebgaaSPick
set_option linter.unusedVariables false
namespace Go.Proofs.Ytdlkkajkflebgaa
open Go.RowKit Wh

set_option maxHeartbeats 1000000 in
theorem rpick_any (a1 : Option Addr) (len1 cap1 : Nat) (vs : List V) (a2 : Option Addr) (len2 cap2 : Nat) (zs : List Int) (w : World) (h1 : IsVals w a1 len1 vs) (h2 : IsInts w a2 len2 zs)
    (q1 : len1 ≤ 9223372036854775807) (q2 : len2 ≤ 1000000) :
    Calls Try.prog 30 #[.slice a1 len1 cap1, .slice a2 len2 cap2] w (ValsPost w (pickV vs zs)) := by
  have hl := pickV_length vs zs
  have hl2 := h2.1
  have hlm : ((pickV vs zs).map cV).length = len2 := by rw [List.length_map, hl, hl2]
  have hat := fun k n h => pickV_at (vs := vs) (zs := zs) (k := k) (n := n) h
  unfold ValsPost
  rw [hl, hl2]
  generalize (pickV vs zs).map cV = out at *
  have HAT := Lib.hid hat
  have HLM := Lib.hid hlm
  have H1 := Lib.hid h1
  have H2 := Lib.hid h2
  clear h1 h2 hat hlm hl hl2
  obtain ⟨i0, hi, hz0, hz1, hz2⟩ := info_parts info_val
  go_enter Try.func30, Try.ntmps30
  go_wp2_with (refine wpList_make_full _ rfl (.tmp 8) (.tmp 8) 37 rfl w.heap.size 40 i0 _ 3 Try.underlying37 hi hz0 hz1 .i64 .i64 _ _ len2 rfl rfl rfl rfl ?c1 ?c2 (Nat.le_refl _) ?_)
  case c1 => rw [hz2]; omega
  case c2 => simp [maxLen]; omega
  intro w0 own0 hg0
  have B0 : Below w.heap.size w w0 := (Below.refl _ _).grown hg0 (Nat.le_refl _) (fun j hj => by cases hj)
  have own1 : w0.ownsRow w.heap.size 40 3 (.slice (some ⟨w.heap.size, 0, none⟩) len2 len2) len2 (flat3 (half out (cV vNull) 0)) := by
    rw [half_zero, HLM.out, show cV vNull = ((.int .i64 0, .int .i64 0, .string ⟨#[]⟩)) from rfl, ← flat3_made]
    exact own0
  have HO1 := Lib.hid own1
  clear own0 hg0 own1
  go_wp2_with fail
  go_loopw [6] (fun iv wr => ∃ k : Nat, k ≤ len2 ∧ iv = .int .i64 k ∧ wr.ownsRow w.heap.size 40 3 (.slice (some ⟨w.heap.size, 0, none⟩) len2 len2) len2 (flat3 (half out (cV vNull) k)) ∧ Below w.heap.size w wr)
    (fun i _ => len2 - (intOf i).toNat)
  case atStart => exact ⟨0, Nat.zero_le _, rfl, HO1.out, B0⟩
  case round =>
    obtain ⟨k, hk, rfl, hown, hbel⟩ := hrel
    have hsz := hbel.size
    have HO := Lib.hid hown
    clear hown HO1 B0
    by_cases hlt : k < len2
    · obtain ⟨n, b2, off2, hx, rfl, hbl2, hc0⟩ := (H2.out.below hbel (Nat.le_refl _)).at hlt
      have HA := Lib.hid (HAT.out k n hx)
      clear hx
      by_cases hn0 : n < 0
      · have hown2 : wr.ownsRow w.heap.size 40 3 (.slice (some ⟨w.heap.size, 0, none⟩) len2 len2) len2 (flat3 (half out (cV vNull) (k + 1))) := by
          rw [← half_same (by rw [HA.out, pickOV_out (.inl hn0)])]; exact HO.out
        have HO2 := Lib.hid hown2
        clear hown2 HO
        go_wp2_with fail
        go_roundw
        case rel => exact ⟨k + 1, by omega, by go_num, HO2.out, hbel⟩
        case measure => simp [intOf]; omega
      by_cases hn1 : n < len1
      · obtain ⟨m, rfl⟩ : ∃ m : Nat, n = m := ⟨n.toNat, by omega⟩
        obtain ⟨kd, vn, vt, b1, off1, hy, rfl, hbl1, d0, d1, d2⟩ := (H1.out.below hbel (Nat.le_refl _)).at (k := m) (by omega)
        have hA := HA.out
        rw [pickOV_in hy] at hA
        obtain ⟨x0, x1, x2, f0, f1, f2⟩ := own3_at HO.out (half_at (z := cV vNull) (by rw [HLM.out]; exact hlt)) (by rw [half_length (by rw [HLM.out]; omega), HLM.out])
        have hown2 := own3_set HO.out (k := k) (by rw [half_length (by rw [HLM.out]; omega), HLM.out]; exact hlt) (.int .i64 kd) (.int .i64 vn) (.string vt)
        rw [show ((.int .i64 kd, .int .i64 vn, .string vt) : T3) = cV ⟨kd, vn, vt⟩ from rfl, half_set hA] at hown2
        have HO2 := Lib.hid hown2
        have HB := Lib.hid (((hbel.setCell (p := ⟨w.heap.size, k * 3, none⟩) (Nat.le_refl _) (.int .i64 kd)).setCell (p := ⟨w.heap.size, k * 3 + 1, none⟩) (Nat.le_refl _) (.int .i64 vn)).setCell (p := ⟨w.heap.size, k * 3 + 2, none⟩) (Nat.le_refl _) (.string vt))
        clear hown2 HO hy hA HA HAT
        go_wp2_with fail
        go_roundw
        case rel => exact ⟨k + 1, by omega, by go_num, HO2.out, HB.out⟩
        case measure => simp [intOf]; omega
      · have hl1 := H1.out.1
        have hown2 : wr.ownsRow w.heap.size 40 3 (.slice (some ⟨w.heap.size, 0, none⟩) len2 len2) len2 (flat3 (half out (cV vNull) (k + 1))) := by
          rw [← half_same (by rw [HA.out, pickOV_out (.inr (by omega))])]; exact HO.out
        have HO2 := Lib.hid hown2
        clear hown2 HO hl1
        go_wp2_with fail
        go_roundw
        case rel => exact ⟨k + 1, by omega, by go_num, HO2.out, hbel⟩
        case measure => simp [intOf]; omega
    · obtain rfl : k = len2 := by omega
      have hown2 := HO.out
      have he := half_end out (cV vNull)
      rw [HLM.out] at he
      rw [he] at hown2
      have HO2 := Lib.hid hown2
      clear hown2 HO he
      go_wp2_with fail
      go_ret
      exact ⟨_, rfl, HO2.out, hbel⟩

set_option maxHeartbeats 1000000 in
theorem rselect_any (a1 : Option Addr) (len1 cap1 : Nat) (vs : List C) (a2 : Option Addr) (len2 cap2 : Nat) (zs : List Int) (w : World) (h1 : IsCols w a1 len1 vs) (h2 : IsInts w a2 len2 zs)
    (q1 : len1 ≤ 9223372036854775807) (q2 : len2 ≤ 1000000) :
    Calls Try.prog 33 #[.slice a1 len1 cap1, .slice a2 len2 cap2] w (ColsPost w (pickC vs zs)) := by
  have hl := pickC_length vs zs
  have hl2 := h2.1
  have hlm : ((pickC vs zs).map cC).length = len2 := by rw [List.length_map, hl, hl2]
  have hat := fun k n h => pickC_at (vs := vs) (zs := zs) (k := k) (n := n) h
  unfold ColsPost
  rw [hl, hl2]
  generalize (pickC vs zs).map cC = out at *
  have HAT := Lib.hid hat
  have HLM := Lib.hid hlm
  have H1 := Lib.hid h1
  have H2 := Lib.hid h2
  clear h1 h2 hat hlm hl hl2
  obtain ⟨i0, hi, hz0, hz1, hz2⟩ := info_parts info_col
  go_enter Try.func33, Try.ntmps33
  go_wp2_with (refine wpList_make_full _ rfl (.tmp 8) (.tmp 8) 28 rfl w.heap.size 55 i0 _ 3 Try.underlying28 hi hz0 hz1 .i64 .i64 _ _ len2 rfl rfl rfl rfl ?c1 ?c2 (Nat.le_refl _) ?_)
  case c1 => rw [hz2]; omega
  case c2 => simp [maxLen]; omega
  intro w0 own0 hg0
  have B0 : Below w.heap.size w w0 := (Below.refl _ _).grown hg0 (Nat.le_refl _) (fun j hj => by cases hj)
  have own1 : w0.ownsRow w.heap.size 55 3 (.slice (some ⟨w.heap.size, 0, none⟩) len2 len2) len2 (flat3 (half out (cC cNull) 0)) := by
    rw [half_zero, HLM.out, show cC cNull = ((.string ⟨#[]⟩, .int .i64 0, .bool false)) from rfl, ← flat3_made]
    exact own0
  have HO1 := Lib.hid own1
  clear own0 hg0 own1
  go_wp2_with fail
  go_loopw [6] (fun iv wr => ∃ k : Nat, k ≤ len2 ∧ iv = .int .i64 k ∧ wr.ownsRow w.heap.size 55 3 (.slice (some ⟨w.heap.size, 0, none⟩) len2 len2) len2 (flat3 (half out (cC cNull) k)) ∧ Below w.heap.size w wr)
    (fun i _ => len2 - (intOf i).toNat)
  case atStart => exact ⟨0, Nat.zero_le _, rfl, HO1.out, B0⟩
  case round =>
    obtain ⟨k, hk, rfl, hown, hbel⟩ := hrel
    have hsz := hbel.size
    have HO := Lib.hid hown
    clear hown HO1 B0
    by_cases hlt : k < len2
    · obtain ⟨n, b2, off2, hx, rfl, hbl2, hc0⟩ := (H2.out.below hbel (Nat.le_refl _)).at hlt
      have HA := Lib.hid (HAT.out k n hx)
      clear hx
      by_cases hn0 : n < 0
      · have hown2 : wr.ownsRow w.heap.size 55 3 (.slice (some ⟨w.heap.size, 0, none⟩) len2 len2) len2 (flat3 (half out (cC cNull) (k + 1))) := by
          rw [← half_same (by rw [HA.out, pickOC_out (.inl hn0)])]; exact HO.out
        have HO2 := Lib.hid hown2
        clear hown2 HO
        go_wp2_with fail
        go_roundw
        case rel => exact ⟨k + 1, by omega, by go_num, HO2.out, hbel⟩
        case measure => simp [intOf]; omega
      by_cases hn1 : n < len1
      · obtain ⟨m, rfl⟩ : ∃ m : Nat, n = m := ⟨n.toNat, by omega⟩
        obtain ⟨nm, kd, nu, b1, off1, hy, rfl, hbl1, d0, d1, d2⟩ := (H1.out.below hbel (Nat.le_refl _)).at (k := m) (by omega)
        have hA := HA.out
        rw [pickOC_in hy] at hA
        obtain ⟨x0, x1, x2, f0, f1, f2⟩ := own3_at HO.out (half_at (z := cC cNull) (by rw [HLM.out]; exact hlt)) (by rw [half_length (by rw [HLM.out]; omega), HLM.out])
        have hown2 := own3_set HO.out (k := k) (by rw [half_length (by rw [HLM.out]; omega), HLM.out]; exact hlt) (.string nm) (.int .i64 kd) (.bool nu)
        rw [show ((.string nm, .int .i64 kd, .bool nu) : T3) = cC ⟨nm, kd, nu⟩ from rfl, half_set hA] at hown2
        have HO2 := Lib.hid hown2
        have HB := Lib.hid (((hbel.setCell (p := ⟨w.heap.size, k * 3, none⟩) (Nat.le_refl _) (.string nm)).setCell (p := ⟨w.heap.size, k * 3 + 1, none⟩) (Nat.le_refl _) (.int .i64 kd)).setCell (p := ⟨w.heap.size, k * 3 + 2, none⟩) (Nat.le_refl _) (.bool nu))
        clear hown2 HO hy hA HA HAT
        go_wp2_with fail
        go_roundw
        case rel => exact ⟨k + 1, by omega, by go_num, HO2.out, HB.out⟩
        case measure => simp [intOf]; omega
      · have hl1 := H1.out.1
        have hown2 : wr.ownsRow w.heap.size 55 3 (.slice (some ⟨w.heap.size, 0, none⟩) len2 len2) len2 (flat3 (half out (cC cNull) (k + 1))) := by
          rw [← half_same (by rw [HA.out, pickOC_out (.inr (by omega))])]; exact HO.out
        have HO2 := Lib.hid hown2
        clear hown2 HO hl1
        go_wp2_with fail
        go_roundw
        case rel => exact ⟨k + 1, by omega, by go_num, HO2.out, hbel⟩
        case measure => simp [intOf]; omega
    · obtain rfl : k = len2 := by omega
      have hown2 := HO.out
      have he := half_end out (cC cNull)
      rw [HLM.out] at he
      rw [he] at hown2
      have HO2 := Lib.hid hown2
      clear hown2 HO he
      go_wp2_with fail
      go_ret
      exact ⟨_, rfl, HO2.out, hbel⟩

end Go.Proofs.Ytdlkkajkflebgaa
