/-
  The law ValueRoundTrips: decoding an encoding gives the row back, different rows have different encodings, and none begins with another one.
-/
import Derived.Test.YtnmlbafhdnffgaaDecode
import Derived.Test.YtnmlbafhdnffgaaTrip
import Derived.Test.YtnmlbafhdnffgaaCmpRows
import Derived.Test.YtnmlbafhdnffgaaEncodes
set_option linter.unusedVariables false
namespace Go.Proofs.Ytnmlbafhdnffgaa
open Go.RowKit Wh

theorem own_bytes {w : World} {base : Nat} {bv : Value} {l : List UInt8} (h : w.ownsRow base 5 1 bv l.length (l.map B)) (hne : 0 < l.length) :
    ∃ (g cap : Nat), bv = .slice (some ⟨g, 0, none⟩) l.length cap ∧ IsBytes w (some ⟨g, 0, none⟩) l.length l ∧ l.length ≤ cap ∧ cap ≤ 9223372036854775807 := by
  rcases h.2 with ⟨rfl, h0⟩ | ⟨g, cap, cur, rfl, hg, hh, hc, hm, _, _⟩
  · omega
  · have hlt : g < w.heap.size := (Array.getElem?_eq_some_iff.1 hh).1
    refine ⟨g, cap, rfl, ⟨rfl, .inr ⟨g, 0, rfl, hlt, fun i x hx => ?_⟩⟩, hc, by simpa [maxLen] using hm⟩
    have hadd : (⟨g, 0, none⟩ : Addr).add i = ⟨g, 0 + i, none⟩ := by unfold Addr.add; split <;> simp_all
    have c := h.cells (g := g) rfl i (B x) (by simp [hx])
    rw [hadd] at c
    exact c

theorem bytes_conv {W : World} {g len c k : Nat} {l : List UInt8} (h : IsBytes W (some ⟨g, 0, none⟩) len l) (hk : k ≤ len) :
    (convert 37 9 (.slice (some ⟨g, 0, none⟩) k c)).run Try.prog W = .ok (.string ⟨(l.take k).toArray⟩) W := by
  obtain ⟨h1, h2⟩ := h
  refine conv_bytes (by rw [List.length_take]; omega) fun j x hx => ?_
  rcases h2 with rfl | ⟨b, off, hb, _, hat⟩
  · simp at hx
  · cases hb
    rw [List.getElem?_take] at hx
    split at hx
    · exact hat _ _ hx
    · cases hx

theorem valid_all {vs : List V} (h : allValid vs = true) : ∀ v, v ∈ vs → validB v.k v.n v.s = true := by
  simpa [allValid] using h

theorem encOut_enc {vs : List V} (h : ∀ v, v ∈ vs → validB v.k v.n v.s = true) (hl : vs.length ≤ 12) : encOut vs = (encR vs, 0) := by
  unfold encOut
  rw [if_neg (by omega), if_pos (allValid_of h)]

set_option maxHeartbeats 2000000 in
theorem roundtrips_walk (w : World) (a1 : Option Addr) (len1 cap1 : Nat) (xs : List Int) (h1 : IsInts w a1 len1 xs) (hl1 : len1 ≤ cap1) (hm1 : cap1 ≤ maxLen)
    (a2 : Option Addr) (len2 cap2 : Nat) (ys : List Int) (h2 : IsInts w a2 len2 ys) (hl2 : len2 ≤ cap2) (hm2 : cap2 ≤ maxLen)
    (n : Int) (h0 : -9223372036854775808 ≤ n) (h9 : n ≤ 9223372036854775807) :
    Calls Try.prog 9 #[.slice a1 len1 cap1, .slice a2 len2 cap2, .int .i64 n] w fun e w' => e = .returned (.bool true) ∧ Below w.heap.size w w' := by
  simp only [maxLen] at hm1 hm2
  have q1 : len1 ≤ 9223372036854775807 := by omega
  have q2 : len2 ≤ 9223372036854775807 := by omega
  have HX := Lib.hid h1
  have HY := Lib.hid h2
  clear h1 h2
  have b7 := and_7
  obtain ⟨m, hm⟩ : ∃ m : Nat, n % 8 = (m : Int) := ⟨(n % 8).toNat, by omega⟩
  have hm7 : m ≤ 7 := by omega
  obtain ⟨m', hm'⟩ : ∃ m' : Nat, n / 8 % 8 = (m' : Int) := ⟨(n / 8 % 8).toNat, by omega⟩
  have hm7' : m' ≤ 7 := by omega
  go_enter Try.func9, Try.ntmps9
  go_wp2_with fail
  refine (row_any _ _ _ xs m (by omega) _ HX.out q1).mono ?_
  rintro e w1 ⟨sv1, rfl, o1, hb1⟩
  go_wp2_with fail
  refine (row_any _ _ _ ys m' (by omega) _ (HY.out.below hb1 (Nat.le_refl _)) q2).mono ?_
  rintro e w2 ⟨sv2, rfl, o2, hb2⟩
  have B2 := hb1.trans (hb2.mono hb1.size)
  obtain ⟨a3, c3, rfl, v3, _⟩ := own_vals (own_below o1 hb2) (rowV_length xs m)
  obtain ⟨a4, c4, rfl, v4, _⟩ := own_vals o2 (rowV_length ys m')
  have x1 := valid_all (rowV_valid xs m)
  have x2 := rowV_length xs m
  have y1 := valid_all (rowV_valid ys m')
  have y2 := rowV_length ys m'
  have ex := encOut_enc x1 (by omega)
  have ey := encOut_enc y1 (by omega)
  have dx := decOut_enc x1 (by omega)
  have inj := fun t => encR_inj (t := t) x1 y1 (by omega) (by omega)
  generalize rowV xs m = X at *
  generalize rowV ys m' = Y at *
  have px : 0 < (encR X).length := by simp [encR]
  have py : 0 < (encR Y).length := by simp [encR]
  have V3 := Lib.hid v3
  have V4 := Lib.hid v4
  have EX := Lib.hid ex
  have EY := Lib.hid ey
  have DX := Lib.hid dx
  have INJ := Lib.hid inj
  have L3 := Lib.hid x2
  have L4 := Lib.hid y2
  clear o1 o2 v3 v4 ex ey dx inj x1 x2 y1 y2 hb1 hb2
  go_wp2_with fail
  have k3 := encode_any a3 m c3 X w2 V3.out (by omega)
  rw [EX.out] at k3
  refine k3.mono ?_
  clear k3
  rintro e w3 ⟨bv3, rfl, o3, hb3⟩
  obtain ⟨g3, k3, rfl, i3, hc3, hm3⟩ := own_bytes o3 px
  have I3 := Lib.hid i3
  clear o3 i3
  have s2 := B2.size
  have B3 := B2.trans (hb3.mono s2)
  go_wp2_with fail
  have k4 := encode_any a4 m' c4 Y w3 (V4.out.below hb3 (Nat.le_refl _)) (by omega)
  rw [EY.out] at k4
  refine k4.mono ?_
  clear k4
  rintro e w4 ⟨bv4, rfl, o4, hb4⟩
  obtain ⟨g4, k4, rfl, i4, hc4, hm4⟩ := own_bytes o4 py
  have I4 := Lib.hid i4
  clear o4 i4
  have s3 := hb3.size
  have s4 := hb4.size
  have b34 := hb3.trans (hb4.mono s3)
  have B4 := B2.trans (b34.mono s2)
  have W3 := Lib.hid (V3.out.below b34 (Nat.le_refl _))
  have W4 := Lib.hid (V4.out.below b34 (Nat.le_refl _))
  have J3 := Lib.hid (I3.out.below hb4 (Nat.le_refl _))
  clear V3 V4 I3 b34 hb3 hb4 B3
  go_wp2_with fail
  have k5 := decode_any _ _ _ _ w4 J3.out hc3 hm3
  rw [DX.out] at k5
  refine k5.mono ?_
  clear k5
  rintro e w5 ⟨sv5, rfl, o5, hb5⟩
  obtain ⟨a5, c5, rfl, v5, _⟩ := own_vals o5 rfl
  have V5 := Lib.hid v5
  clear o5 v5
  have B5 := B4.trans (hb5.mono B4.size)
  go_wp2_with fail
  have k6 := rows_any _ _ c5 _ _ _ c3 _ w5 V5.out (W3.out.below hb5 (Nat.le_refl _)) (by show X.length ≤ _; rw [L3.out]; omega) (by omega)
  rw [show cmpR X X = 0 from cmpR_self X] at k6
  refine k6.mono ?_
  clear k6
  rintro e w6 ⟨rfl, hb6⟩
  go_wp2_with fail
  have b46 := hb5.trans (hb6.mono hb5.size)
  have k7 := rows_any _ _ c3 _ _ _ c4 _ w6 (W3.out.below b46 (Nat.le_refl _)) (W4.out.below b46 (Nat.le_refl _)) (by omega) (by omega)
  refine k7.mono ?_
  clear k7
  rintro e w7 ⟨rfl, hb7⟩
  have b47 := b46.trans (hb7.mono b46.size)
  have B7 := B4.trans (b47.mono B4.size)
  have J3' := J3.out.below b47 (Nat.le_refl _)
  have J4' := I4.out.below b47 (Nat.le_refl _)
  have CX : ∀ k, (convert 37 9 (.slice (some ⟨g3, 0, none⟩) (encR X).length k3)).run Try.prog (w7.drewN k) = .ok (.string ⟨(encR X).toArray⟩) (w7.drewN k) := fun k => by
    have h := bytes_conv (c := k3) (J3'.below (below_drewN (Below.refl w7.heap.size w7) k) (Nat.le_refl _)) (Nat.le_refl _)
    rw [List.take_length] at h
    exact h
  have CY : ∀ k, (convert 37 9 (.slice (some ⟨g4, 0, none⟩) (encR Y).length k4)).run Try.prog (w7.drewN k) = .ok (.string ⟨(encR Y).toArray⟩) (w7.drewN k) := fun k => by
    have h := bytes_conv (c := k4) (J4'.below (below_drewN (Below.refl w7.heap.size w7) k) (Nat.le_refl _)) (Nat.le_refl _)
    rw [List.take_length] at h
    exact h
  have CZ : (encR X).length ≤ (encR Y).length → ∀ k, (convert 37 9 (.slice (some ⟨g4, 0, none⟩) (encR X).length k4)).run Try.prog (w7.drewN k) = .ok (.string ⟨((encR Y).take (encR X).length).toArray⟩) (w7.drewN k) := fun h k =>
    bytes_conv (c := k4) (J4'.below (below_drewN (Below.refl w7.heap.size w7) k) (Nat.le_refl _)) h
  clear hb5 hb6 hb7 b46 b47 B4 B5 J3' J4' J3 I4 W3 W4 V5 B2 s2 s3 s4
  by_cases he : X = Y
  · subst he
    rw [show cmpR X X = 0 from cmpR_self X]
    have hle : ((encR X).length : Int) ≤ ((encR X).length : Int) := Int.le_refl _
    have CZ' := CZ (Nat.le_refl _)
    rw [List.take_length] at CZ'
    clear CZ
    generalize ByteArray.mk (encR X).toArray = s1 at *
    generalize (encR X).length = z1 at *
    go_wp2_with fail
    go_quiet (fail)
    go_wp2_with fail
    refine (known_any _).mono ?_
    rintro e w8 ⟨rfl, hb8⟩
    go_wp2_with fail
    go_ret
    exact ⟨rfl, (below_drewN B7 nq).trans (hb8.mono B7.size)⟩
  · have hc : (cmpR X Y == 0) = false := by
      rw [beq_eq_false_iff_ne]
      exact fun h => he ((cmpR_zero X Y).1 h)
    have hne : ((ByteArray.mk (encR X).toArray).toList == (ByteArray.mk (encR Y).toArray).toList) = false := by
      rw [beq_eq_false_iff_ne]
      intro h
      rw [Lib.toList_data, Lib.toList_data] at h
      exact he (INJ.out [] (by rw [List.append_nil]; exact h))
    by_cases hle0 : (encR X).length ≤ (encR Y).length
    · have hle : ((encR X).length : Int) ≤ ((encR Y).length : Int) := by omega
      have hle2 : ((encR X).length : Int) ≤ (k4 : Int) := by omega
      have CZ' := CZ hle0
      have hnz : ((ByteArray.mk ((encR Y).take (encR X).length).toArray).toList == (ByteArray.mk (encR X).toArray).toList) = false := by
        rw [beq_eq_false_iff_ne]
        intro h
        rw [Lib.toList_data, Lib.toList_data] at h
        have h : (encR Y).take (encR X).length = encR X := h
        have h3 := List.take_append_drop (encR X).length (encR Y)
        rw [h] at h3
        exact he (INJ.out _ h3)
      clear CZ hle0
      generalize cmpR X Y = r at *
      generalize ByteArray.mk ((encR Y).take (encR X).length).toArray = s3 at *
      generalize ByteArray.mk (encR X).toArray = s1 at *
      generalize ByteArray.mk (encR Y).toArray = s2 at *
      generalize (encR X).length = z1 at *
      generalize (encR Y).length = z2 at *
      go_wp2_with fail
      go_quiet (fail)
      go_wp2_with fail
      refine (known_any _).mono ?_
      rintro e w8 ⟨rfl, hb8⟩
      go_wp2_with fail
      go_ret
      exact ⟨rfl, (below_drewN B7 nq).trans (hb8.mono B7.size)⟩
    · clear CZ
      generalize cmpR X Y = r at *
      generalize ByteArray.mk (encR X).toArray = s1 at *
      generalize ByteArray.mk (encR Y).toArray = s2 at *
      generalize (encR X).length = z1 at *
      generalize (encR Y).length = z2 at *
      go_wp2_with fail
      go_quiet (fail)
      go_wp2_with fail
      refine (known_any _).mono ?_
      rintro e w8 ⟨rfl, hb8⟩
      go_wp2_with fail
      go_ret
      exact ⟨rfl, (below_drewN B7 nq).trans (hb8.mono B7.size)⟩

end Go.Proofs.Ytnmlbafhdnffgaa
