/-
  The law ValueDecodes: decoding any bytes, and an encoding with one byte changed, gives what the document says.
-/
import Derived.Test.YtnmlbafhdnffgaaRDecode
import Derived.Test.YtnmlbafhdnffgaaTrips
set_option linter.unusedVariables false
namespace Go.Proofs.Ytnmlbafhdnffgaa
open Go.RowKit Wh

theorem readR_len : ∀ {n : Nat} {l : List UInt8} {vs : List V}, readR n l = some vs → vs.length = n
  | 0, l, vs, h => by
    simp only [readR] at h
    split at h
    · simp only [Option.some.injEq] at h; subst h; rfl
    · cases h
  | n + 1, l, vs, h => by
    simp only [readR] at h
    split at h
    · cases h
    · split at h
      · cases h
      · rename_i us hu
        simp only [Option.some.injEq] at h
        subst h
        rw [List.length_cons, readR_len hu]

theorem decOut_len (l : List UInt8) : (decOut l).1.length ≤ 12 := by
  cases l with
  | nil => simp [decOut]
  | cons n r =>
    simp only [decOut]
    split
    · simp
    · split
      · simp
      · rename_i vs h
        show vs.length ≤ 12
        rw [readR_len h]
        omega

theorem xor_u8 (x y : UInt8) : bits .xor .u8 (x.toNat : Int) (y.toNat : Int) = ((x ^^^ y).toNat : Int) := by
  have h1 : (BitVec.ofInt 8 (x.toNat : Int)).toNat = x.toNat := by
    rw [BitVec.ofInt_natCast, BitVec.toNat_ofNat]
    exact Nat.mod_eq_of_lt x.toNat_lt
  have h2 : (BitVec.ofInt 8 (y.toNat : Int)).toNat = y.toNat := by
    rw [BitVec.ofInt_natCast, BitVec.toNat_ofNat]
    exact Nat.mod_eq_of_lt y.toNat_lt
  show IntKind.u8.wrap ((BitVec.ofInt 8 (x.toNat : Int) ^^^ BitVec.ofInt 8 (y.toNat : Int)).toNat : Int) = _
  rw [BitVec.toNat_xor, h1, h2, IntKind.wrap_u8, UInt8.toNat_xor]
  have := Nat.xor_lt_two_pow x.toNat_lt y.toNat_lt
  omega

theorem encR_len {vs : List V} (h : ∀ v, v ∈ vs → validB v.k v.n v.s = true) : (encR vs).length ≤ 1 + 66 * vs.length := by
  unfold encR
  rw [List.length_cons]
  have := flat_len h
  omega

theorem own_block {w : World} {base : Nat} {g cap n : Nat} {xs : List Value} (h : w.ownsRow base 5 1 (.slice (some ⟨g, 0, none⟩) n cap) n xs) : base ≤ g ∧ g < w.heap.size := h.lt g rfl

theorem own_is {w : World} {base : Nat} {g c z : Nat} {l : List UInt8} (h : w.ownsRow base 5 1 (.slice (some ⟨g, 0, none⟩) z c) z (l.map B)) (hz : l.length = z) : IsBytes w (some ⟨g, 0, none⟩) z l := by
  refine ⟨hz, .inr ⟨g, 0, rfl, (own_block h).2, fun i x hx => ?_⟩⟩
  have hadd : (⟨g, 0, none⟩ : Addr).add i = ⟨g, 0 + i, none⟩ := by unfold Addr.add; split <;> simp_all
  have c := h.cells (g := g) rfl i (B x) (by simp [hx])
  rw [hadd] at c
  exact c

set_option maxHeartbeats 4000000 in
theorem decodes_walk (w : World) (a0 : Option Addr) (len0 cap0 : Nat) (l : List UInt8) (h0 : IsBytes w a0 len0 l) (hl0 : len0 ≤ cap0) (hm0 : cap0 ≤ maxLen)
    (a1 : Option Addr) (len1 cap1 : Nat) (xs : List Int) (h1 : IsInts w a1 len1 xs) (hl1 : len1 ≤ cap1) (hm1 : cap1 ≤ maxLen)
    (n : Int) (n0 : -9223372036854775808 ≤ n) (n9 : n ≤ 9223372036854775807) (at_ : Int) (t0 : -9223372036854775808 ≤ at_) (t9 : at_ ≤ 9223372036854775807) (by_ : Int) (y0 : 0 ≤ by_) (y9 : by_ ≤ 255) :
    Calls Try.prog 8 #[.slice a0 len0 cap0, .slice a1 len1 cap1, .int .i64 n, .int .i64 at_, .int .u8 by_] w fun e w' => e = .returned (.bool true) ∧ Below w.heap.size w w' := by
  simp only [maxLen] at hm0 hm1
  have q0 : cap0 ≤ 9223372036854775807 := by omega
  have q1 : len1 ≤ 9223372036854775807 := by omega
  have HB := Lib.hid h0
  have HX := Lib.hid h1
  clear h0 h1
  by_cases hbig : 2000 < len0
  · have hd : decide (2000 < (len0 : Int)) = true := by simp; omega
    go_enter Try.func8, Try.ntmps8
    go_wp2_with fail
    refine (known_any _).mono ?_
    rintro e w1 ⟨rfl, hb1⟩
    go_wp2_with fail
    go_ret
    exact ⟨rfl, hb1⟩
  · have hd : decide (2000 < (len0 : Int)) = false := by simp; omega
    clear hbig
    obtain ⟨yb, rfl⟩ : ∃ yb : UInt8, by_ = (yb.toNat : Int) := ⟨UInt8.ofNat by_.toNat, by rw [byte_toNat (by omega)]; omega⟩
    have b7 := and_7
    have b16 := and_65535
    have tt0 : 0 ≤ at_ % 65536 := by omega
    have tt1 : at_ % 65536 < 65536 := by omega
    obtain ⟨m, hm⟩ : ∃ m : Nat, n % 8 = (m : Int) := ⟨(n % 8).toNat, by omega⟩
    have hm7 : m ≤ 7 := by omega
    go_enter Try.func8, Try.ntmps8
    go_wp2_with fail
    refine (row_any _ _ _ xs m (by omega) _ HX.out q1).mono ?_
    rintro e w1 ⟨sv1, rfl, o1, hb1⟩
    obtain ⟨a3, c3, rfl, v3, _⟩ := own_vals o1 (rowV_length xs m)
    have x1 := valid_all (rowV_valid xs m)
    have x2 := rowV_length xs m
    have ex := encOut_enc x1 (by omega)
    have el := encR_len x1
    generalize rowV xs m = X at *
    have px : 0 < (encR X).length := by simp [encR]
    have V3 := Lib.hid v3
    clear o1 v3 x1
    go_wp2_with fail
    have k3 := rencode_any a3 m c3 X w1 V3.out (by omega)
    rw [ex] at k3
    refine k3.mono ?_
    clear k3
    rintro e w2 ⟨bv, rfl, o2, hb2⟩
    have o2 : w2.ownsRow w1.heap.size 5 1 bv (encR X).length ((encR X).map B) := o2
    obtain ⟨g, c, rfl, _, hc3, hm3⟩ := own_bytes o2 px
    generalize encR X = E at *
    obtain ⟨z, hz⟩ : ∃ z, E.length = z := ⟨_, rfl⟩
    have B2 := hb1.trans (hb2.mono hb1.size)
    have g1 := (own_block o2).1
    have s1 := hb1.size
    have hgz : w.heap.size ≤ g := by omega
    obtain ⟨j, hj⟩ : ∃ j : Nat, at_ % 65536 % (z : Int) = (j : Int) := ⟨(at_ % 65536 % (z : Int)).toNat, (Int.toNat_of_nonneg (Int.emod_nonneg _ (by omega))).symm⟩
    have hjz : (j : Int) < z := by rw [← hj]; exact Int.emod_lt_of_pos _ (by omega)
    have hjl : j < E.length := by omega
    obtain ⟨xb, hxb⟩ : ∃ xb, E[j]? = some xb := ⟨_, List.getElem?_eq_getElem hjl⟩
    have cj : w2.cell? ⟨g, j, none⟩ = some (.int .u8 xb.toNat) := by
      rw [o2.cellAt j (by omega), List.getElem?_map, hxb]
      rfl
    have fj := o2.frozenAt j
    have hxor := xor_u8 xb yb
    have o3 := (o2.stored j (.int .u8 (xb ^^^ yb).toNat)).1
    have eset : (E.map B).set j (.int .u8 (xb ^^^ yb).toNat) = (E.set j (xb ^^^ yb)).map B := by rw [List.map_set]; rfl
    rw [eset] at o3
    have hz2 : (E.set j (xb ^^^ yb)).length = z := by rw [List.length_set]; exact hz
    have hzc : z ≤ c := by omega
    have hz1 : 1 ≤ z := by omega
    rw [hz] at o3 ⊢
    have O3 := Lib.hid o3
    generalize E.set j (xb ^^^ yb) = C at *
    have b1 := xb.toNat_lt
    have b2 := yb.toNat_lt
    generalize (xb ^^^ yb).toNat = xy at *
    generalize xb.toNat = xn at *
    generalize yb.toNat = yn at *
    have hz3 : ((z : Int) == 0) = false := by simp; omega
    have hz4 : ¬ (z : Int) = 0 := by omega
    clear o2 o3 hb1 hb2 ex el x2 V3 eset hxb hjl px
    go_wp2_with fail
    have B3 : Below w.heap.size w (w2.setCell ⟨g, j, none⟩ (.int .u8 xy)) := B2.setCell hgz _
    have I3 := own_is O3.out hz2
    generalize w2.setCell ⟨g, j, none⟩ (.int .u8 xy) = w3 at *
    have J3 := Lib.hid I3
    clear O3 I3 hz2 B2 cj fj
    have ll := decOut_len l
    have lc := decOut_len C
    have k4 := decode_any a0 len0 cap0 l w3 (HB.out.below B3 (Nat.le_refl _)) hl0 q0
    have k5 := fun W (hB : Below w.heap.size w W) => rDecode_any a0 len0 cap0 l W (HB.out.below hB (Nat.le_refl _)) hl0 q0
    have k6 := fun W (hB : Below w3.heap.size w3 W) => decode_any (some ⟨g, 0, none⟩) z c C W (J3.out.below hB (Nat.le_refl _)) (by omega) (by omega)
    have k7 := fun W (hB : Below w3.heap.size w3 W) => rDecode_any (some ⟨g, 0, none⟩) z c C W (J3.out.below hB (Nat.le_refl _)) (by omega) (by omega)
    generalize decOut l = ol at *
    generalize decOut C = oc at *
    obtain ⟨vl, el⟩ := ol
    obtain ⟨vc, ec⟩ := oc
    have ll : vl.length ≤ 12 := ll
    have lc : vc.length ≤ 12 := lc
    have K5 := Lib.hid k5
    have K6 := Lib.hid k6
    have K7 := Lib.hid k7
    clear k5 k6 k7
    refine k4.mono ?_
    clear k4
    rintro e w4 ⟨sv4, rfl, o4, hb4⟩
    obtain ⟨a4, c4, rfl, v4, _⟩ := own_vals o4 rfl
    have V4 := Lib.hid v4
    clear o4 v4
    have s3 := B3.size
    have B4 := B3.trans (hb4.mono s3)
    go_wp2_with fail
    refine (K5.out w4 B4).mono ?_
    rintro e w5 ⟨sv5, rfl, o5, hb5⟩
    obtain ⟨a5, c5, rfl, v5, _⟩ := own_vals o5 rfl
    have V5 := Lib.hid v5
    clear o5 v5
    have s4 := hb4.size
    have s5 := hb5.size
    have b35 := hb4.trans (hb5.mono s4)
    go_wp2_with fail
    refine (K6.out w5 b35).mono ?_
    rintro e w6 ⟨sv6, rfl, o6, hb6⟩
    obtain ⟨a6, c6, rfl, v6, _⟩ := own_vals o6 rfl
    have V6 := Lib.hid v6
    clear o6 v6
    have s6 := hb6.size
    have b36 := b35.trans (hb6.mono (by omega))
    go_wp2_with fail
    refine (K7.out w6 b36).mono ?_
    rintro e w7 ⟨sv7, rfl, o7, hb7⟩
    obtain ⟨a7, c7, rfl, v7, _⟩ := own_vals o7 rfl
    have V7 := Lib.hid v7
    clear o7 v7
    have s7 := hb7.size
    have b67 := hb7
    have b57 := hb6.trans (hb7.mono s6)
    have b47 := hb5.trans (b57.mono s5)
    have b37 := b36.trans (hb7.mono (by omega))
    have B7 := B3.trans (b37.mono s3)
    have W4 := Lib.hid (V4.out.below b47 (Nat.le_refl _))
    have W5 := Lib.hid (V5.out.below b57 (Nat.le_refl _))
    have W6 := Lib.hid (V6.out.below b67 (Nat.le_refl _))
    have W7 := V7
    clear V4 V5 V6 hb4 hb5 hb6 hb7 b35 b36 b67 b57 b47 b37 K5 K6 K7 B3 B4
    have S1 := fun W (hB : Below w7.heap.size w7 W) => same_any _ _ c4 _ _ _ c5 _ W (W4.out.below hB (Nat.le_refl _)) (W5.out.below hB (Nat.le_refl _)) (by show vl.length ≤ _; omega) (by show vl.length ≤ _; omega)
    have S2 := fun W (hB : Below w7.heap.size w7 W) => same_any _ _ c6 _ _ _ c7 _ W (W6.out.below hB (Nat.le_refl _)) (W7.out.below hB (Nat.le_refl _)) (by show vc.length ≤ _; omega) (by show vc.length ≤ _; omega)
    simp only [cmpR_self, beq_self_eq_true] at S1 S2
    have T1 := Lib.hid S1
    have T2 := Lib.hid S2
    clear S1 S2 W4 W5 W6 W7
    go_wp2_with fail
    refine (T1.out w7 (Below.refl _ _)).mono ?_
    rintro e w8 ⟨rfl, hb8⟩
    go_wp2_with fail
    refine (T2.out w8 hb8).mono ?_
    rintro e w9 ⟨rfl, hb9⟩
    go_wp2_with fail
    refine (known_any _).mono ?_
    rintro e w10 ⟨rfl, hb10⟩
    go_wp2_with fail
    go_ret
    have s8 := hb8.size
    have s9 := hb9.size
    exact ⟨rfl, ((B7.trans (hb8.mono B7.size)).trans (hb9.mono (by omega))).trans (hb10.mono (by omega))⟩

end Go.Proofs.Ytnmlbafhdnffgaa
