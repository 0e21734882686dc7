/-
  The law ValueEncodes: value.Encode returns the encoding that the document says, or its error.
-/
import Derived.Test.YtnmlbafhdnffgaaRow
import Derived.Test.YtnmlbafhdnffgaaRef
set_option linter.unusedVariables false
namespace Go.Proofs.Ytnmlbafhdnffgaa
open Go.RowKit Wh

theorem IsVals.below {w w' : World} {a : Option Addr} {len B : Nat} {vs : List V} (h : IsVals w a len vs) (hb : Below B w w') (hB : w.heap.size ≤ B) : IsVals w' a len vs := by
  obtain ⟨h1, h2⟩ := h
  refine ⟨h1, ?_⟩
  rcases h2 with h2 | ⟨b, off, ha, hlt, hc⟩
  · exact .inl h2
  · exact .inr ⟨b, off, ha, by have := hb.size; omega, hc.below hb (by omega)⟩

/-- An encoding that was made earlier is still there. -/
theorem bytes_later {w1 w2 : World} {base : Nat} {bv : Value} {l : List UInt8} (h : w1.ownsRow base 5 1 bv l.length (l.map B)) (hb : Below w1.heap.size w1 w2) :
    (convert 37 9 bv).run Try.prog w2 = .ok (.string ⟨l.toArray⟩) w2 := own_string (own_below h hb)

set_option maxHeartbeats 1000000 in
theorem encodes_walk (w0 : World) (a : Option Addr) (len cap : Nat) (vs : List V) (hvs : IsVals w0 a len vs) (hl : len ≤ cap) (hcap : cap ≤ maxLen)
    (a' : Option Addr) (len' cap' : Nat) (zs : List Int) (hzs : IsInts w0 a' len' zs) (hl' : len' ≤ cap') (hcap' : cap' ≤ maxLen) (n : Int) (h0 : -9223372036854775808 ≤ n) (h1 : n ≤ 9223372036854775807) :
    Calls Try.prog 7 #[.slice a len cap, .slice a' len' cap', .int .i64 n] w0 fun e w' => e = .returned (.bool true) ∧ Below w0.heap.size w0 w' := by
  simp only [maxLen] at hcap hcap'
  have q1 : len ≤ 9223372036854775807 := by omega
  have q2 : len' ≤ 9223372036854775807 := by omega
  have HV := Lib.hid hvs
  have HZ := Lib.hid hzs
  clear hvs hzs
  by_cases h100 : 100 < len
  · have hd : decide (100 < (len : Int)) = true := by simp; omega
    go_enter Try.func7, Try.ntmps7
    go_wp2_with fail
    refine (known_any _).mono ?_
    rintro e w1 ⟨rfl, hb1⟩
    go_wp2_with fail
    go_ret
    exact ⟨rfl, hb1⟩
  · have hd : decide (100 < (len : Int)) = false := by simp; omega
    have b1 := and_15
    obtain ⟨m, hm⟩ : ∃ m : Nat, n % 16 = (m : Int) := ⟨(n % 16).toNat, by omega⟩
    have hm16 : m ≤ 100 := by omega
    go_enter Try.func7, Try.ntmps7
    go_wp2_with fail
    refine (encode_any _ _ _ vs _ HV.out q1).mono ?_
    rintro e w1 ⟨bv1, rfl, o1, hb1⟩
    generalize hout : encOut vs = out at o1 ⊢
    have HO := Lib.hid hout
    clear hout
    obtain ⟨l1, e1⟩ := out
    have O1 := Lib.hid o1
    clear o1
    go_wp2_with fail
    have r2 := rencode_any a len cap vs w1 (HV.out.below hb1 (Nat.le_refl _)) q1
    rw [HO.out] at r2
    refine r2.mono ?_
    clear r2
    rintro e w2 ⟨bv2, rfl, o2, hb2⟩
    have O2 := Lib.hid o2
    clear o2
    have B2 : Below w0.heap.size w0 w2 := hb1.trans (hb2.mono hb1.size)
    go_wp2_with fail
    refine (row_any _ _ _ zs m hm16 _ (HZ.out.below B2 (Nat.le_refl _)) q2).mono ?_
    rintro e w3 ⟨sv3, rfl, o3, hb3⟩
    have B3 : Below w0.heap.size w0 w3 := B2.trans (hb3.mono B2.size)
    obtain ⟨a3, c3, rfl, hv3, _⟩ := own_vals o3 (rowV_length zs m)
    have HV3 := Lib.hid hv3
    clear o3 hv3
    go_wp2_with fail
    refine (encode_any _ _ _ _ _ HV3.out (by omega)).mono ?_
    rintro e w4 ⟨bv4, rfl, o4, hb4⟩
    have B4 : Below w0.heap.size w0 w4 := B3.trans (hb4.mono B3.size)
    generalize hout2 : encOut (rowV zs m) = out2 at o4 ⊢
    have HO2 := Lib.hid hout2
    clear hout2
    obtain ⟨l4, e4⟩ := out2
    have O4 := Lib.hid o4
    clear o4
    go_wp2_with fail
    refine (row_any _ _ _ zs m hm16 _ (HZ.out.below B4 (Nat.le_refl _)) q2).mono ?_
    rintro e w5 ⟨sv5, rfl, o5, hb5⟩
    have B5 : Below w0.heap.size w0 w5 := B4.trans (hb5.mono B4.size)
    obtain ⟨a5, c5, rfl, hv5, _⟩ := own_vals o5 (rowV_length zs m)
    have HV5 := Lib.hid hv5
    clear o5 hv5
    go_wp2_with fail
    have r6 := rencode_any a5 m c5 (rowV zs m) w5 HV5.out (by omega)
    rw [HO2.out] at r6
    refine r6.mono ?_
    clear r6
    rintro e w6 ⟨bv6, rfl, o6, hb6⟩
    have B6 : Below w0.heap.size w0 w6 := B5.trans (hb6.mono B5.size)
    have s12 := hb2.size
    have s23 := hb3.size
    have s34 := hb4.size
    have s45 := hb5.size
    have cv1 := bytes_later O1.out (((hb2.trans (hb3.mono s12)).trans ((hb4.mono (by omega)).trans ((hb5.mono (by omega)).trans (hb6.mono (by omega))))))
    have cv2 := bytes_later O2.out ((hb3.trans ((hb4.mono (by omega)).trans ((hb5.mono (by omega)).trans (hb6.mono (by omega))))))
    have cv4 := bytes_later O4.out (hb5.trans (hb6.mono (by omega)))
    have cv6 := own_string o6
    clear o6
    go_wp2_with fail
    refine (known_any _).mono ?_
    rintro e w7 ⟨rfl, hb7⟩
    go_wp2_with fail
    go_ret
    exact ⟨rfl, B6.trans (hb7.mono B6.size)⟩

end Go.Proofs.Ytnmlbafhdnffgaa
