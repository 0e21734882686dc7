/-
  The laws SchemaFinds and SchemaValidates: walks.
-/
import Derived.Test.YtdlkkajkflebgaaSKnown
import Derived.Test.YtdlkkajkflebgaaSCols
import Derived.Test.YtdlkkajkflebgaaSValid
set_option linter.unusedVariables false
namespace Go.Proofs.Ytdlkkajkflebgaa
open Go.RowKit Wh

set_option maxHeartbeats 2000000 in
theorem finds_walk (w : World) (a : Option Addr) (len cap : Nat) (cs : List C) (hc : IsCols w a len cs) (hl : len ≤ cap) (hm : cap ≤ maxLen) (_ : a = none → cap = 0) (s : ByteArray) (_ : s.size ≤ maxLen)
    (a2 : Option Addr) (len2 cap2 : Nat) (zs : List Int) (hz : IsInts w a2 len2 zs) (hl2 : len2 ≤ cap2) (hm2 : cap2 ≤ maxLen) (_ : ∀ z ∈ zs, -9223372036854775808 ≤ z ∧ z ≤ 9223372036854775807)
    (n : Int) (_ : -9223372036854775808 ≤ n) (_ : n ≤ 9223372036854775807) :
    Calls Try.prog 5 #[.slice a len cap, .string s, .slice a2 len2 cap2, .int .i64 n] w fun e w' => e = .returned (.bool true) ∧ Below w.heap.size w w' := by
  have hmm : maxLen = 9223372036854775807 := rfl
  by_cases h100 : 100 < len
  · clear hc hl hm hz hl2 hm2
    go_enter Try.func5, Try.ntmps5
    go_wp2_with (go_at_call 10; refine (known_any _).mono ?_; rintro e w' ⟨rfl, hb⟩)
    go_ret
    exact ⟨rfl, hb⟩
  · have b7 := and_7
    have b15 := and_15
    obtain ⟨N, hN, hN7⟩ : ∃ N : Nat, n % 8 = N ∧ N ≤ 7 := ⟨(n % 8).toNat, by omega, by omega⟩
    have ccol := columns_any a2 len2 cap2 zs N (by omega) w hz (by omega)
    have c1 := fun W (h : Below w.heap.size w W) => index_any5 a len cap cs s W (hc.below h (Nat.le_refl _)) (by omega)
    have c2 := fun W (h : Below w.heap.size w W) => rindex_any5 a len cap cs s W (hc.below h (Nat.le_refl _)) (by omega)
    have hlen := colL_length zs N
    generalize idxC cs s = r1 at *
    generalize colL zs N = xs at *
    have CC := Lib.hid ccol
    have C1 := Lib.hid c1
    have C2 := Lib.hid c2
    have HL := Lib.hid hlen
    clear ccol c1 c2 hc hz hlen
    have hw8 : IntKind.u8.wrap (97 + n / 8 % 16) = 97 + n / 8 % 16 := by rw [IntKind.wrap_u8]; omega
    have cv := fun W => conv_chr W (97 + n / 8 % 16) (by omega) (by omega)
    generalize chrZ (97 + n / 8 % 16) = t at *
    have CV := Lib.hid cv
    clear cv
    go_enter Try.func5, Try.ntmps5
    go_wp2_with fail
    refine CC.out.mono ?_
    rintro e w1 ⟨sv, rfl, hown, hb1⟩
    rw [HL.out] at hown
    obtain ⟨a3, cap3, rfl, hx, hx1, hx2, _⟩ := own_cols hown HL.out
    have hs1 := hb1.size
    have c3 := fun W (h : Below w1.heap.size w1 W) => index_any5 a3 N cap3 xs t W (hx.below h (Nat.le_refl _)) (by omega)
    have c4 := fun W (h : Below w1.heap.size w1 W) => rindex_any5 a3 N cap3 xs t W (hx.below h (Nat.le_refl _)) (by omega)
    generalize idxC xs t = r2 at *
    have C3 := Lib.hid c3
    have C4 := Lib.hid c4
    have cv := CV.out w1
    have p0 : Below w1.heap.size w1 (w1.alloc (.cells #[.int .u8 (97 + n / 8 % 16)] 5)) := (Below.refl _ _).alloc (Nat.le_refl _) _
    clear c3 c4 hx hown CC CV
    go_wp2_with (first | (go_at_call_of 19 (Value.string s); refine (C1.out _ (hb1.trans (p0.mono hs1))).mono ?_; rintro e w2 ⟨rfl, h2⟩; have p2 := p0.trans (h2.mono p0.size)) |
      (go_at_call_of 20 (Value.string s); refine (C2.out _ (hb1.trans (p2.mono hs1))).mono ?_; rintro e w9 ⟨rfl, rfl⟩) |
      (go_at_call_of 19 (Value.string t); refine (C3.out _ p2).mono ?_; rintro e w3 ⟨rfl, h3⟩; have p3 := p2.trans (h3.mono p2.size)) |
      (go_at_call_of 20 (Value.string t); refine (C4.out _ p3).mono ?_; rintro e w9 ⟨rfl, rfl⟩) |
      (go_at_call 10; refine (known_any _).mono ?_; rintro e w4 ⟨rfl, h4⟩; have p4 := p3.trans (h4.mono p3.size)))
    go_ret
    exact ⟨rfl, hb1.trans (p4.mono hs1)⟩

set_option maxHeartbeats 2000000 in
theorem valids_walk (w : World) (a : Option Addr) (len cap : Nat) (cs : List C) (hc : IsCols w a len cs) (hl : len ≤ cap) (hm : cap ≤ maxLen) (_ : a = none → cap = 0)
    (a2 : Option Addr) (len2 cap2 : Nat) (zs : List Int) (hz : IsInts w a2 len2 zs) (hl2 : len2 ≤ cap2) (hm2 : cap2 ≤ maxLen) (_ : ∀ z ∈ zs, -9223372036854775808 ≤ z ∧ z ≤ 9223372036854775807)
    (n : Int) (_ : -9223372036854775808 ≤ n) (_ : n ≤ 9223372036854775807) :
    Calls Try.prog 4 #[.slice a len cap, .slice a2 len2 cap2, .int .i64 n] w fun e w' => e = .returned (.bool true) ∧ Below w.heap.size w w' := by
  have hmm : maxLen = 9223372036854775807 := rfl
  by_cases h100 : 100 < len
  · clear hc hl hm hz hl2 hm2
    go_enter Try.func4, Try.ntmps4
    go_wp2_with (go_at_call 10; refine (known_any _).mono ?_; rintro e w' ⟨rfl, hb⟩)
    go_ret
    exact ⟨rfl, hb⟩
  · have b15 := and_15
    obtain ⟨N, hN, hN15⟩ : ∃ N : Nat, n % 16 = N ∧ N ≤ 15 := ⟨(n % 16).toNat, by omega, by omega⟩
    have ccol := columns_any a2 len2 cap2 zs N (by omega) w hz (by omega)
    have c1 := fun W (h : Below w.heap.size w W) => validate_any5 a len cap cs W (hc.below h (Nat.le_refl _)) hl (by omega)
    have c2 := fun W (h : Below w.heap.size w W) => rvalidate_any5 a len cap cs W (hc.below h (Nat.le_refl _)) hl (by omega)
    have hlen := colL_length zs N
    generalize valE cs = r1 at *
    generalize colL zs N = xs at *
    have CC := Lib.hid ccol
    have C1 := Lib.hid c1
    have C2 := Lib.hid c2
    have HL := Lib.hid hlen
    clear ccol c1 c2 hc hz hlen
    go_enter Try.func4, Try.ntmps4
    go_wp2_with fail
    refine CC.out.mono ?_
    rintro e w1 ⟨sv, rfl, hown, hb1⟩
    rw [HL.out] at hown
    obtain ⟨a3, cap3, rfl, hx, hx1, hx2, _⟩ := own_cols hown HL.out
    have hs1 := hb1.size
    have c3 := fun W (h : Below w1.heap.size w1 W) => validate_any5 a3 N cap3 xs W (hx.below h (Nat.le_refl _)) hx1 (by omega)
    have c4 := fun W (h : Below w1.heap.size w1 W) => rvalidate_any5 a3 N cap3 xs W (hx.below h (Nat.le_refl _)) hx1 (by omega)
    generalize valE xs = r2 at *
    have C3 := Lib.hid c3
    have C4 := Lib.hid c4
    have p0 : Below w1.heap.size w1 w1 := Below.refl _ _
    clear c3 c4 hx hown CC
    go_wp2_with (first | (go_at_call_of 17 (Value.slice a len cap); refine (C1.out _ hb1).mono ?_; rintro e w2 ⟨rfl, h2⟩; have p2 := p0.trans (h2.mono p0.size)) |
      (go_at_call_of 18 (Value.slice a len cap); refine (C2.out _ (hb1.trans (p2.mono hs1))).mono ?_; rintro e w9 ⟨rfl, rfl⟩) |
      (go_at_call_of 17 (Value.slice a3 N cap3); refine (C3.out _ p2).mono ?_; rintro e w3 ⟨rfl, h3⟩; have p3 := p2.trans (h3.mono p2.size)) |
      (go_at_call_of 18 (Value.slice a3 N cap3); refine (C4.out _ p3).mono ?_; rintro e w9 ⟨rfl, rfl⟩) |
      (go_at_call 10; refine (known_any _).mono ?_; rintro e w4 ⟨rfl, h4⟩; have p4 := p3.trans (h4.mono p3.size)))
    go_ret
    exact ⟨rfl, hb1.trans (p4.mono hs1)⟩

end Go.Proofs.Ytdlkkajkflebgaa
