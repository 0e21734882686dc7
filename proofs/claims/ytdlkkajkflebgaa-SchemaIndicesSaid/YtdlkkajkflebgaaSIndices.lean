/-
  The law SchemaIndices: walk.
-/
import Derived.Test.YtdlkkajkflebgaaSKnown
import Derived.Test.YtdlkkajkflebgaaSCols
import Derived.Test.YtdlkkajkflebgaaSInd
import Derived.Test.YtdlkkajkflebgaaSSame
set_option linter.unusedVariables false
namespace Go.Proofs.Ytdlkkajkflebgaa
open Go.RowKit Wh

/-- A slice that owns texts has these texts. -/
theorem own_strs {w : World} {base n : Nat} {v : Value} {ss : List ByteArray} (h : w.ownsRow base 9 1 v n (ss.map Value.string)) :
    ∃ a cap, v = .slice a n cap ∧ IsStrs w a n ss ∧ n ≤ cap ∧ cap ≤ maxLen ∧ (a = none → cap = 0) := by
  have hl : ss.length = n := by have := h.1; simpa using this
  rcases h.2 with ⟨rfl, rfl⟩ | ⟨g, cap, cur, rfl, hb, hg, hn, hm, hs, ht⟩
  · exact ⟨none, 0, rfl, ⟨hl, .inl (List.eq_nil_of_length_eq_zero hl)⟩, Nat.le_refl _, Nat.zero_le _, fun _ => rfl⟩
  · have hlt : g < w.heap.size := (h.lt g rfl).2
    refine ⟨some ⟨g, 0, none⟩, cap, rfl, ⟨hl, .inr ⟨g, 0, rfl, hlt, fun i z hz => ?_⟩⟩, hn, hm, fun hx => (by cases hx)⟩
    have h1 := h.cells (g := g) rfl i (.string z) (by simp [hz])
    have hadd : (⟨g, 0, none⟩ : Addr).add i = ⟨g, 0 + i, none⟩ := by unfold Addr.add; split <;> simp_all
    rw [hadd] at h1
    exact h1

theorem allL_ints (l : List Int) : allL (fun x y => decide (x = y)) l l = true := allL_refl l fun c => by simp

set_option maxHeartbeats 4000000 in
theorem indices_walk (w : World) (a : Option Addr) (len cap : Nat) (cs : List C) (hc : IsCols w a len cs) (hl : len ≤ cap) (hm : cap ≤ maxLen) (_ : a = none → cap = 0)
    (a1 : Option Addr) (len1 cap1 : Nat) (ss : List ByteArray) (hss : IsStrs w a1 len1 ss) (hl1 : len1 ≤ cap1) (hm1 : cap1 ≤ maxLen) (_ : a1 = none → cap1 = 0)
    (a2 : Option Addr) (len2 cap2 : Nat) (zs : List Int) (hz : IsInts w a2 len2 zs) (hl2 : len2 ≤ cap2) (hm2 : cap2 ≤ maxLen) (_ : ∀ z ∈ zs, -9223372036854775808 ≤ z ∧ z ≤ 9223372036854775807)
    (n : Int) (_ : -9223372036854775808 ≤ n) (_ : n ≤ 9223372036854775807) :
    Calls Try.prog 7 #[.slice a len cap, .slice a1 len1 cap1, .slice a2 len2 cap2, .int .i64 n] w fun e w' => e = .returned (.bool true) ∧ Below w.heap.size w w' := by
  have hmm : maxLen = 9223372036854775807 := rfl
  by_cases h50 : 50 < len
  · clear hc hl hm hz hl2 hm2 hss hl1 hm1
    go_enter Try.func7, Try.ntmps7
    go_wp2_with (go_at_call 10; refine (known_any _).mono ?_; rintro e w' ⟨rfl, hb⟩)
    go_ret
    exact ⟨rfl, hb⟩
  by_cases h51 : 50 < len1
  · clear hc hl hm hz hl2 hm2 hss hl1 hm1
    go_enter Try.func7, Try.ntmps7
    go_wp2_with (go_at_call 10; refine (known_any _).mono ?_; rintro e w' ⟨rfl, hb⟩)
    go_ret
    exact ⟨rfl, hb⟩
  have b7 := and_7
  have b3 := and_3
  obtain ⟨N, hN, hN7⟩ : ∃ N : Nat, n % 8 = N ∧ N ≤ 7 := ⟨(n % 8).toNat, by omega, by omega⟩
  obtain ⟨M, hM, hM3⟩ : ∃ M : Nat, n / 8 % 4 = M ∧ M ≤ 3 := ⟨(n / 8 % 4).toNat, by omega, by omega⟩
  have ccol := columns_any a2 len2 cap2 zs N (by omega) w hz (by omega)
  have c1 := fun W (h : Below w.heap.size w W) => indices_any a len cap cs a1 len1 cap1 ss W (hc.below h (Nat.le_refl _)) (hss.below h (Nat.le_refl _)) (by omega) (by omega) hl1 (by omega)
  have c2 := fun W (h : Below w.heap.size w W) => rindices_any a len cap cs a1 len1 cap1 ss W (hc.below h (Nat.le_refl _)) (hss.below h (Nat.le_refl _)) (by omega) (by omega) hl1 (by omega)
  have hlen := colL_length zs N
  generalize indOut cs ss = o1 at *
  obtain ⟨l1, e1⟩ := o1
  generalize colL zs N = xs at *
  have CC := Lib.hid ccol
  have C1 := Lib.hid c1
  have C2 := Lib.hid c2
  have HL := Lib.hid hlen
  have HZ := Lib.hid hz
  clear ccol c1 c2 hc hz hlen hss
  obtain ⟨i0, hi, hz0, hz1, hz2⟩ := info_parts info_str
  go_enter Try.func7, Try.ntmps7
  go_wp2_with fail
  refine CC.out.mono ?_
  rintro e w1 ⟨sv, rfl, hown, hb1⟩
  rw [HL.out] at hown
  obtain ⟨a3, cap3, rfl, hx, hx1, hx2, _⟩ := own_cols hown HL.out
  have hs1 := hb1.size
  have HX := Lib.hid hx
  clear hown CC hx
  go_wp2_with fail
  go_loopw [10, 11] (fun sv iv wr => ∃ (k : Nat) (ts : List ByteArray), k ≤ M ∧ ts.length = k ∧ iv = .int .i64 k ∧ wr.ownsRow w1.heap.size 9 1 sv k (ts.map Value.string) ∧ Below w1.heap.size w1 wr) (fun _ i _ => M - (intOf i).toNat)
  case atStart => exact ⟨0, [], Nat.zero_le _, rfl, rfl, World.ownsRow_nil _ _ _ _, Below.refl _ _⟩
  case round =>
    obtain ⟨k, ts, hk, htl, rfl, hown, hbel⟩ := hrel
    have hs := hbel.size
    have HTL := Lib.hid htl
    clear htl
    by_cases hlt : k < M
    · have ca := at_any a2 len2 cap2 zs ((k : Int) + 9) wr (HZ.out.below (hb1.trans (hbel.mono hs1)) (Nat.le_refl _)) (by omega)
      have hab := atZ_bounds zs ((k : Int) + 9)
      generalize atZ zs ((k : Int) + 9) = x at *
      obtain ⟨x0, x1⟩ := hab
      have hw8 : IntKind.u8.wrap (97 + x % 9) = 97 + x % 9 := by rw [IntKind.wrap_u8]; omega
      have cv := fun W => conv_chr W (97 + x % 9) (by omega) (by omega)
      generalize chrZ (97 + x % 9) = t at *
      have CV := Lib.hid cv
      have CA := Lib.hid ca
      have HO := Lib.hid hown
      clear cv ca hown
      go_wp2_with fail
      refine CA.out.mono ?_
      rintro e w2 ⟨rfl, hb2⟩
      have hs2 := hb2.size
      have HO1 := Lib.hid (own_below HO.out hb2)
      have cv := CV.out w2
      have hn2 : ∀ o1 o2, ((w2.alloc o1).alloc o2).heap[w2.heap.size + 1]? = some o2 := fun o1 o2 => by
        have := heap_alloc_new (w2.alloc o1) o2
        rwa [World.size_alloc] at this
      clear HO CV
      go_wp2_with (at_builtin; refine wpList_append_own _ rfl _ _ 24 rfl w1.heap.size 9 i0 _ 1 16 Try.underlying24 hi hz0 hz1 hz2 rfl (by decide) _ _ _ rfl ((HO1.out.alloc _).alloc _) ⟨w2.heap.size + 1, 0, none⟩ 1 1 [.string t] rfl rfl ?c1 ?c2 ?c3 ?c4 ?c5 ?_)
      case c1 => exact World.news_of_block (t := 9) (fr := (0, 0)) (hn2 _ _)
      case c2 => simp [Value.oneCell']
      case c3 => simp [maxLen]; omega
      case c4 => omega
      case c5 => simp; omega
      intro v3 w3 hown3 hgrow _
      have hB : Below w1.heap.size w1 w3 := (((hbel.trans (hb2.mono hs)).alloc (by omega) _).alloc (by simp; omega) _).grown hgrow (by simp; omega) (fun j hj => (HO1.out.lt j hj).1)
      have hown4 : w3.ownsRow w1.heap.size 9 1 v3 (k + 1) ((ts ++ [t]).map Value.string) := by
        rw [List.map_append]
        exact hown3
      clear hown3 hgrow HO1 hn2
      go_wp2_with fail
      go_roundw
      case rel => exact ⟨k + 1, ts ++ [t], by omega, by rw [List.length_append, HTL.out]; rfl, by go_num, hown4, hB⟩
      case measure => simp [intOf]; omega
    · obtain ⟨a4, cap4, rfl, hts, hts1, hts2, _⟩ := own_strs hown
      have c3 := fun W (h : Below wr.heap.size wr W) => indices_any a3 N cap3 xs a4 k cap4 ts W (HX.out.below (hbel.trans (h.mono hs)) (Nat.le_refl _)) (hts.below h (Nat.le_refl _)) (by omega) (by omega) hts1 (by omega)
      have c4 := fun W (h : Below wr.heap.size wr W) => rindices_any a3 N cap3 xs a4 k cap4 ts W (HX.out.below (hbel.trans (h.mono hs)) (Nat.le_refl _)) (hts.below h (Nat.le_refl _)) (by omega) (by omega) hts1 (by omega)
      generalize indOut xs ts = o2 at *
      obtain ⟨l2, e2⟩ := o2
      have C3 := Lib.hid c3
      have C4 := Lib.hid c4
      have hbw := hb1.trans (hbel.mono hs1)
      obtain rfl : k = M := by omega
      clear c3 c4 hown hts HX HTL
      go_wp2_with fail
      refine (C1.out _ hbw).mono ?_
      rintro e w2 ⟨v1, rfl, ho1, h2⟩
      obtain ⟨a5, cap5, rfl, hi1, q1, q2, _, _⟩ := own_ints ho1
      have p2 := h2
      go_wp2_with fail
      refine (C2.out _ (hbw.trans (p2.mono hbw.size))).mono ?_
      rintro e w3 ⟨v2, rfl, ho2, h3⟩
      obtain ⟨a6, cap6, rfl, hi2, q3, q4, _, _⟩ := own_ints ho2
      have p3 := p2.trans (h3.mono p2.size)
      go_wp2_with fail
      refine (C3.out _ p3).mono ?_
      rintro e w4 ⟨v3, rfl, ho3, h4⟩
      obtain ⟨a7, cap7, rfl, hi3, q5, q6, _, _⟩ := own_ints ho3
      have p4 := p3.trans (h4.mono p3.size)
      go_wp2_with fail
      refine (C4.out _ p4).mono ?_
      rintro e w5 ⟨v4, rfl, ho4, h5⟩
      obtain ⟨a8, cap8, rfl, hi4, q7, q8, _, _⟩ := own_ints ho4
      have p5 := p4.trans (h5.mono p4.size)
      have i1 := hi1.below ((h3.trans (h4.mono h3.size)).trans (h5.mono (Nat.le_trans h3.size h4.size))) (Nat.le_refl _)
      have i2 := hi2.below (h4.trans (h5.mono h4.size)) (Nat.le_refl _)
      have i3 := hi3.below h5 (Nat.le_refl _)
      have d1 := ints_any a5 l1.length cap5 l1 a6 l1.length cap6 l1 w5 i1 i2 (by omega) (by omega)
      have d2 := fun W (h : Below w5.heap.size w5 W) => ints_any a7 l2.length cap7 l2 a8 l2.length cap8 l2 W (i3.below h (Nat.le_refl _)) (hi4.below h (Nat.le_refl _)) (by omega) (by omega)
      rw [allL_ints] at d1 d2
      have D1 := Lib.hid d1
      have D2 := Lib.hid d2
      clear d1 d2 i1 i2 i3 hi1 hi2 hi3 hi4 ho1 ho2 ho3 ho4 C1 C2 C3 C4
      go_wp2_with (first | (go_at_call_of 27 (Value.slice a5 l1.length cap5); refine D1.out.mono ?_; rintro e w6 ⟨rfl, h6⟩; have p6 := p5.trans (h6.mono p5.size)) |
        (go_at_call_of 27 (Value.slice a7 l2.length cap7); refine (D2.out _ h6).mono ?_; rintro e w7 ⟨rfl, h7⟩; have p7 := p6.trans (h7.mono p6.size)) |
        (go_at_call 10; refine (known_any _).mono ?_; rintro e w8 ⟨rfl, h8⟩; have p8 := p7.trans (h8.mono p7.size)))
      go_ret
      exact ⟨rfl, hbw.trans (p8.mono hbw.size)⟩

end Go.Proofs.Ytdlkkajkflebgaa
