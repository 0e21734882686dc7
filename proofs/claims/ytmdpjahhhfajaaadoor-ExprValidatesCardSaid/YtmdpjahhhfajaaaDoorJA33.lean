/-
  The laws' expressions: logical.
-/
import Derived.Test.YtmdpjahhhfajaaaDoorJA32
set_option linter.unusedVariables false
set_option linter.unusedSimpArgs false
set_option maxRecDepth 100000
namespace Go.Proofs.YtmdpjahhhfajaaaDoor
open Go.RowKit Wh
set_option maxHeartbeats 8000000 in
theorem mlogic_any (la : Option Addr) (ll lc : Nat) (zs : List Int) (d : Nat) (e : Int) (hl : ll ≤ 9223372036854775807) (hd : d ≤ 4) (he : 1 ≤ e ∧ e ≤ 1000) (IH : MEx la ll lc zs d (e - 1))  (p : Int) (hp0 : 0 ≤ p) (hp : 2 * p + 2 ≤ bnd d) : ∃ es, GoodE (d + 1) es ∧ ∀ cb W, ExW W la ll zs cb → Calls Tryd.prog 34 #[.slice (some ⟨cb, 0, none⟩) 4 4, .slice la ll lc, .int .i64 p, .int .i64 e] W (MdP W es) := by
  have hbd := bnd_le d
  have hpb : p ≤ 500000000000 := by omega
  obtain ⟨n, hn⟩ : ∃ n : Nat, atZ zs p = (n : Int) := ⟨(atZ zs p).toNat, by have := atZ_bounds zs p; omega⟩
  have hnb : n ≤ 131070 := by have := atZ_bounds zs p; omega
  have CA := Lib.hid (fun cb W (h : ExW W la ll zs cb) => at_any la ll lc zs p W h.ints hl)
  rw [hn] at CA
  clear hn
  obtain ⟨q16, hq16⟩ : ∃ q16, n / 16 = q16 := ⟨_, rfl⟩
  have tq16 : (n : Int).tdiv 16 = (q16 : Int) := by rw [Int.tdiv_eq_ediv_of_nonneg (by omega)]; omega
  have mq16 : (n : Int) / 16 = (q16 : Int) := by omega
  obtain ⟨r4, hr4⟩ : ∃ r4, q16 % 4 = r4 := ⟨_, rfl⟩
  have tr4 : (q16 : Int).tmod 4 = (r4 : Int) := by rw [Int.tmod_eq_emod_of_nonneg (by omega)]; omega
  have mr4 : (q16 : Int) % 4 = (r4 : Int) := by omega
  obtain ⟨r9, hr9⟩ : ∃ r9, n % 9 = r9 := ⟨_, rfl⟩
  have tr9 : (n : Int).tmod 9 = (r9 : Int) := by rw [Int.tmod_eq_emod_of_nonneg (by omega)]; omega
  have mr9 : (n : Int) % 9 = (r9 : Int) := by omega
  obtain ⟨s4, hs4⟩ : ∃ s4, n % 4 = s4 := ⟨_, rfl⟩
  have ts4 : (n : Int).tmod 4 = (s4 : Int) := by rw [Int.tmod_eq_emod_of_nonneg (by omega)]; omega
  have ms4 : (n : Int) % 4 = (s4 : Int) := by omega
  by_cases cr90 : r9 = 0
  · subst cr90
    obtain ⟨e1, g1, C1⟩ := IH (1) (2 * p + 1) (by omega) (by omega) (by omega) (by omega)
    refine ⟨_, GoodE.app1 (op := 2) (by omega) g1 (by omega), fun cb W hE => ?_⟩
    have HE := Lib.hid hE
    have HC1 := Lib.hid C1
    have hl1 := g1.le hd
    clear hE IH hbd hp C1 g1
    go_enter Tryd.func34, Tryd.ntmps34
    go_wp2_with fail
    refine (CA.out _ _ HE.out).mono ?_
    rintro ev w1 ⟨rfl, hb1⟩
    have HE1 := Lib.hid (HE.out.below hb1 (Nat.le_refl _))
    have HB1 := Lib.hid hb1
    clear hb1 CA HE
    go_wp2_with fail
    refine (HC1.out _ _ HE1.out).mono ?_
    intro ev w2 hm
    obtain ⟨a1, k1, rfl, hi1, hn1, hb2⟩ := hm.nodes
    have HB2 := Lib.hid (HB1.out.trans (hb2.mono HB1.out.size))
    have HE2 := Lib.hid (HE1.out.below hb2 (Nat.le_refl _))
    have HI11 := Lib.hid hi1
    have HN1 := Lib.hid hn1
    clear hm hi1 hn1 hb2 HC1 HE1 HB1
    go_wp2_with fail
    refine (mapp1 (2) HI11.out HN1.out hl1 HB2.out).mono ?_
    rintro ev wf ⟨v, rfl, hown, hbf⟩
    have H := Lib.hid (And.intro hown hbf)
    clear hown hbf
    go_wp2_with fail
    go_ret
    exact ⟨_, rfl, H.out.1, H.out.2⟩
  by_cases cr91 : r9 = 1
  · subst cr91
    obtain ⟨e1, g1, C1⟩ := IH (1) (2 * p + 1) (by omega) (by omega) (by omega) (by omega)
    obtain ⟨e2, g2, C2⟩ := IH (1) (2 * p + 2) (by omega) (by omega) (by omega) (by omega)
    refine ⟨_, GoodE.app2 (op := 14) (by omega) g1 g2 (by omega), fun cb W hE => ?_⟩
    have HE := Lib.hid hE
    have HC1 := Lib.hid C1
    have hl1 := g1.le hd
    have HC2 := Lib.hid C2
    have hl2 := g2.le hd
    clear hE IH hbd hp C1 g1 C2 g2
    go_enter Tryd.func34, Tryd.ntmps34
    go_wp2_with fail
    refine (CA.out _ _ HE.out).mono ?_
    rintro ev w1 ⟨rfl, hb1⟩
    have HE1 := Lib.hid (HE.out.below hb1 (Nat.le_refl _))
    have HB1 := Lib.hid hb1
    clear hb1 CA HE
    go_wp2_with fail
    refine (HC1.out _ _ HE1.out).mono ?_
    intro ev w2 hm
    obtain ⟨a1, k1, rfl, hi1, hn1, hb2⟩ := hm.nodes
    have HB2 := Lib.hid (HB1.out.trans (hb2.mono HB1.out.size))
    have HE2 := Lib.hid (HE1.out.below hb2 (Nat.le_refl _))
    have HI11 := Lib.hid hi1
    have HN1 := Lib.hid hn1
    clear hm hi1 hn1 hb2 HC1 HE1 HB1
    go_wp2_with fail
    refine (HC2.out _ _ HE2.out).mono ?_
    intro ev w3 hm
    obtain ⟨a2, k2, rfl, hi2, hn2, hb3⟩ := hm.nodes
    have HB3 := Lib.hid (HB2.out.trans (hb3.mono HB2.out.size))
    have HE3 := Lib.hid (HE2.out.below hb3 (Nat.le_refl _))
    have HI22 := Lib.hid hi2
    have HN2 := Lib.hid hn2
    have HI12 := Lib.hid (HI11.out.below hb3 (Nat.le_refl _))
    clear HI11
    clear hm hi2 hn2 hb3 HC2 HE2 HB2
    go_wp2_with fail
    refine (mapp2 (14) HI12.out HN1.out hl1 HI22.out HN2.out hl2 HB3.out).mono ?_
    rintro ev wf ⟨v, rfl, hown, hbf⟩
    have H := Lib.hid (And.intro hown hbf)
    clear hown hbf
    go_wp2_with fail
    go_ret
    exact ⟨_, rfl, H.out.1, H.out.2⟩
  by_cases cr92 : r9 = 2
  · subst cr92
    obtain ⟨e1, g1, C1⟩ := IH (1) (2 * p + 1) (by omega) (by omega) (by omega) (by omega)
    obtain ⟨e2, g2, C2⟩ := IH (1) (2 * p + 2) (by omega) (by omega) (by omega) (by omega)
    refine ⟨_, GoodE.app2 (op := 15) (by omega) g1 g2 (by omega), fun cb W hE => ?_⟩
    have HE := Lib.hid hE
    have HC1 := Lib.hid C1
    have hl1 := g1.le hd
    have HC2 := Lib.hid C2
    have hl2 := g2.le hd
    clear hE IH hbd hp C1 g1 C2 g2
    go_enter Tryd.func34, Tryd.ntmps34
    go_wp2_with fail
    refine (CA.out _ _ HE.out).mono ?_
    rintro ev w1 ⟨rfl, hb1⟩
    have HE1 := Lib.hid (HE.out.below hb1 (Nat.le_refl _))
    have HB1 := Lib.hid hb1
    clear hb1 CA HE
    go_wp2_with fail
    refine (HC1.out _ _ HE1.out).mono ?_
    intro ev w2 hm
    obtain ⟨a1, k1, rfl, hi1, hn1, hb2⟩ := hm.nodes
    have HB2 := Lib.hid (HB1.out.trans (hb2.mono HB1.out.size))
    have HE2 := Lib.hid (HE1.out.below hb2 (Nat.le_refl _))
    have HI11 := Lib.hid hi1
    have HN1 := Lib.hid hn1
    clear hm hi1 hn1 hb2 HC1 HE1 HB1
    go_wp2_with fail
    refine (HC2.out _ _ HE2.out).mono ?_
    intro ev w3 hm
    obtain ⟨a2, k2, rfl, hi2, hn2, hb3⟩ := hm.nodes
    have HB3 := Lib.hid (HB2.out.trans (hb3.mono HB2.out.size))
    have HE3 := Lib.hid (HE2.out.below hb3 (Nat.le_refl _))
    have HI22 := Lib.hid hi2
    have HN2 := Lib.hid hn2
    have HI12 := Lib.hid (HI11.out.below hb3 (Nat.le_refl _))
    clear HI11
    clear hm hi2 hn2 hb3 HC2 HE2 HB2
    go_wp2_with fail
    refine (mapp2 (15) HI12.out HN1.out hl1 HI22.out HN2.out hl2 HB3.out).mono ?_
    rintro ev wf ⟨v, rfl, hown, hbf⟩
    have H := Lib.hid (And.intro hown hbf)
    clear hown hbf
    go_wp2_with fail
    go_ret
    exact ⟨_, rfl, H.out.1, H.out.2⟩
  by_cases cr93 : r9 = 3
  · subst cr93
    obtain ⟨e1, g1, C1⟩ := IH (1 + (r4 : Int)) (2 * p + 1) (by omega) (by omega) (by omega) (by omega)
    refine ⟨_, GoodE.app1 (op := 16) (by omega) g1 (by omega), fun cb W hE => ?_⟩
    have HE := Lib.hid hE
    have HC1 := Lib.hid C1
    have hl1 := g1.le hd
    clear hE IH hbd hp C1 g1
    go_enter Tryd.func34, Tryd.ntmps34
    go_wp2_with fail
    refine (CA.out _ _ HE.out).mono ?_
    rintro ev w1 ⟨rfl, hb1⟩
    have HE1 := Lib.hid (HE.out.below hb1 (Nat.le_refl _))
    have HB1 := Lib.hid hb1
    clear hb1 CA HE
    go_wp2_with fail
    refine (HC1.out _ _ HE1.out).mono ?_
    intro ev w2 hm
    obtain ⟨a1, k1, rfl, hi1, hn1, hb2⟩ := hm.nodes
    have HB2 := Lib.hid (HB1.out.trans (hb2.mono HB1.out.size))
    have HE2 := Lib.hid (HE1.out.below hb2 (Nat.le_refl _))
    have HI11 := Lib.hid hi1
    have HN1 := Lib.hid hn1
    clear hm hi1 hn1 hb2 HC1 HE1 HB1
    go_wp2_with fail
    refine (mapp1 (16) HI11.out HN1.out hl1 HB2.out).mono ?_
    rintro ev wf ⟨v, rfl, hown, hbf⟩
    have H := Lib.hid (And.intro hown hbf)
    clear hown hbf
    go_wp2_with fail
    go_ret
    exact ⟨_, rfl, H.out.1, H.out.2⟩
  have br90 : ((r9 : Int) == 0) = false := by simp only [beq_eq_false_iff_ne]; omega
  have br91 : ((r9 : Int) == 1) = false := by simp only [beq_eq_false_iff_ne]; omega
  have br92 : ((r9 : Int) == 2) = false := by simp only [beq_eq_false_iff_ne]; omega
  have br93 : ((r9 : Int) == 3) = false := by simp only [beq_eq_false_iff_ne]; omega
  obtain ⟨e1, g1, C1⟩ := IH (1 + (r4 : Int)) (2 * p + 1) (by omega) (by omega) (by omega) (by omega)
  obtain ⟨e2, g2, C2⟩ := IH (1 + (r4 : Int)) (2 * p + 2) (by omega) (by omega) (by omega) (by omega)
  refine ⟨_, GoodE.app2 (op := 10 + (s4 : Int)) (by omega) g1 g2 (by omega), fun cb W hE => ?_⟩
  have HE := Lib.hid hE
  have HC1 := Lib.hid C1
  have hl1 := g1.le hd
  have HC2 := Lib.hid C2
  have hl2 := g2.le hd
  clear hE IH hbd hp C1 g1 C2 g2
  go_enter Tryd.func34, Tryd.ntmps34
  go_wp2_with fail
  refine (CA.out _ _ HE.out).mono ?_
  rintro ev w1 ⟨rfl, hb1⟩
  have HE1 := Lib.hid (HE.out.below hb1 (Nat.le_refl _))
  have HB1 := Lib.hid hb1
  clear hb1 CA HE
  go_wp2_with fail
  refine (HC1.out _ _ HE1.out).mono ?_
  intro ev w2 hm
  obtain ⟨a1, k1, rfl, hi1, hn1, hb2⟩ := hm.nodes
  have HB2 := Lib.hid (HB1.out.trans (hb2.mono HB1.out.size))
  have HE2 := Lib.hid (HE1.out.below hb2 (Nat.le_refl _))
  have HI11 := Lib.hid hi1
  have HN1 := Lib.hid hn1
  clear hm hi1 hn1 hb2 HC1 HE1 HB1
  go_wp2_with fail
  refine (HC2.out _ _ HE2.out).mono ?_
  intro ev w3 hm
  obtain ⟨a2, k2, rfl, hi2, hn2, hb3⟩ := hm.nodes
  have HB3 := Lib.hid (HB2.out.trans (hb3.mono HB2.out.size))
  have HE3 := Lib.hid (HE2.out.below hb3 (Nat.le_refl _))
  have HI22 := Lib.hid hi2
  have HN2 := Lib.hid hn2
  have HI12 := Lib.hid (HI11.out.below hb3 (Nat.le_refl _))
  clear HI11
  clear hm hi2 hn2 hb3 HC2 HE2 HB2
  go_wp2_with fail
  refine (mapp2 (10 + (s4 : Int)) HI12.out HN1.out hl1 HI22.out HN2.out hl2 HB3.out).mono ?_
  rintro ev wf ⟨v, rfl, hown, hbf⟩
  have H := Lib.hid (And.intro hown hbf)
  clear hown hbf
  go_wp2_with fail
  go_ret
  exact ⟨_, rfl, H.out.1, H.out.2⟩
end Go.Proofs.YtmdpjahhhfajaaaDoor
