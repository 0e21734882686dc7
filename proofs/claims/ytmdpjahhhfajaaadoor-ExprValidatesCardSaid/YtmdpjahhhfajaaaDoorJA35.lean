/-
  The laws' expressions: Expr.
-/
import Derived.Test.YtmdpjahhhfajaaaDoorJA33
import Derived.Test.YtmdpjahhhfajaaaDoorJA34
set_option linter.unusedVariables false
set_option linter.unusedSimpArgs false
set_option maxRecDepth 100000
namespace Go.Proofs.YtmdpjahhhfajaaaDoor
open Go.RowKit Wh
set_option maxHeartbeats 4000000 in
theorem mexp0_any (la : Option Addr) (ll lc : Nat) (zs : List Int) (hl : ll ≤ 9223372036854775807) : MEx la ll lc zs 0 0 := by
  intro k p hk1 hk4 hp0 hp
  have hpb : p ≤ 1000000000000 := hp
  obtain ⟨n, hn⟩ : ∃ n : Nat, atZ zs p = (n : Int) := ⟨(atZ zs p).toNat, by have := atZ_bounds zs p; omega⟩
  have hnb : n ≤ 131070 := by have := atZ_bounds zs p; omega
  have CA := Lib.hid (fun cb W (h : ExW W la ll zs cb) => at_any la ll lc zs p W h.ints hl)
  rw [hn] at CA
  clear hn hp
  obtain ⟨q5, hq5⟩ : ∃ q5, n / 5 = q5 := ⟨_, rfl⟩
  have tq5 : (n : Int).tdiv 5 = (q5 : Int) := by rw [Int.tdiv_eq_ediv_of_nonneg (by omega)]; omega
  have mq5 : (n : Int) / 5 = (q5 : Int) := by omega
  refine ⟨_, GoodE.leaf (k := k) q5, fun cb W hE => ?_⟩
  have HE := Lib.hid hE
  have CL := Lib.hid (fun W (hC : ColsX W cb) => mleaf_any k ⟨hk1, hk4⟩ cb q5 (by omega) W hC)
  clear hE
  go_enter Tryd.func21, Tryd.ntmps21
  go_wp2_with fail
  refine (CA.out _ _ HE.out).mono ?_
  rintro ev w1 ⟨rfl, hb1⟩
  have HE1 := Lib.hid (HE.out.below hb1 (Nat.le_refl _))
  have HB1 := Lib.hid hb1
  clear hb1 CA HE
  go_wp2_with fail
  refine (CL.out _ HE1.out.cols).mono ?_
  intro ev wf hm
  obtain ⟨v, rfl, hown, hbf⟩ := hm.up HB1.out
  have H := Lib.hid (And.intro hown hbf)
  clear hown hbf hm
  go_wp2_with fail
  go_ret
  exact ⟨_, rfl, H.out.1, H.out.2⟩
set_option maxHeartbeats 8000000 in
theorem mexpS_any (la : Option Addr) (ll lc : Nat) (zs : List Int) (d : Nat) (e : Int) (hl : ll ≤ 9223372036854775807) (hd : d ≤ 4) (he : 1 ≤ e ∧ e ≤ 1000) (IH : MEx la ll lc zs d (e - 1)) (k : Int) (hk1 : 1 ≤ k) (hk4 : k ≤ 4) (p : Int) (hp0 : 0 ≤ p) (hp : p ≤ bnd (d + 1)) : ∃ es, GoodE (d + 1) es ∧ ∀ cb W, ExW W la ll zs cb → Calls Tryd.prog 21 #[.int .i64 k, .slice (some ⟨cb, 0, none⟩) 4 4, .slice la ll lc, .int .i64 p, .int .i64 e] W (MdP W es) := by
  have hbd := bnd_le d
  have hp := bnd_step hp
  have hpb : p ≤ 200000000000 := by omega
  obtain ⟨n, hn⟩ : ∃ n : Nat, atZ zs p = (n : Int) := ⟨(atZ zs p).toNat, by have := atZ_bounds zs p; omega⟩
  have hnb : n ≤ 131070 := by have := atZ_bounds zs p; omega
  have CA := Lib.hid (fun cb W (h : ExW W la ll zs cb) => at_any la ll lc zs p W h.ints hl)
  rw [hn] at CA
  clear hn
  obtain ⟨q5, hq5⟩ : ∃ q5, n / 5 = q5 := ⟨_, rfl⟩
  have tq5 : (n : Int).tdiv 5 = (q5 : Int) := by rw [Int.tdiv_eq_ediv_of_nonneg (by omega)]; omega
  have mq5 : (n : Int) / 5 = (q5 : Int) := by omega
  obtain ⟨r5, hr5⟩ : ∃ r5, n % 5 = r5 := ⟨_, rfl⟩
  have tr5 : (n : Int).tmod 5 = (r5 : Int) := by rw [Int.tmod_eq_emod_of_nonneg (by omega)]; omega
  have mr5 : (n : Int) % 5 = (r5 : Int) := by omega
  obtain ⟨s2, hs2⟩ : ∃ s2, q5 % 2 = s2 := ⟨_, rfl⟩
  have ts2 : (q5 : Int).tmod 2 = (s2 : Int) := by rw [Int.tmod_eq_emod_of_nonneg (by omega)]; omega
  have ms2 : (q5 : Int) % 2 = (s2 : Int) := by omega
  by_cases cr50 : r5 = 0
  · subst cr50
    refine ⟨_, (GoodE.leaf (k := k) q5).mono (Nat.zero_le _), fun cb W hE => ?_⟩
    have HE := Lib.hid hE
    have CL := Lib.hid (fun W (hC : ColsX W cb) => mleaf_any k ⟨hk1, hk4⟩ cb q5 (by omega) W hC)
    clear hE IH hbd hp
    go_enter Tryd.func21, Tryd.ntmps21
    go_wp2_with fail
    refine (CA.out _ _ HE.out).mono ?_
    rintro ev w1 ⟨rfl, hb1⟩
    have HE1 := Lib.hid (HE.out.below hb1 (Nat.le_refl _))
    have HB1 := Lib.hid hb1
    clear hb1 CA HE
    go_wp2_with fail
    refine (CL.out _ HE1.out.cols).mono ?_
    intro ev wf hm
    obtain ⟨v, rfl, hown, hbf⟩ := hm.up HB1.out
    have H := Lib.hid (And.intro hown hbf)
    clear hown hbf hm
    go_wp2_with fail
    go_ret
    exact ⟨_, rfl, H.out.1, H.out.2⟩
  by_cases cr51 : r5 = 1
  · subst cr51
    obtain ⟨e1, g1, C1⟩ := IH (1) (3 * p + 1) (by omega) (by omega) (by omega) (by omega)
    obtain ⟨e2, g2, C2⟩ := IH (k) (3 * p + 2) (by omega) (by omega) (by omega) (by omega)
    obtain ⟨e3, g3, C3⟩ := IH (k) (3 * p + 3) (by omega) (by omega) (by omega) (by omega)
    refine ⟨_, GoodE.app3 (by omega) g1 g2 g3, fun cb W hE => ?_⟩
    have HE := Lib.hid hE
    have HC1 := Lib.hid C1
    have hl1 := g1.le hd
    have HC2 := Lib.hid C2
    have hl2 := g2.le hd
    have HC3 := Lib.hid C3
    have hl3 := g3.le hd
    clear hE IH hbd hp C1 g1 C2 g2 C3 g3
    go_enter Tryd.func21, Tryd.ntmps21
    go_wp2_with fail
    refine (CA.out _ _ HE.out).mono ?_
    rintro ev w1 ⟨rfl, hb1⟩
    have HE1 := Lib.hid (HE.out.below hb1 (Nat.le_refl _))
    have HB1 := Lib.hid hb1
    clear hb1 CA HE
    go_wp2_with fail
    refine (HC1.out _ _ HE1.out).mono ?_
    intro ev w2 hm
    obtain ⟨a1, k1, rfl, hi1, hn1, hb2⟩ := hm.nodes
    have HB2 := Lib.hid (HB1.out.trans (hb2.mono HB1.out.size))
    have HE2 := Lib.hid (HE1.out.below hb2 (Nat.le_refl _))
    have HI11 := Lib.hid hi1
    have HN1 := Lib.hid hn1
    clear hm hi1 hn1 hb2 HC1 HE1 HB1
    go_wp2_with fail
    refine (HC2.out _ _ HE2.out).mono ?_
    intro ev w3 hm
    obtain ⟨a2, k2, rfl, hi2, hn2, hb3⟩ := hm.nodes
    have HB3 := Lib.hid (HB2.out.trans (hb3.mono HB2.out.size))
    have HE3 := Lib.hid (HE2.out.below hb3 (Nat.le_refl _))
    have HI22 := Lib.hid hi2
    have HN2 := Lib.hid hn2
    have HI12 := Lib.hid (HI11.out.below hb3 (Nat.le_refl _))
    clear HI11
    clear hm hi2 hn2 hb3 HC2 HE2 HB2
    go_wp2_with fail
    refine (HC3.out _ _ HE3.out).mono ?_
    intro ev w4 hm
    obtain ⟨a3, k3, rfl, hi3, hn3, hb4⟩ := hm.nodes
    have HB4 := Lib.hid (HB3.out.trans (hb4.mono HB3.out.size))
    have HE4 := Lib.hid (HE3.out.below hb4 (Nat.le_refl _))
    have HI33 := Lib.hid hi3
    have HN3 := Lib.hid hn3
    have HI13 := Lib.hid (HI12.out.below hb4 (Nat.le_refl _))
    clear HI12
    have HI23 := Lib.hid (HI22.out.below hb4 (Nat.le_refl _))
    clear HI22
    clear hm hi3 hn3 hb4 HC3 HE3 HB3
    go_wp2_with fail
    refine (mapp3 (17) HI13.out HN1.out hl1 HI23.out HN2.out hl2 HI33.out HN3.out hl3 HB4.out).mono ?_
    rintro ev wf ⟨v, rfl, hown, hbf⟩
    have H := Lib.hid (And.intro hown hbf)
    clear hown hbf
    go_wp2_with fail
    go_ret
    exact ⟨_, rfl, H.out.1, H.out.2⟩
  by_cases cr52 : r5 = 2
  · subst cr52
    obtain ⟨e1, g1, C1⟩ := IH (k) (3 * p + 1) (by omega) (by omega) (by omega) (by omega)
    obtain ⟨e2, g2, C2⟩ := IH (k) (3 * p + 2) (by omega) (by omega) (by omega) (by omega)
    refine ⟨_, GoodE.app2 (op := 18) (by omega) g1 g2 (by omega), fun cb W hE => ?_⟩
    have HE := Lib.hid hE
    have HC1 := Lib.hid C1
    have hl1 := g1.le hd
    have HC2 := Lib.hid C2
    have hl2 := g2.le hd
    clear hE IH hbd hp C1 g1 C2 g2
    go_enter Tryd.func21, Tryd.ntmps21
    go_wp2_with fail
    refine (CA.out _ _ HE.out).mono ?_
    rintro ev w1 ⟨rfl, hb1⟩
    have HE1 := Lib.hid (HE.out.below hb1 (Nat.le_refl _))
    have HB1 := Lib.hid hb1
    clear hb1 CA HE
    go_wp2_with fail
    refine (HC1.out _ _ HE1.out).mono ?_
    intro ev w2 hm
    obtain ⟨a1, k1, rfl, hi1, hn1, hb2⟩ := hm.nodes
    have HB2 := Lib.hid (HB1.out.trans (hb2.mono HB1.out.size))
    have HE2 := Lib.hid (HE1.out.below hb2 (Nat.le_refl _))
    have HI11 := Lib.hid hi1
    have HN1 := Lib.hid hn1
    clear hm hi1 hn1 hb2 HC1 HE1 HB1
    go_wp2_with fail
    refine (HC2.out _ _ HE2.out).mono ?_
    intro ev w3 hm
    obtain ⟨a2, k2, rfl, hi2, hn2, hb3⟩ := hm.nodes
    have HB3 := Lib.hid (HB2.out.trans (hb3.mono HB2.out.size))
    have HE3 := Lib.hid (HE2.out.below hb3 (Nat.le_refl _))
    have HI22 := Lib.hid hi2
    have HN2 := Lib.hid hn2
    have HI12 := Lib.hid (HI11.out.below hb3 (Nat.le_refl _))
    clear HI11
    clear hm hi2 hn2 hb3 HC2 HE2 HB2
    go_wp2_with fail
    refine (mapp2 (18) HI12.out HN1.out hl1 HI22.out HN2.out hl2 HB3.out).mono ?_
    rintro ev wf ⟨v, rfl, hown, hbf⟩
    have H := Lib.hid (And.intro hown hbf)
    clear hown hbf
    go_wp2_with fail
    go_ret
    exact ⟨_, rfl, H.out.1, H.out.2⟩
  have br50 : ((r5 : Int) == 0) = false := by simp only [beq_eq_false_iff_ne]; omega
  have br51 : ((r5 : Int) == 1) = false := by simp only [beq_eq_false_iff_ne]; omega
  have br52 : ((r5 : Int) == 2) = false := by simp only [beq_eq_false_iff_ne]; omega
  by_cases ck1 : k = 1
  · subst ck1
    obtain ⟨e1, g1, C1⟩ := mlogic_any la ll lc zs d e hl hd he IH (3 * p + 1) (by omega) (by omega)
    refine ⟨_, g1, fun cb W hE => ?_⟩
    have HE := Lib.hid hE
    have HC1 := Lib.hid C1
    clear hE IH hbd hp C1 g1
    go_enter Tryd.func21, Tryd.ntmps21
    go_wp2_with fail
    refine (CA.out _ _ HE.out).mono ?_
    rintro ev w1 ⟨rfl, hb1⟩
    have HE1 := Lib.hid (HE.out.below hb1 (Nat.le_refl _))
    have HB1 := Lib.hid hb1
    clear hb1 CA HE
    go_wp2_with fail
    refine (HC1.out _ _ HE1.out).mono ?_
    intro ev wf hm
    obtain ⟨v, rfl, hown, hbf⟩ := hm.up HB1.out
    have H := Lib.hid (And.intro hown hbf)
    clear hown hbf hm
    go_wp2_with fail
    go_ret
    exact ⟨_, rfl, H.out.1, H.out.2⟩
  by_cases ck2 : k = 2
  · subst ck2
    obtain ⟨e1, g1, C1⟩ := mnum_any la ll lc zs d e hl hd he IH (3 * p + 1) (by omega) (by omega)
    refine ⟨_, g1, fun cb W hE => ?_⟩
    have HE := Lib.hid hE
    have HC1 := Lib.hid C1
    clear hE IH hbd hp C1 g1
    go_enter Tryd.func21, Tryd.ntmps21
    go_wp2_with fail
    refine (CA.out _ _ HE.out).mono ?_
    rintro ev w1 ⟨rfl, hb1⟩
    have HE1 := Lib.hid (HE.out.below hb1 (Nat.le_refl _))
    have HB1 := Lib.hid hb1
    clear hb1 CA HE
    go_wp2_with fail
    refine (HC1.out _ _ HE1.out).mono ?_
    intro ev wf hm
    obtain ⟨v, rfl, hown, hbf⟩ := hm.up HB1.out
    have H := Lib.hid (And.intro hown hbf)
    clear hown hbf hm
    go_wp2_with fail
    go_ret
    exact ⟨_, rfl, H.out.1, H.out.2⟩
  by_cases ck3 : k = 3
  · subst ck3
    obtain ⟨e1, g1, C1⟩ := IH (3) (3 * p + 1) (by omega) (by omega) (by omega) (by omega)
    obtain ⟨e2, g2, C2⟩ := IH (3) (3 * p + 2) (by omega) (by omega) (by omega) (by omega)
    refine ⟨_, GoodE.app2 (op := 9) (by omega) g1 g2 (by omega), fun cb W hE => ?_⟩
    have HE := Lib.hid hE
    have HC1 := Lib.hid C1
    have hl1 := g1.le hd
    have HC2 := Lib.hid C2
    have hl2 := g2.le hd
    clear hE IH hbd hp C1 g1 C2 g2
    go_enter Tryd.func21, Tryd.ntmps21
    go_wp2_with fail
    refine (CA.out _ _ HE.out).mono ?_
    rintro ev w1 ⟨rfl, hb1⟩
    have HE1 := Lib.hid (HE.out.below hb1 (Nat.le_refl _))
    have HB1 := Lib.hid hb1
    clear hb1 CA HE
    go_wp2_with fail
    refine (HC1.out _ _ HE1.out).mono ?_
    intro ev w2 hm
    obtain ⟨a1, k1, rfl, hi1, hn1, hb2⟩ := hm.nodes
    have HB2 := Lib.hid (HB1.out.trans (hb2.mono HB1.out.size))
    have HE2 := Lib.hid (HE1.out.below hb2 (Nat.le_refl _))
    have HI11 := Lib.hid hi1
    have HN1 := Lib.hid hn1
    clear hm hi1 hn1 hb2 HC1 HE1 HB1
    go_wp2_with fail
    refine (HC2.out _ _ HE2.out).mono ?_
    intro ev w3 hm
    obtain ⟨a2, k2, rfl, hi2, hn2, hb3⟩ := hm.nodes
    have HB3 := Lib.hid (HB2.out.trans (hb3.mono HB2.out.size))
    have HE3 := Lib.hid (HE2.out.below hb3 (Nat.le_refl _))
    have HI22 := Lib.hid hi2
    have HN2 := Lib.hid hn2
    have HI12 := Lib.hid (HI11.out.below hb3 (Nat.le_refl _))
    clear HI11
    clear hm hi2 hn2 hb3 HC2 HE2 HB2
    go_wp2_with fail
    refine (mapp2 (9) HI12.out HN1.out hl1 HI22.out HN2.out hl2 HB3.out).mono ?_
    rintro ev wf ⟨v, rfl, hown, hbf⟩
    have H := Lib.hid (And.intro hown hbf)
    clear hown hbf
    go_wp2_with fail
    go_ret
    exact ⟨_, rfl, H.out.1, H.out.2⟩
  obtain rfl : k = 4 := by omega
  obtain ⟨e1, g1, C1⟩ := IH 4 (3 * p + 1) (by omega) (by omega) (by omega) (by omega)
  obtain ⟨e2, g2, C2⟩ := IH 2 (3 * p + 2) (by omega) (by omega) (by omega) (by omega)
  have hl1 := g1.le hd
  have hl2 := g2.le hd
  have CU := Lib.hid (fun a c cb W (hi : IsNodes W a e1.length e1) (hC : ColsX W cb) => munk_any a e1.length c cb e1 W hi (by omega) (fun t ht => by have := g1.nms t ht; omega) (g1.valN hd).1 g1.nds hC)
  have HC1 := Lib.hid C1
  have HC2 := Lib.hid C2
  by_cases hu : unkB e1 = true
  · refine ⟨_, g1.mono (Nat.le_succ _), fun cb W hE => ?_⟩
    rw [hu] at CU
    have HE := Lib.hid hE
    clear hE IH hbd hp C1 g1 C2 g2
    go_enter Tryd.func21, Tryd.ntmps21
    go_wp2_with fail
    refine (CA.out _ _ HE.out).mono ?_
    rintro ev w1 ⟨rfl, hb1⟩
    have HE1 := Lib.hid (HE.out.below hb1 (Nat.le_refl _))
    have HB1 := Lib.hid hb1
    clear hb1 CA HE
    go_wp2_with fail
    refine (HC1.out _ _ HE1.out).mono ?_
    intro ev w2 hm
    obtain ⟨v, rfl, hown, hb2⟩ := hm
    obtain ⟨a1, k1, rfl, hi1, _, _, hn1, _⟩ := own_nodes hown rfl
    have HB2 := Lib.hid (HB1.out.trans (hb2.mono HB1.out.size))
    have HE2 := Lib.hid (HE1.out.below hb2 (Nat.le_refl _))
    have HI11 := Lib.hid hi1
    have HO := Lib.hid (own_mono hown HB1.out.size)
    clear hown hi1 hn1 hb2 HC1 HE1 HB1
    go_wp2_with fail
    refine (CU.out _ _ _ _ HI11.out HE2.out.cols).mono ?_
    rintro ev w3 ⟨rfl, hb3⟩
    have H := Lib.hid (And.intro (own_below HO.out hb3) (HB2.out.trans (hb3.mono HB2.out.size)))
    clear hb3 CU
    go_wp2_with fail
    go_ret
    exact ⟨_, rfl, H.out.1, H.out.2⟩
  · have hu2 : unkB e1 = false := by simpa using hu
    refine ⟨_, GoodE.app2 (op := 4 + (s2 : Int)) (by omega) g1 g2 (by omega), fun cb W hE => ?_⟩
    rw [hu2] at CU
    have HE := Lib.hid hE
    clear hE IH hbd hp C1 g1 C2 g2
    go_enter Tryd.func21, Tryd.ntmps21
    go_wp2_with fail
    refine (CA.out _ _ HE.out).mono ?_
    rintro ev w1 ⟨rfl, hb1⟩
    have HE1 := Lib.hid (HE.out.below hb1 (Nat.le_refl _))
    have HB1 := Lib.hid hb1
    clear hb1 CA HE
    go_wp2_with fail
    refine (HC1.out _ _ HE1.out).mono ?_
    intro ev w2 hm
    obtain ⟨a1, k1, rfl, hi1, hn1, hb2⟩ := hm.nodes
    have HB2 := Lib.hid (HB1.out.trans (hb2.mono HB1.out.size))
    have HE2 := Lib.hid (HE1.out.below hb2 (Nat.le_refl _))
    have HI11 := Lib.hid hi1
    have HN1 := Lib.hid hn1
    clear hm hi1 hn1 hb2 HC1 HE1 HB1
    go_wp2_with fail
    refine (CU.out _ _ _ _ HI11.out HE2.out.cols).mono ?_
    rintro ev w3 ⟨rfl, hb3⟩
    have HB3 := Lib.hid (HB2.out.trans (hb3.mono HB2.out.size))
    have HE3 := Lib.hid (HE2.out.below hb3 (Nat.le_refl _))
    have HI13 := Lib.hid (HI11.out.below hb3 (Nat.le_refl _))
    clear hb3 CU HE2 HB2 HI11
    go_wp2_with fail
    refine (HC2.out _ _ HE3.out).mono ?_
    intro ev w4 hm
    obtain ⟨a2, k2, rfl, hi2, hn2, hb4⟩ := hm.nodes
    have HB4 := Lib.hid (HB3.out.trans (hb4.mono HB3.out.size))
    have HI14 := Lib.hid (HI13.out.below hb4 (Nat.le_refl _))
    have HI24 := Lib.hid hi2
    have HN2 := Lib.hid hn2
    clear hm hi2 hn2 hb4 HC2 HE3 HB3 HI13
    go_wp2_with fail
    refine (mapp2 (4 + (s2 : Int)) HI14.out HN1.out hl1 HI24.out HN2.out hl2 HB4.out).mono ?_
    rintro ev wf ⟨v, rfl, hown, hbf⟩
    have H := Lib.hid (And.intro hown hbf)
    clear hown hbf
    go_wp2_with fail
    go_ret
    exact ⟨_, rfl, H.out.1, H.out.2⟩
theorem mexpr_any (la : Option Addr) (ll lc : Nat) (zs : List Int) (hl : ll ≤ 9223372036854775807) : ∀ d, d ≤ 5 → MEx la ll lc zs d (d : Int)
  | 0, _ => mexp0_any la ll lc zs hl
  | d + 1, h => fun k p hk1 hk4 hp0 hp => by
    have ih := mexpr_any la ll lc zs hl d (by omega)
    have e : ((d + 1 : Nat) : Int) - 1 = (d : Int) := by omega
    exact mexpS_any la ll lc zs d ((d + 1 : Nat) : Int) hl (by omega) (by omega) (by rw [e]; exact ih) k hk1 hk4 p hp0 hp
end Go.Proofs.YtmdpjahhhfajaaaDoor
