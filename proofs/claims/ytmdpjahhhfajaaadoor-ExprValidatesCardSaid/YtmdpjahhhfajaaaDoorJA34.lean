/-
  The laws' expressions: numeric.
-/
import Derived.Test.YtmdpjahhhfajaaaDoorJA32
import Derived.Deep.AppendLies
import Derived.Deep.RegionLaw
set_option linter.unusedVariables false
set_option linter.unusedSimpArgs false
set_option maxRecDepth 100000
namespace Go.Proofs.YtmdpjahhhfajaaaDoor
open Go.RowKit Wh
theorem news_keep {w w' : World} {B b : Nat} {news : List Value} (hb : Below B w w') (hlt : b < B) (h : ∀ j u, news[j]? = some u → w.cell? ((⟨b, 0, none⟩ : Addr).add j) = some u) : ∀ j u, news[j]? = some u → w'.cell? ((⟨b, 0, none⟩ : Addr).add j) = some u := fun j u hu => by
  have := h j u hu
  have hadd : (⟨b, 0, none⟩ : Addr).add j = ⟨b, j, none⟩ := by unfold Addr.add; split <;> simp_all
  rw [hadd] at this ⊢
  exact (hb.cell (p := ⟨b, j, none⟩) hlt).trans this
set_option maxHeartbeats 8000000 in
theorem mnum_any (la : Option Addr) (ll lc : Nat) (zs : List Int) (d : Nat) (e : Int) (hl : ll ≤ 9223372036854775807) (hd : d ≤ 4) (he : 1 ≤ e ∧ e ≤ 1000) (IH : MEx la ll lc zs d (e - 1))  (p : Int) (hp0 : 0 ≤ p) (hp : 2 * p + 2 ≤ bnd d) : ∃ es, GoodE (d + 1) es ∧ ∀ cb W, ExW W la ll zs cb → Calls Tryd.prog 35 #[.slice (some ⟨cb, 0, none⟩) 4 4, .slice la ll lc, .int .i64 p, .int .i64 e] W (MdP W es) := by
  have hbd := bnd_le d
  have hpb : p ≤ 500000000000 := by omega
  obtain ⟨n, hn⟩ : ∃ n : Nat, atZ zs p = (n : Int) := ⟨(atZ zs p).toNat, by have := atZ_bounds zs p; omega⟩
  have hnb : n ≤ 131070 := by have := atZ_bounds zs p; omega
  have CA := Lib.hid (fun cb W (h : ExW W la ll zs cb) => at_any la ll lc zs p W h.ints hl)
  rw [hn] at CA
  clear hn
  obtain ⟨q9, hq9⟩ : ∃ q9, n / 9 = q9 := ⟨_, rfl⟩
  have tq9 : (n : Int).tdiv 9 = (q9 : Int) := by rw [Int.tdiv_eq_ediv_of_nonneg (by omega)]; omega
  have mq9 : (n : Int) / 9 = (q9 : Int) := by omega
  obtain ⟨r3, hr3⟩ : ∃ r3, q9 % 3 = r3 := ⟨_, rfl⟩
  have tr3 : (q9 : Int).tmod 3 = (r3 : Int) := by rw [Int.tmod_eq_emod_of_nonneg (by omega)]; omega
  have mr3 : (q9 : Int) % 3 = (r3 : Int) := by omega
  obtain ⟨r5, hr5⟩ : ∃ r5, q9 % 5 = r5 := ⟨_, rfl⟩
  have tr5 : (q9 : Int).tmod 5 = (r5 : Int) := by rw [Int.tmod_eq_emod_of_nonneg (by omega)]; omega
  have mr5 : (q9 : Int) % 5 = (r5 : Int) := by omega
  obtain ⟨r9, hr9⟩ : ∃ r9, n % 9 = r9 := ⟨_, rfl⟩
  have tr9 : (n : Int).tmod 9 = (r9 : Int) := by rw [Int.tmod_eq_emod_of_nonneg (by omega)]; omega
  have mr9 : (n : Int) % 9 = (r9 : Int) := by omega
  by_cases cr90 : r9 = 0
  · subst cr90
    obtain ⟨e1, g1, C1⟩ := IH (2) (2 * p + 1) (by omega) (by omega) (by omega) (by omega)
    refine ⟨_, GoodE.app1 (op := 3) (by omega) g1 (by omega), fun cb W hE => ?_⟩
    have HE := Lib.hid hE
    have HC1 := Lib.hid C1
    have hl1 := g1.le hd
    clear hE IH hbd hp C1 g1
    go_enter Tryd.func35, Tryd.ntmps35
    go_wp2_with fail
    refine (CA.out _ _ HE.out).mono ?_
    rintro ev w1 ⟨rfl, hb1⟩
    have HE1 := Lib.hid (HE.out.below hb1 (Nat.le_refl _))
    have HB1 := Lib.hid hb1
    clear hb1 CA HE
    go_wp2_with fail
    refine (HC1.out _ _ HE1.out).mono ?_
    intro ev w2 hm
    obtain ⟨a1, k1, rfl, hi1, hn1, hb2⟩ := hm.nodes
    have HB2 := Lib.hid (HB1.out.trans (hb2.mono HB1.out.size))
    have HE2 := Lib.hid (HE1.out.below hb2 (Nat.le_refl _))
    have HI11 := Lib.hid hi1
    have HN1 := Lib.hid hn1
    clear hm hi1 hn1 hb2 HC1 HE1 HB1
    go_wp2_with fail
    refine (mapp1 (3) HI11.out HN1.out hl1 HB2.out).mono ?_
    rintro ev wf ⟨v, rfl, hown, hbf⟩
    have H := Lib.hid (And.intro hown hbf)
    clear hown hbf
    go_wp2_with fail
    go_ret
    exact ⟨_, rfl, H.out.1, H.out.2⟩
  by_cases cr91 : r9 = 1
  · subst cr91
    obtain ⟨e1, g1, C1⟩ := IH (3) (2 * p + 1) (by omega) (by omega) (by omega) (by omega)
    refine ⟨_, GoodE.app1 (op := 19) (by omega) g1 (by omega), fun cb W hE => ?_⟩
    have HE := Lib.hid hE
    have HC1 := Lib.hid C1
    have hl1 := g1.le hd
    clear hE IH hbd hp C1 g1
    go_enter Tryd.func35, Tryd.ntmps35
    go_wp2_with fail
    refine (CA.out _ _ HE.out).mono ?_
    rintro ev w1 ⟨rfl, hb1⟩
    have HE1 := Lib.hid (HE.out.below hb1 (Nat.le_refl _))
    have HB1 := Lib.hid hb1
    clear hb1 CA HE
    go_wp2_with fail
    refine (HC1.out _ _ HE1.out).mono ?_
    intro ev w2 hm
    obtain ⟨a1, k1, rfl, hi1, hn1, hb2⟩ := hm.nodes
    have HB2 := Lib.hid (HB1.out.trans (hb2.mono HB1.out.size))
    have HE2 := Lib.hid (HE1.out.below hb2 (Nat.le_refl _))
    have HI11 := Lib.hid hi1
    have HN1 := Lib.hid hn1
    clear hm hi1 hn1 hb2 HC1 HE1 HB1
    go_wp2_with fail
    refine (mapp1 (19) HI11.out HN1.out hl1 HB2.out).mono ?_
    rintro ev wf ⟨v, rfl, hown, hbf⟩
    have H := Lib.hid (And.intro hown hbf)
    clear hown hbf
    go_wp2_with fail
    go_ret
    exact ⟨_, rfl, H.out.1, H.out.2⟩
  by_cases cr92 : r9 = 2
  · subst cr92
    obtain ⟨e1, g1, C1⟩ := IH 4 (2 * p + 1) (by omega) (by omega) (by omega) (by omega)
    have hr33 : r3 = 0 ∨ r3 = 1 ∨ r3 = 2 := by omega
    refine ⟨_, GoodE.day (by omega) g1 (i := r3) (by omega), fun cb W hE => ?_⟩
    have HE := Lib.hid hE
    have hl1 := g1.le hd
    have HC1 := Lib.hid C1
    obtain ⟨i0, hi, hz0, hz1, hz2⟩ := info_parts info_node
    clear hE IH hbd hp C1 g1
    rcases hr33 with rfl | rfl | rfl
    · skip
      have HR : Hid (e1 ++ [(⟨20, ⟨0, 0, ⟨#[]⟩⟩, zNm 0, 0⟩ : Nd)] = e1 ++ [(⟨20, ⟨0, 0, ⟨#[]⟩⟩, ⟨#[122, 48]⟩, 0⟩ : Nd)]) := rfl
      rw [HR.out]
      have tr3' : (q9 : Int).tmod 3 = 0 := tr3
      have mr3' : (q9 : Int) % 3 = 0 := mr3
      have hw1 : IntKind.i64.wrap (q9 : Int) = (q9 : Int) := by rw [IntKind.wrap_i64]; omega
      have hw2 : IntKind.i64.wrap ((n : Int).tdiv 9) = (q9 : Int) := by rw [tq9]; exact hw1
      have hw3 : IntKind.i64.wrap ((n : Int) / 9) = (q9 : Int) := by rw [mq9]; exact hw1
      have hw4 : IntKind.i64.wrap ((q9 : Int).tmod 3) = 0 := by rw [tr3']; decide
      have hw5 : IntKind.i64.wrap ((q9 : Int) % 3) = 0 := by rw [mr3']; decide
      have hwe : IntKind.i64.wrap (e - 1) = e - 1 := by rw [IntKind.wrap_i64]; omega
      clear tr3 mr3
      go_enter Tryd.func35, Tryd.ntmps35
      go_wp2_with fail
      refine (CA.out _ _ HE.out).mono ?_
      rintro ev w1 ⟨rfl, hb1⟩
      have HE1 := Lib.hid (HE.out.below hb1 (Nat.le_refl _))
      have HB1 := Lib.hid hb1
      clear hb1 CA HE
      go_wp2_with fail
      have hB0 : Below w1.heap.size w1 w1.drew := (Below.refl _ _).drew
      refine wp_region_held_drew (S := fun w' => Below w1.heap.size w1 w') (by kernel_rfl) hB0 (fun hHeld => ?_)
      refine wpAnyH_take (i := 0) (v := ?v0t1) rfl (by kernel_rfl) (by kernel_rfl) (by kernel_rfl) (fun _ _ _ h => h) (Or.inl ⟨by kernel_rfl, ?hy0t1⟩) hHeld ?rest0t1
      case hy0t1 => (intro w hSw; (try dsimp only at hSw); go_simp; try rfl)
      (try simp only [Act.put, List.setIfInBounds_toArray, List.set_cons_zero, List.set_cons_succ])
      refine wpAnyH_take (i := 1) (v := ?v1t2) rfl (by kernel_rfl) (by kernel_rfl) (by kernel_rfl) (fun _ _ _ h => h) (Or.inl ⟨by kernel_rfl, ?hy1t2⟩) hHeld ?rest1t2
      case hy1t2 => (intro w hSw; (try dsimp only at hSw); go_simp; try rfl)
      (try simp only [Act.put, List.setIfInBounds_toArray, List.set_cons_zero, List.set_cons_succ])
      refine wpAnyH_take (i := 2) (v := ?v2t3) rfl (by kernel_rfl) (by kernel_rfl) (by kernel_rfl) (fun _ _ _ h => h) (Or.inl ⟨by kernel_rfl, ?hy2t3⟩) hHeld ?rest2t3
      case hy2t3 => (intro w hSw; (try dsimp only at hSw); go_simp; try rfl)
      (try simp only [Act.put, List.setIfInBounds_toArray, List.set_cons_zero, List.set_cons_succ])
      refine wpAnyH_take (i := 3) (v := ?v3t4) rfl (by kernel_rfl) (by kernel_rfl) (by kernel_rfl) (fun _ _ _ h => h) (Or.inl ⟨by kernel_rfl, ?hy3t4⟩) hHeld ?rest3t4
      case hy3t4 => (intro w hSw; (try dsimp only at hSw); go_simp; try rfl)
      (try simp only [Act.put, List.setIfInBounds_toArray, List.set_cons_zero, List.set_cons_succ])
      refine wpAnyH_take (i := 4) (v := ?v4t5) rfl (by kernel_rfl) (by kernel_rfl) (by kernel_rfl) (fun _ _ _ h => h) (Or.inl ⟨by kernel_rfl, ?hy4t5⟩) hHeld ?rest4t5
      case hy4t5 => (intro w hSw; (try dsimp only at hSw); go_simp; try rfl)
      (try simp only [Act.put, List.setIfInBounds_toArray, List.set_cons_zero, List.set_cons_succ])
      refine wpAnyH_take (i := 7) (v := ?v7t6) rfl (by kernel_rfl) (by kernel_rfl) (by kernel_rfl) (fun _ _ _ h => h) (Or.inl ⟨by kernel_rfl, ?hy7t6⟩) hHeld ?rest7t6
      case hy7t6 => (intro w hSw; (try dsimp only at hSw); go_simp; try rfl)
      (try simp only [Act.put, List.setIfInBounds_toArray, List.set_cons_zero, List.set_cons_succ])
      refine wpAnyH_take (i := 8) (v := ?v8t7) rfl (by kernel_rfl) (by kernel_rfl) (by kernel_rfl) (fun _ _ _ h => h) (Or.inl ⟨by kernel_rfl, ?hy8t7⟩) hHeld ?rest8t7
      case hy8t7 => (intro w hSw; (try dsimp only at hSw); go_simp; try rfl)
      (try simp only [Act.put, List.setIfInBounds_toArray, List.set_cons_zero, List.set_cons_succ])
      refine wpAnyH_take (i := 9) (v := ?v9t8) rfl (by kernel_rfl) (by kernel_rfl) (by kernel_rfl) (fun _ _ _ h => h) (Or.inl ⟨by kernel_rfl, ?hy9t8⟩) hHeld ?rest9t8
      case hy9t8 => (intro w hSw; (try dsimp only at hSw); go_simp; try rfl)
      (try simp only [Act.put, List.setIfInBounds_toArray, List.set_cons_zero, List.set_cons_succ])
      refine wpAnyH_ready (rs := [5, 6]) (by kernel_rfl) (by simp) ?_
      refine AllReadyH.cons (o := _) rfl (fun K hK => ?_) (AllReadyH.cons (o := _) rfl (fun K hK => ?_) AllReadyH.nil)
      · skip
        go_simp
        go_at_call 21
        refine (HC1.out _ _ (HE1.out.below hB0 (Nat.le_refl _))).mono ?_
        intro ev w4 hm
        obtain ⟨v4, rfl, hown, hcall⟩ := hm
        obtain ⟨a4, k4, rfl, hq, _, _, hn4, _⟩ := own_nodes hown rfl
        have hB4 : Below w1.heap.size w1 w4 := hB0.trans (hcall.mono hB0.size)
        go_wp2_with fail
        refine hK.out _ _ hB4 (fun hHeld => ?_)
        clear hK K
        (try simp only [Act.put, List.setIfInBounds_toArray, List.set_cons_zero, List.set_cons_succ])
        refine wpAnyH_ready (rs := [6]) (by kernel_rfl) (by simp) ?_
        refine AllReadyH.cons (o := _) rfl (fun K hK => ?_) AllReadyH.nil
        go_simp
        have hB5 : Below w1.heap.size w1 (w4.alloc (.cells #[.string ⟨#[122, 48]⟩, .string ⟨#[122, 49]⟩, .string ⟨#[122, 50]⟩] 9)) := hB4.alloc hB4.size _
        refine hK.out _ _ hB5 (fun hHeld => ?_)
        clear hK K
        (try simp only [Act.put, List.setIfInBounds_toArray, List.set_cons_zero, List.set_cons_succ])
        refine wpAnyH_take (i := 10) (v := ?v10t9) rfl (by kernel_rfl) (by kernel_rfl) (by kernel_rfl) (fun _ _ _ h => h) (Or.inl ⟨by kernel_rfl, ?hy10t9⟩) hHeld ?rest10t9
        case hy10t9 => (intro w hSw; (try dsimp only at hSw); go_simp; try rfl)
        (try simp only [Act.put, List.setIfInBounds_toArray, List.set_cons_zero, List.set_cons_succ])
        refine wpAnyH_ready (rs := [11]) (by kernel_rfl) (by simp) ?_
        refine AllReadyH.cons (o := _) rfl (fun K hK => ?_) AllReadyH.nil
        go_simp
        refine hK.out _ _ hB5 (fun hHeld => ?_)
        clear hK K
        (try simp only [Act.put, List.setIfInBounds_toArray, List.set_cons_zero, List.set_cons_succ])
        refine wpAnyH_take (i := 12) (v := ?v12t10) rfl (by kernel_rfl) (by kernel_rfl) (by kernel_rfl) (fun _ _ _ h => h) (Or.inl ⟨by kernel_rfl, ?hy12t10⟩) hHeld ?rest12t10
        case hy12t10 => (intro w hSw; (try dsimp only at hSw); go_simp; try rfl)
        (try simp only [Act.put, List.setIfInBounds_toArray, List.set_cons_zero, List.set_cons_succ])
        refine wpAnyH_ready (rs := [13]) (by kernel_rfl) (by simp) ?_
        refine AllReadyH.cons (o := _) rfl (fun K hK => ?_) AllReadyH.nil
        go_simp
        have hB6 : Below w1.heap.size w1 ((w4.alloc (.cells #[.string ⟨#[122, 48]⟩, .string ⟨#[122, 49]⟩, .string ⟨#[122, 50]⟩] 9)).alloc (.cells #[.int .i64 20, .int .i64 0, .int .i64 0, .string ⟨#[]⟩, .string ⟨#[122, 48]⟩, .int .i64 0] 26)) := hB5.alloc hB5.size _
        refine hK.out _ _ hB6 (fun hHeld => ?_)
        clear hK K
        (try simp only [Act.put, List.setIfInBounds_toArray, List.set_cons_zero, List.set_cons_succ])
        have hownE := ((own_mono hown hB0.size).alloc (.cells #[.string ⟨#[122, 48]⟩, .string ⟨#[122, 49]⟩, .string ⟨#[122, 50]⟩] 9)).alloc (.cells #[.int .i64 20, .int .i64 0, .int .i64 0, .string ⟨#[]⟩, .string ⟨#[122, 48]⟩, .int .i64 0] 26)
        have hnew := World.news_of_block (cs := #[.int .i64 20, .int .i64 0, .int .i64 0, .string ⟨#[]⟩, .string ⟨#[122, 48]⟩, .int .i64 0]) (t := 26) (fr := (0, 0)) (heap_alloc_new (w4.alloc (.cells #[.string ⟨#[122, 48]⟩, .string ⟨#[122, 49]⟩, .string ⟨#[122, 50]⟩] 9)) (.cells #[.int .i64 20, .int .i64 0, .int .i64 0, .string ⟨#[]⟩, .string ⟨#[122, 48]⟩, .int .i64 0] 26))
        rw [World.size_alloc] at hnew
        refine wpAnyH_ready (rs := [14]) (by kernel_rfl) (by simp) ?_
        refine AllReadyH.cons (o := _) rfl (fun K hK => ?_) AllReadyH.nil
        refine step_append_lies (o := Oper.mk (some 61) _ _ _ _ none) _ (by rfl) (.tmp 52) (.tmp 60) _ (by rfl) w1.heap.size 26 i0 _ 6 64 Tryd.underlying22 hi hz0 hz1 hz2 rfl (by omega) _ _ _ (by rfl) hownE ⟨w4.heap.size + 1, 0, none⟩ 1 1 [.int .i64 20, .int .i64 0, .int .i64 0, .string ⟨#[]⟩, .string ⟨#[122, 48]⟩, .int .i64 0] (by rfl) (by rfl) hnew (by simp [Value.oneCell']) (by omega) (by unfold maxLen; omega) (by omega) hB6.size _ rfl ?_
        intro gg cc w9 hown9 hgrow9 hat9 hlt9
        have hB9 : Below w1.heap.size w1 w9 := hB6.grown hgrow9 hB6.size (fun j hj => (hownE.lt j hj).1)
        refine hK.out _ _ hB9 (fun hHeld => ?_)
        clear hK K
        (try simp only [Act.put, List.setIfInBounds_toArray, List.set_cons_zero, List.set_cons_succ])
        refine wpAnyH_take (i := 15) (oi := Oper.mk (some 8) _ _ _ _ none) (v := ?v15t11) rfl (by kernel_rfl) (by kernel_rfl) (by kernel_rfl) (fun _ _ _ h => h) (Or.inl ⟨by kernel_rfl, ?hy15t11⟩) hHeld ?rest15t11
        case hy15t11 => (intro w hSw; (try dsimp only at hSw); go_simp; try rfl)
        (try simp only [Act.put, List.setIfInBounds_toArray, List.set_cons_zero, List.set_cons_succ])
        refine wpAnyH_done (by kernel_rfl) ?_ _
        have HO9 : Hid (w9.ownsRow W.heap.size 26 6 (.slice (some ⟨gg, 0, none⟩) (e1.length + 1) cc) (e1 ++ [(⟨20, ⟨0, 0, ⟨#[]⟩⟩, ⟨#[122, 48]⟩, 0⟩ : Nd)]).length (nodesL (e1 ++ [(⟨20, ⟨0, 0, ⟨#[]⟩⟩, ⟨#[122, 48]⟩, 0⟩ : Nd)]))) := by
          have h := own_mono hown9 HB1.out.size
          rw [nodesL_push _ (⟨20, ⟨0, 0, ⟨#[]⟩⟩, ⟨#[122, 48]⟩, 0⟩ : Nd)] at h
          rw [List.length_append]
          exact h
        have HB10 := Lib.hid (HB1.out.trans (hB9.mono HB1.out.size))
        clear hown9 hgrow9 hat9 hlt9 hB9
        go_wp2_with fail
        go_ret
        exact ⟨_, rfl, HO9.out, HB10.out⟩
      · skip
        go_simp
        have hB5 : Below w1.heap.size w1 (w1.drew.alloc (.cells #[.string ⟨#[122, 48]⟩, .string ⟨#[122, 49]⟩, .string ⟨#[122, 50]⟩] 9)) := hB0.alloc hB0.size _
        have hc5 : (w1.drew.alloc (.cells #[.string ⟨#[122, 48]⟩, .string ⟨#[122, 49]⟩, .string ⟨#[122, 50]⟩] 9)).cell? ⟨w1.heap.size, 0, none⟩ = some (.string ⟨#[122, 48]⟩) := new_cells (w := w1.drew) (cs := [.string ⟨#[122, 48]⟩, .string ⟨#[122, 49]⟩, .string ⟨#[122, 50]⟩]) (t := 9) 0 _ rfl
        refine hK.out _ _ hB5 (fun hHeld => ?_)
        clear hK K
        (try simp only [Act.put, List.setIfInBounds_toArray, List.set_cons_zero, List.set_cons_succ])
        refine wpAnyH_take (i := 10) (v := ?v10t12) rfl (by kernel_rfl) (by kernel_rfl) (by kernel_rfl) (fun _ _ _ h => h) (Or.inl ⟨by kernel_rfl, ?hy10t12⟩) hHeld ?rest10t12
        case hy10t12 => (intro w hSw; (try dsimp only at hSw); go_simp; try rfl)
        (try simp only [Act.put, List.setIfInBounds_toArray, List.set_cons_zero, List.set_cons_succ])
        refine wpAnyH_ready (rs := [5, 11]) (by kernel_rfl) (by simp) ?_
        refine AllReadyH.cons (o := _) rfl (fun K hK => ?_) (AllReadyH.cons (o := _) rfl (fun K hK => ?_) AllReadyH.nil)
        · skip
          go_simp
          go_at_call 21
          refine (HC1.out _ _ (HE1.out.below hB5 (Nat.le_refl _))).mono ?_
          intro ev w4 hm
          obtain ⟨v4, rfl, hown, hcall⟩ := hm
          obtain ⟨a4, k4, rfl, hq, _, _, hn4, _⟩ := own_nodes hown rfl
          have hB4 : Below w1.heap.size w1 w4 := hB5.trans (hcall.mono hB5.size)
          have hcl : w4.cell? ⟨w1.heap.size, 0, none⟩ = some (.string ⟨#[122, 48]⟩) := (hcall.cell (p := ⟨w1.heap.size, 0, none⟩) (by show w1.heap.size < (w1.drew.alloc (.cells #[.string ⟨#[122, 48]⟩, .string ⟨#[122, 49]⟩, .string ⟨#[122, 50]⟩] 9)).heap.size; rw [World.size_alloc]; exact Nat.lt_succ_self _)).trans hc5
          go_wp2_with fail
          refine hK.out _ _ hB4 (fun hHeld => ?_)
          clear hK K
          (try simp only [Act.put, List.setIfInBounds_toArray, List.set_cons_zero, List.set_cons_succ])
          refine wpAnyH_ready (rs := [11]) (by kernel_rfl) (by simp) ?_
          refine AllReadyH.cons (o := _) rfl (fun K hK => ?_) AllReadyH.nil
          go_simp
          refine hK.out _ _ hB4 (fun hHeld => ?_)
          clear hK K
          (try simp only [Act.put, List.setIfInBounds_toArray, List.set_cons_zero, List.set_cons_succ])
          refine wpAnyH_take (i := 12) (v := ?v12t13) rfl (by kernel_rfl) (by kernel_rfl) (by kernel_rfl) (fun _ _ _ h => h) (Or.inl ⟨by kernel_rfl, ?hy12t13⟩) hHeld ?rest12t13
          case hy12t13 => (intro w hSw; (try dsimp only at hSw); go_simp; try rfl)
          (try simp only [Act.put, List.setIfInBounds_toArray, List.set_cons_zero, List.set_cons_succ])
          refine wpAnyH_ready (rs := [13]) (by kernel_rfl) (by simp) ?_
          refine AllReadyH.cons (o := _) rfl (fun K hK => ?_) AllReadyH.nil
          go_simp
          have hB6 : Below w1.heap.size w1 (w4.alloc (.cells #[.int .i64 20, .int .i64 0, .int .i64 0, .string ⟨#[]⟩, .string ⟨#[122, 48]⟩, .int .i64 0] 26)) := hB4.alloc hB4.size _
          refine hK.out _ _ hB6 (fun hHeld => ?_)
          clear hK K
          (try simp only [Act.put, List.setIfInBounds_toArray, List.set_cons_zero, List.set_cons_succ])
          have hownE := (own_mono hown hB5.size).alloc (.cells #[.int .i64 20, .int .i64 0, .int .i64 0, .string ⟨#[]⟩, .string ⟨#[122, 48]⟩, .int .i64 0] 26)
          have hnew := World.news_of_block (cs := #[.int .i64 20, .int .i64 0, .int .i64 0, .string ⟨#[]⟩, .string ⟨#[122, 48]⟩, .int .i64 0]) (t := 26) (fr := (0, 0)) (heap_alloc_new w4 (.cells #[.int .i64 20, .int .i64 0, .int .i64 0, .string ⟨#[]⟩, .string ⟨#[122, 48]⟩, .int .i64 0] 26))
          refine wpAnyH_ready (rs := [14]) (by kernel_rfl) (by simp) ?_
          refine AllReadyH.cons (o := _) rfl (fun K hK => ?_) AllReadyH.nil
          refine step_append_lies (o := Oper.mk (some 61) _ _ _ _ none) _ (by rfl) (.tmp 52) (.tmp 60) _ (by rfl) w1.heap.size 26 i0 _ 6 64 Tryd.underlying22 hi hz0 hz1 hz2 rfl (by omega) _ _ _ (by rfl) hownE ⟨w4.heap.size, 0, none⟩ 1 1 [.int .i64 20, .int .i64 0, .int .i64 0, .string ⟨#[]⟩, .string ⟨#[122, 48]⟩, .int .i64 0] (by rfl) (by rfl) hnew (by simp [Value.oneCell']) (by omega) (by unfold maxLen; omega) (by omega) hB6.size _ rfl ?_
          intro gg cc w9 hown9 hgrow9 hat9 hlt9
          have hB9 : Below w1.heap.size w1 w9 := hB6.grown hgrow9 hB6.size (fun j hj => (hownE.lt j hj).1)
          refine hK.out _ _ hB9 (fun hHeld => ?_)
          clear hK K
          (try simp only [Act.put, List.setIfInBounds_toArray, List.set_cons_zero, List.set_cons_succ])
          refine wpAnyH_take (i := 15) (oi := Oper.mk (some 8) _ _ _ _ none) (v := ?v15t14) rfl (by kernel_rfl) (by kernel_rfl) (by kernel_rfl) (fun _ _ _ h => h) (Or.inl ⟨by kernel_rfl, ?hy15t14⟩) hHeld ?rest15t14
          case hy15t14 => (intro w hSw; (try dsimp only at hSw); go_simp; try rfl)
          (try simp only [Act.put, List.setIfInBounds_toArray, List.set_cons_zero, List.set_cons_succ])
          refine wpAnyH_done (by kernel_rfl) ?_ _
          have HO9 : Hid (w9.ownsRow W.heap.size 26 6 (.slice (some ⟨gg, 0, none⟩) (e1.length + 1) cc) (e1 ++ [(⟨20, ⟨0, 0, ⟨#[]⟩⟩, ⟨#[122, 48]⟩, 0⟩ : Nd)]).length (nodesL (e1 ++ [(⟨20, ⟨0, 0, ⟨#[]⟩⟩, ⟨#[122, 48]⟩, 0⟩ : Nd)]))) := by
            have h := own_mono hown9 HB1.out.size
            rw [nodesL_push _ (⟨20, ⟨0, 0, ⟨#[]⟩⟩, ⟨#[122, 48]⟩, 0⟩ : Nd)] at h
            rw [List.length_append]
            exact h
          have HB10 := Lib.hid (HB1.out.trans (hB9.mono HB1.out.size))
          clear hown9 hgrow9 hat9 hlt9 hB9
          go_wp2_with fail
          go_ret
          exact ⟨_, rfl, HO9.out, HB10.out⟩
        · skip
          go_simp
          refine hK.out _ _ hB5 (fun hHeld => ?_)
          clear hK K
          (try simp only [Act.put, List.setIfInBounds_toArray, List.set_cons_zero, List.set_cons_succ])
          refine wpAnyH_take (i := 12) (v := ?v12t15) rfl (by kernel_rfl) (by kernel_rfl) (by kernel_rfl) (fun _ _ _ h => h) (Or.inl ⟨by kernel_rfl, ?hy12t15⟩) hHeld ?rest12t15
          case hy12t15 => (intro w hSw; (try dsimp only at hSw); go_simp; try rfl)
          (try simp only [Act.put, List.setIfInBounds_toArray, List.set_cons_zero, List.set_cons_succ])
          refine wpAnyH_ready (rs := [5, 13]) (by kernel_rfl) (by simp) ?_
          refine AllReadyH.cons (o := _) rfl (fun K hK => ?_) (AllReadyH.cons (o := _) rfl (fun K hK => ?_) AllReadyH.nil)
          · skip
            go_simp
            go_at_call 21
            refine (HC1.out _ _ (HE1.out.below hB5 (Nat.le_refl _))).mono ?_
            intro ev w4 hm
            obtain ⟨v4, rfl, hown, hcall⟩ := hm
            obtain ⟨a4, k4, rfl, hq, _, _, hn4, _⟩ := own_nodes hown rfl
            have hB4 : Below w1.heap.size w1 w4 := hB5.trans (hcall.mono hB5.size)
            go_wp2_with fail
            refine hK.out _ _ hB4 (fun hHeld => ?_)
            clear hK K
            (try simp only [Act.put, List.setIfInBounds_toArray, List.set_cons_zero, List.set_cons_succ])
            refine wpAnyH_ready (rs := [13]) (by kernel_rfl) (by simp) ?_
            refine AllReadyH.cons (o := _) rfl (fun K hK => ?_) AllReadyH.nil
            go_simp
            have hB6 : Below w1.heap.size w1 (w4.alloc (.cells #[.int .i64 20, .int .i64 0, .int .i64 0, .string ⟨#[]⟩, .string ⟨#[122, 48]⟩, .int .i64 0] 26)) := hB4.alloc hB4.size _
            refine hK.out _ _ hB6 (fun hHeld => ?_)
            clear hK K
            (try simp only [Act.put, List.setIfInBounds_toArray, List.set_cons_zero, List.set_cons_succ])
            have hownE := (own_mono hown hB5.size).alloc (.cells #[.int .i64 20, .int .i64 0, .int .i64 0, .string ⟨#[]⟩, .string ⟨#[122, 48]⟩, .int .i64 0] 26)
            have hnew := World.news_of_block (cs := #[.int .i64 20, .int .i64 0, .int .i64 0, .string ⟨#[]⟩, .string ⟨#[122, 48]⟩, .int .i64 0]) (t := 26) (fr := (0, 0)) (heap_alloc_new w4 (.cells #[.int .i64 20, .int .i64 0, .int .i64 0, .string ⟨#[]⟩, .string ⟨#[122, 48]⟩, .int .i64 0] 26))
            refine wpAnyH_ready (rs := [14]) (by kernel_rfl) (by simp) ?_
            refine AllReadyH.cons (o := _) rfl (fun K hK => ?_) AllReadyH.nil
            refine step_append_lies (o := Oper.mk (some 61) _ _ _ _ none) _ (by rfl) (.tmp 52) (.tmp 60) _ (by rfl) w1.heap.size 26 i0 _ 6 64 Tryd.underlying22 hi hz0 hz1 hz2 rfl (by omega) _ _ _ (by rfl) hownE ⟨w4.heap.size, 0, none⟩ 1 1 [.int .i64 20, .int .i64 0, .int .i64 0, .string ⟨#[]⟩, .string ⟨#[122, 48]⟩, .int .i64 0] (by rfl) (by rfl) hnew (by simp [Value.oneCell']) (by omega) (by unfold maxLen; omega) (by omega) hB6.size _ rfl ?_
            intro gg cc w9 hown9 hgrow9 hat9 hlt9
            have hB9 : Below w1.heap.size w1 w9 := hB6.grown hgrow9 hB6.size (fun j hj => (hownE.lt j hj).1)
            refine hK.out _ _ hB9 (fun hHeld => ?_)
            clear hK K
            (try simp only [Act.put, List.setIfInBounds_toArray, List.set_cons_zero, List.set_cons_succ])
            refine wpAnyH_take (i := 15) (oi := Oper.mk (some 8) _ _ _ _ none) (v := ?v15t16) rfl (by kernel_rfl) (by kernel_rfl) (by kernel_rfl) (fun _ _ _ h => h) (Or.inl ⟨by kernel_rfl, ?hy15t16⟩) hHeld ?rest15t16
            case hy15t16 => (intro w hSw; (try dsimp only at hSw); go_simp; try rfl)
            (try simp only [Act.put, List.setIfInBounds_toArray, List.set_cons_zero, List.set_cons_succ])
            refine wpAnyH_done (by kernel_rfl) ?_ _
            have HO9 : Hid (w9.ownsRow W.heap.size 26 6 (.slice (some ⟨gg, 0, none⟩) (e1.length + 1) cc) (e1 ++ [(⟨20, ⟨0, 0, ⟨#[]⟩⟩, ⟨#[122, 48]⟩, 0⟩ : Nd)]).length (nodesL (e1 ++ [(⟨20, ⟨0, 0, ⟨#[]⟩⟩, ⟨#[122, 48]⟩, 0⟩ : Nd)]))) := by
              have h := own_mono hown9 HB1.out.size
              rw [nodesL_push _ (⟨20, ⟨0, 0, ⟨#[]⟩⟩, ⟨#[122, 48]⟩, 0⟩ : Nd)] at h
              rw [List.length_append]
              exact h
            have HB10 := Lib.hid (HB1.out.trans (hB9.mono HB1.out.size))
            clear hown9 hgrow9 hat9 hlt9 hB9
            go_wp2_with fail
            go_ret
            exact ⟨_, rfl, HO9.out, HB10.out⟩
          · skip
            go_simp
            have hB6 : Below w1.heap.size w1 ((w1.drew.alloc (.cells #[.string ⟨#[122, 48]⟩, .string ⟨#[122, 49]⟩, .string ⟨#[122, 50]⟩] 9)).alloc (.cells #[.int .i64 20, .int .i64 0, .int .i64 0, .string ⟨#[]⟩, .string ⟨#[122, 48]⟩, .int .i64 0] 26)) := hB5.alloc hB5.size _
            have hnew0 := World.news_of_block (cs := #[.int .i64 20, .int .i64 0, .int .i64 0, .string ⟨#[]⟩, .string ⟨#[122, 48]⟩, .int .i64 0]) (t := 26) (fr := (0, 0)) (heap_alloc_new (w1.drew.alloc (.cells #[.string ⟨#[122, 48]⟩, .string ⟨#[122, 49]⟩, .string ⟨#[122, 50]⟩] 9)) (.cells #[.int .i64 20, .int .i64 0, .int .i64 0, .string ⟨#[]⟩, .string ⟨#[122, 48]⟩, .int .i64 0] 26))
            rw [World.size_alloc] at hnew0
            refine hK.out _ _ hB6 (fun hHeld => ?_)
            clear hK K
            (try simp only [Act.put, List.setIfInBounds_toArray, List.set_cons_zero, List.set_cons_succ])
            refine wpAnyH_ready (rs := [5]) (by kernel_rfl) (by simp) ?_
            refine AllReadyH.cons (o := _) rfl (fun K hK => ?_) AllReadyH.nil
            go_simp
            go_at_call 21
            refine (HC1.out _ _ (HE1.out.below hB6 (Nat.le_refl _))).mono ?_
            intro ev w4 hm
            obtain ⟨v4, rfl, hown, hcall⟩ := hm
            obtain ⟨a4, k4, rfl, hq, _, _, hn4, _⟩ := own_nodes hown rfl
            have hB4 : Below w1.heap.size w1 w4 := hB6.trans (hcall.mono hB6.size)
            have hnew := news_keep hcall (show w1.heap.size + 1 < ((w1.drew.alloc (.cells #[.string ⟨#[122, 48]⟩, .string ⟨#[122, 49]⟩, .string ⟨#[122, 50]⟩] 9)).alloc (.cells #[.int .i64 20, .int .i64 0, .int .i64 0, .string ⟨#[]⟩, .string ⟨#[122, 48]⟩, .int .i64 0] 26)).heap.size by rw [World.size_alloc, World.size_alloc]; exact Nat.lt_succ_self _) hnew0
            go_wp2_with fail
            refine hK.out _ _ hB4 (fun hHeld => ?_)
            clear hK K
            (try simp only [Act.put, List.setIfInBounds_toArray, List.set_cons_zero, List.set_cons_succ])
            have hownE := own_mono hown hB6.size
            refine wpAnyH_ready (rs := [14]) (by kernel_rfl) (by simp) ?_
            refine AllReadyH.cons (o := _) rfl (fun K hK => ?_) AllReadyH.nil
            refine step_append_lies (o := Oper.mk (some 61) _ _ _ _ none) _ (by rfl) (.tmp 52) (.tmp 60) _ (by rfl) w1.heap.size 26 i0 _ 6 64 Tryd.underlying22 hi hz0 hz1 hz2 rfl (by omega) _ _ _ (by rfl) hownE ⟨w1.heap.size + 1, 0, none⟩ 1 1 [.int .i64 20, .int .i64 0, .int .i64 0, .string ⟨#[]⟩, .string ⟨#[122, 48]⟩, .int .i64 0] (by rfl) (by rfl) hnew (by simp [Value.oneCell']) (by omega) (by unfold maxLen; omega) (by omega) hB4.size _ rfl ?_
            intro gg cc w9 hown9 hgrow9 hat9 hlt9
            have hB9 : Below w1.heap.size w1 w9 := hB4.grown hgrow9 hB4.size (fun j hj => (hownE.lt j hj).1)
            refine hK.out _ _ hB9 (fun hHeld => ?_)
            clear hK K
            (try simp only [Act.put, List.setIfInBounds_toArray, List.set_cons_zero, List.set_cons_succ])
            refine wpAnyH_take (i := 15) (oi := Oper.mk (some 8) _ _ _ _ none) (v := ?v15t17) rfl (by kernel_rfl) (by kernel_rfl) (by kernel_rfl) (fun _ _ _ h => h) (Or.inl ⟨by kernel_rfl, ?hy15t17⟩) hHeld ?rest15t17
            case hy15t17 => (intro w hSw; (try dsimp only at hSw); go_simp; try rfl)
            (try simp only [Act.put, List.setIfInBounds_toArray, List.set_cons_zero, List.set_cons_succ])
            refine wpAnyH_done (by kernel_rfl) ?_ _
            have HO9 : Hid (w9.ownsRow W.heap.size 26 6 (.slice (some ⟨gg, 0, none⟩) (e1.length + 1) cc) (e1 ++ [(⟨20, ⟨0, 0, ⟨#[]⟩⟩, ⟨#[122, 48]⟩, 0⟩ : Nd)]).length (nodesL (e1 ++ [(⟨20, ⟨0, 0, ⟨#[]⟩⟩, ⟨#[122, 48]⟩, 0⟩ : Nd)]))) := by
              have h := own_mono hown9 HB1.out.size
              rw [nodesL_push _ (⟨20, ⟨0, 0, ⟨#[]⟩⟩, ⟨#[122, 48]⟩, 0⟩ : Nd)] at h
              rw [List.length_append]
              exact h
            have HB10 := Lib.hid (HB1.out.trans (hB9.mono HB1.out.size))
            clear hown9 hgrow9 hat9 hlt9 hB9
            go_wp2_with fail
            go_ret
            exact ⟨_, rfl, HO9.out, HB10.out⟩
    · skip
      have HR : Hid (e1 ++ [(⟨20, ⟨0, 0, ⟨#[]⟩⟩, zNm 1, 0⟩ : Nd)] = e1 ++ [(⟨20, ⟨0, 0, ⟨#[]⟩⟩, ⟨#[122, 49]⟩, 0⟩ : Nd)]) := rfl
      rw [HR.out]
      have tr3' : (q9 : Int).tmod 3 = 1 := tr3
      have mr3' : (q9 : Int) % 3 = 1 := mr3
      have hw1 : IntKind.i64.wrap (q9 : Int) = (q9 : Int) := by rw [IntKind.wrap_i64]; omega
      have hw2 : IntKind.i64.wrap ((n : Int).tdiv 9) = (q9 : Int) := by rw [tq9]; exact hw1
      have hw3 : IntKind.i64.wrap ((n : Int) / 9) = (q9 : Int) := by rw [mq9]; exact hw1
      have hw4 : IntKind.i64.wrap ((q9 : Int).tmod 3) = 1 := by rw [tr3']; decide
      have hw5 : IntKind.i64.wrap ((q9 : Int) % 3) = 1 := by rw [mr3']; decide
      have hwe : IntKind.i64.wrap (e - 1) = e - 1 := by rw [IntKind.wrap_i64]; omega
      clear tr3 mr3
      go_enter Tryd.func35, Tryd.ntmps35
      go_wp2_with fail
      refine (CA.out _ _ HE.out).mono ?_
      rintro ev w1 ⟨rfl, hb1⟩
      have HE1 := Lib.hid (HE.out.below hb1 (Nat.le_refl _))
      have HB1 := Lib.hid hb1
      clear hb1 CA HE
      go_wp2_with fail
      have hB0 : Below w1.heap.size w1 w1.drew := (Below.refl _ _).drew
      refine wp_region_held_drew (S := fun w' => Below w1.heap.size w1 w') (by kernel_rfl) hB0 (fun hHeld => ?_)
      refine wpAnyH_take (i := 0) (v := ?v0t101) rfl (by kernel_rfl) (by kernel_rfl) (by kernel_rfl) (fun _ _ _ h => h) (Or.inl ⟨by kernel_rfl, ?hy0t101⟩) hHeld ?rest0t101
      case hy0t101 => (intro w hSw; (try dsimp only at hSw); go_simp; try rfl)
      (try simp only [Act.put, List.setIfInBounds_toArray, List.set_cons_zero, List.set_cons_succ])
      refine wpAnyH_take (i := 1) (v := ?v1t102) rfl (by kernel_rfl) (by kernel_rfl) (by kernel_rfl) (fun _ _ _ h => h) (Or.inl ⟨by kernel_rfl, ?hy1t102⟩) hHeld ?rest1t102
      case hy1t102 => (intro w hSw; (try dsimp only at hSw); go_simp; try rfl)
      (try simp only [Act.put, List.setIfInBounds_toArray, List.set_cons_zero, List.set_cons_succ])
      refine wpAnyH_take (i := 2) (v := ?v2t103) rfl (by kernel_rfl) (by kernel_rfl) (by kernel_rfl) (fun _ _ _ h => h) (Or.inl ⟨by kernel_rfl, ?hy2t103⟩) hHeld ?rest2t103
      case hy2t103 => (intro w hSw; (try dsimp only at hSw); go_simp; try rfl)
      (try simp only [Act.put, List.setIfInBounds_toArray, List.set_cons_zero, List.set_cons_succ])
      refine wpAnyH_take (i := 3) (v := ?v3t104) rfl (by kernel_rfl) (by kernel_rfl) (by kernel_rfl) (fun _ _ _ h => h) (Or.inl ⟨by kernel_rfl, ?hy3t104⟩) hHeld ?rest3t104
      case hy3t104 => (intro w hSw; (try dsimp only at hSw); go_simp; try rfl)
      (try simp only [Act.put, List.setIfInBounds_toArray, List.set_cons_zero, List.set_cons_succ])
      refine wpAnyH_take (i := 4) (v := ?v4t105) rfl (by kernel_rfl) (by kernel_rfl) (by kernel_rfl) (fun _ _ _ h => h) (Or.inl ⟨by kernel_rfl, ?hy4t105⟩) hHeld ?rest4t105
      case hy4t105 => (intro w hSw; (try dsimp only at hSw); go_simp; try rfl)
      (try simp only [Act.put, List.setIfInBounds_toArray, List.set_cons_zero, List.set_cons_succ])
      refine wpAnyH_take (i := 7) (v := ?v7t106) rfl (by kernel_rfl) (by kernel_rfl) (by kernel_rfl) (fun _ _ _ h => h) (Or.inl ⟨by kernel_rfl, ?hy7t106⟩) hHeld ?rest7t106
      case hy7t106 => (intro w hSw; (try dsimp only at hSw); go_simp; try rfl)
      (try simp only [Act.put, List.setIfInBounds_toArray, List.set_cons_zero, List.set_cons_succ])
      refine wpAnyH_take (i := 8) (v := ?v8t107) rfl (by kernel_rfl) (by kernel_rfl) (by kernel_rfl) (fun _ _ _ h => h) (Or.inl ⟨by kernel_rfl, ?hy8t107⟩) hHeld ?rest8t107
      case hy8t107 => (intro w hSw; (try dsimp only at hSw); go_simp; try rfl)
      (try simp only [Act.put, List.setIfInBounds_toArray, List.set_cons_zero, List.set_cons_succ])
      refine wpAnyH_take (i := 9) (v := ?v9t108) rfl (by kernel_rfl) (by kernel_rfl) (by kernel_rfl) (fun _ _ _ h => h) (Or.inl ⟨by kernel_rfl, ?hy9t108⟩) hHeld ?rest9t108
      case hy9t108 => (intro w hSw; (try dsimp only at hSw); go_simp; try rfl)
      (try simp only [Act.put, List.setIfInBounds_toArray, List.set_cons_zero, List.set_cons_succ])
      refine wpAnyH_ready (rs := [5, 6]) (by kernel_rfl) (by simp) ?_
      refine AllReadyH.cons (o := _) rfl (fun K hK => ?_) (AllReadyH.cons (o := _) rfl (fun K hK => ?_) AllReadyH.nil)
      · skip
        go_simp
        go_at_call 21
        refine (HC1.out _ _ (HE1.out.below hB0 (Nat.le_refl _))).mono ?_
        intro ev w4 hm
        obtain ⟨v4, rfl, hown, hcall⟩ := hm
        obtain ⟨a4, k4, rfl, hq, _, _, hn4, _⟩ := own_nodes hown rfl
        have hB4 : Below w1.heap.size w1 w4 := hB0.trans (hcall.mono hB0.size)
        go_wp2_with fail
        refine hK.out _ _ hB4 (fun hHeld => ?_)
        clear hK K
        (try simp only [Act.put, List.setIfInBounds_toArray, List.set_cons_zero, List.set_cons_succ])
        refine wpAnyH_ready (rs := [6]) (by kernel_rfl) (by simp) ?_
        refine AllReadyH.cons (o := _) rfl (fun K hK => ?_) AllReadyH.nil
        go_simp
        have hB5 : Below w1.heap.size w1 (w4.alloc (.cells #[.string ⟨#[122, 48]⟩, .string ⟨#[122, 49]⟩, .string ⟨#[122, 50]⟩] 9)) := hB4.alloc hB4.size _
        refine hK.out _ _ hB5 (fun hHeld => ?_)
        clear hK K
        (try simp only [Act.put, List.setIfInBounds_toArray, List.set_cons_zero, List.set_cons_succ])
        refine wpAnyH_take (i := 10) (v := ?v10t109) rfl (by kernel_rfl) (by kernel_rfl) (by kernel_rfl) (fun _ _ _ h => h) (Or.inl ⟨by kernel_rfl, ?hy10t109⟩) hHeld ?rest10t109
        case hy10t109 => (intro w hSw; (try dsimp only at hSw); go_simp; try rfl)
        (try simp only [Act.put, List.setIfInBounds_toArray, List.set_cons_zero, List.set_cons_succ])
        refine wpAnyH_ready (rs := [11]) (by kernel_rfl) (by simp) ?_
        refine AllReadyH.cons (o := _) rfl (fun K hK => ?_) AllReadyH.nil
        go_simp
        refine hK.out _ _ hB5 (fun hHeld => ?_)
        clear hK K
        (try simp only [Act.put, List.setIfInBounds_toArray, List.set_cons_zero, List.set_cons_succ])
        refine wpAnyH_take (i := 12) (v := ?v12t110) rfl (by kernel_rfl) (by kernel_rfl) (by kernel_rfl) (fun _ _ _ h => h) (Or.inl ⟨by kernel_rfl, ?hy12t110⟩) hHeld ?rest12t110
        case hy12t110 => (intro w hSw; (try dsimp only at hSw); go_simp; try rfl)
        (try simp only [Act.put, List.setIfInBounds_toArray, List.set_cons_zero, List.set_cons_succ])
        refine wpAnyH_ready (rs := [13]) (by kernel_rfl) (by simp) ?_
        refine AllReadyH.cons (o := _) rfl (fun K hK => ?_) AllReadyH.nil
        go_simp
        have hB6 : Below w1.heap.size w1 ((w4.alloc (.cells #[.string ⟨#[122, 48]⟩, .string ⟨#[122, 49]⟩, .string ⟨#[122, 50]⟩] 9)).alloc (.cells #[.int .i64 20, .int .i64 0, .int .i64 0, .string ⟨#[]⟩, .string ⟨#[122, 49]⟩, .int .i64 0] 26)) := hB5.alloc hB5.size _
        refine hK.out _ _ hB6 (fun hHeld => ?_)
        clear hK K
        (try simp only [Act.put, List.setIfInBounds_toArray, List.set_cons_zero, List.set_cons_succ])
        have hownE := ((own_mono hown hB0.size).alloc (.cells #[.string ⟨#[122, 48]⟩, .string ⟨#[122, 49]⟩, .string ⟨#[122, 50]⟩] 9)).alloc (.cells #[.int .i64 20, .int .i64 0, .int .i64 0, .string ⟨#[]⟩, .string ⟨#[122, 49]⟩, .int .i64 0] 26)
        have hnew := World.news_of_block (cs := #[.int .i64 20, .int .i64 0, .int .i64 0, .string ⟨#[]⟩, .string ⟨#[122, 49]⟩, .int .i64 0]) (t := 26) (fr := (0, 0)) (heap_alloc_new (w4.alloc (.cells #[.string ⟨#[122, 48]⟩, .string ⟨#[122, 49]⟩, .string ⟨#[122, 50]⟩] 9)) (.cells #[.int .i64 20, .int .i64 0, .int .i64 0, .string ⟨#[]⟩, .string ⟨#[122, 49]⟩, .int .i64 0] 26))
        rw [World.size_alloc] at hnew
        refine wpAnyH_ready (rs := [14]) (by kernel_rfl) (by simp) ?_
        refine AllReadyH.cons (o := _) rfl (fun K hK => ?_) AllReadyH.nil
        refine step_append_lies (o := Oper.mk (some 61) _ _ _ _ none) _ (by rfl) (.tmp 52) (.tmp 60) _ (by rfl) w1.heap.size 26 i0 _ 6 64 Tryd.underlying22 hi hz0 hz1 hz2 rfl (by omega) _ _ _ (by rfl) hownE ⟨w4.heap.size + 1, 0, none⟩ 1 1 [.int .i64 20, .int .i64 0, .int .i64 0, .string ⟨#[]⟩, .string ⟨#[122, 49]⟩, .int .i64 0] (by rfl) (by rfl) hnew (by simp [Value.oneCell']) (by omega) (by unfold maxLen; omega) (by omega) hB6.size _ rfl ?_
        intro gg cc w9 hown9 hgrow9 hat9 hlt9
        have hB9 : Below w1.heap.size w1 w9 := hB6.grown hgrow9 hB6.size (fun j hj => (hownE.lt j hj).1)
        refine hK.out _ _ hB9 (fun hHeld => ?_)
        clear hK K
        (try simp only [Act.put, List.setIfInBounds_toArray, List.set_cons_zero, List.set_cons_succ])
        refine wpAnyH_take (i := 15) (oi := Oper.mk (some 8) _ _ _ _ none) (v := ?v15t111) rfl (by kernel_rfl) (by kernel_rfl) (by kernel_rfl) (fun _ _ _ h => h) (Or.inl ⟨by kernel_rfl, ?hy15t111⟩) hHeld ?rest15t111
        case hy15t111 => (intro w hSw; (try dsimp only at hSw); go_simp; try rfl)
        (try simp only [Act.put, List.setIfInBounds_toArray, List.set_cons_zero, List.set_cons_succ])
        refine wpAnyH_done (by kernel_rfl) ?_ _
        have HO9 : Hid (w9.ownsRow W.heap.size 26 6 (.slice (some ⟨gg, 0, none⟩) (e1.length + 1) cc) (e1 ++ [(⟨20, ⟨0, 0, ⟨#[]⟩⟩, ⟨#[122, 49]⟩, 0⟩ : Nd)]).length (nodesL (e1 ++ [(⟨20, ⟨0, 0, ⟨#[]⟩⟩, ⟨#[122, 49]⟩, 0⟩ : Nd)]))) := by
          have h := own_mono hown9 HB1.out.size
          rw [nodesL_push _ (⟨20, ⟨0, 0, ⟨#[]⟩⟩, ⟨#[122, 49]⟩, 0⟩ : Nd)] at h
          rw [List.length_append]
          exact h
        have HB10 := Lib.hid (HB1.out.trans (hB9.mono HB1.out.size))
        clear hown9 hgrow9 hat9 hlt9 hB9
        go_wp2_with fail
        go_ret
        exact ⟨_, rfl, HO9.out, HB10.out⟩
      · skip
        go_simp
        have hB5 : Below w1.heap.size w1 (w1.drew.alloc (.cells #[.string ⟨#[122, 48]⟩, .string ⟨#[122, 49]⟩, .string ⟨#[122, 50]⟩] 9)) := hB0.alloc hB0.size _
        have hc5 : (w1.drew.alloc (.cells #[.string ⟨#[122, 48]⟩, .string ⟨#[122, 49]⟩, .string ⟨#[122, 50]⟩] 9)).cell? ⟨w1.heap.size, 1, none⟩ = some (.string ⟨#[122, 49]⟩) := new_cells (w := w1.drew) (cs := [.string ⟨#[122, 48]⟩, .string ⟨#[122, 49]⟩, .string ⟨#[122, 50]⟩]) (t := 9) 1 _ rfl
        refine hK.out _ _ hB5 (fun hHeld => ?_)
        clear hK K
        (try simp only [Act.put, List.setIfInBounds_toArray, List.set_cons_zero, List.set_cons_succ])
        refine wpAnyH_take (i := 10) (v := ?v10t112) rfl (by kernel_rfl) (by kernel_rfl) (by kernel_rfl) (fun _ _ _ h => h) (Or.inl ⟨by kernel_rfl, ?hy10t112⟩) hHeld ?rest10t112
        case hy10t112 => (intro w hSw; (try dsimp only at hSw); go_simp; try rfl)
        (try simp only [Act.put, List.setIfInBounds_toArray, List.set_cons_zero, List.set_cons_succ])
        refine wpAnyH_ready (rs := [5, 11]) (by kernel_rfl) (by simp) ?_
        refine AllReadyH.cons (o := _) rfl (fun K hK => ?_) (AllReadyH.cons (o := _) rfl (fun K hK => ?_) AllReadyH.nil)
        · skip
          go_simp
          go_at_call 21
          refine (HC1.out _ _ (HE1.out.below hB5 (Nat.le_refl _))).mono ?_
          intro ev w4 hm
          obtain ⟨v4, rfl, hown, hcall⟩ := hm
          obtain ⟨a4, k4, rfl, hq, _, _, hn4, _⟩ := own_nodes hown rfl
          have hB4 : Below w1.heap.size w1 w4 := hB5.trans (hcall.mono hB5.size)
          have hcl : w4.cell? ⟨w1.heap.size, 1, none⟩ = some (.string ⟨#[122, 49]⟩) := (hcall.cell (p := ⟨w1.heap.size, 1, none⟩) (by show w1.heap.size < (w1.drew.alloc (.cells #[.string ⟨#[122, 48]⟩, .string ⟨#[122, 49]⟩, .string ⟨#[122, 50]⟩] 9)).heap.size; rw [World.size_alloc]; exact Nat.lt_succ_self _)).trans hc5
          go_wp2_with fail
          refine hK.out _ _ hB4 (fun hHeld => ?_)
          clear hK K
          (try simp only [Act.put, List.setIfInBounds_toArray, List.set_cons_zero, List.set_cons_succ])
          refine wpAnyH_ready (rs := [11]) (by kernel_rfl) (by simp) ?_
          refine AllReadyH.cons (o := _) rfl (fun K hK => ?_) AllReadyH.nil
          go_simp
          refine hK.out _ _ hB4 (fun hHeld => ?_)
          clear hK K
          (try simp only [Act.put, List.setIfInBounds_toArray, List.set_cons_zero, List.set_cons_succ])
          refine wpAnyH_take (i := 12) (v := ?v12t113) rfl (by kernel_rfl) (by kernel_rfl) (by kernel_rfl) (fun _ _ _ h => h) (Or.inl ⟨by kernel_rfl, ?hy12t113⟩) hHeld ?rest12t113
          case hy12t113 => (intro w hSw; (try dsimp only at hSw); go_simp; try rfl)
          (try simp only [Act.put, List.setIfInBounds_toArray, List.set_cons_zero, List.set_cons_succ])
          refine wpAnyH_ready (rs := [13]) (by kernel_rfl) (by simp) ?_
          refine AllReadyH.cons (o := _) rfl (fun K hK => ?_) AllReadyH.nil
          go_simp
          have hB6 : Below w1.heap.size w1 (w4.alloc (.cells #[.int .i64 20, .int .i64 0, .int .i64 0, .string ⟨#[]⟩, .string ⟨#[122, 49]⟩, .int .i64 0] 26)) := hB4.alloc hB4.size _
          refine hK.out _ _ hB6 (fun hHeld => ?_)
          clear hK K
          (try simp only [Act.put, List.setIfInBounds_toArray, List.set_cons_zero, List.set_cons_succ])
          have hownE := (own_mono hown hB5.size).alloc (.cells #[.int .i64 20, .int .i64 0, .int .i64 0, .string ⟨#[]⟩, .string ⟨#[122, 49]⟩, .int .i64 0] 26)
          have hnew := World.news_of_block (cs := #[.int .i64 20, .int .i64 0, .int .i64 0, .string ⟨#[]⟩, .string ⟨#[122, 49]⟩, .int .i64 0]) (t := 26) (fr := (0, 0)) (heap_alloc_new w4 (.cells #[.int .i64 20, .int .i64 0, .int .i64 0, .string ⟨#[]⟩, .string ⟨#[122, 49]⟩, .int .i64 0] 26))
          refine wpAnyH_ready (rs := [14]) (by kernel_rfl) (by simp) ?_
          refine AllReadyH.cons (o := _) rfl (fun K hK => ?_) AllReadyH.nil
          refine step_append_lies (o := Oper.mk (some 61) _ _ _ _ none) _ (by rfl) (.tmp 52) (.tmp 60) _ (by rfl) w1.heap.size 26 i0 _ 6 64 Tryd.underlying22 hi hz0 hz1 hz2 rfl (by omega) _ _ _ (by rfl) hownE ⟨w4.heap.size, 0, none⟩ 1 1 [.int .i64 20, .int .i64 0, .int .i64 0, .string ⟨#[]⟩, .string ⟨#[122, 49]⟩, .int .i64 0] (by rfl) (by rfl) hnew (by simp [Value.oneCell']) (by omega) (by unfold maxLen; omega) (by omega) hB6.size _ rfl ?_
          intro gg cc w9 hown9 hgrow9 hat9 hlt9
          have hB9 : Below w1.heap.size w1 w9 := hB6.grown hgrow9 hB6.size (fun j hj => (hownE.lt j hj).1)
          refine hK.out _ _ hB9 (fun hHeld => ?_)
          clear hK K
          (try simp only [Act.put, List.setIfInBounds_toArray, List.set_cons_zero, List.set_cons_succ])
          refine wpAnyH_take (i := 15) (oi := Oper.mk (some 8) _ _ _ _ none) (v := ?v15t114) rfl (by kernel_rfl) (by kernel_rfl) (by kernel_rfl) (fun _ _ _ h => h) (Or.inl ⟨by kernel_rfl, ?hy15t114⟩) hHeld ?rest15t114
          case hy15t114 => (intro w hSw; (try dsimp only at hSw); go_simp; try rfl)
          (try simp only [Act.put, List.setIfInBounds_toArray, List.set_cons_zero, List.set_cons_succ])
          refine wpAnyH_done (by kernel_rfl) ?_ _
          have HO9 : Hid (w9.ownsRow W.heap.size 26 6 (.slice (some ⟨gg, 0, none⟩) (e1.length + 1) cc) (e1 ++ [(⟨20, ⟨0, 0, ⟨#[]⟩⟩, ⟨#[122, 49]⟩, 0⟩ : Nd)]).length (nodesL (e1 ++ [(⟨20, ⟨0, 0, ⟨#[]⟩⟩, ⟨#[122, 49]⟩, 0⟩ : Nd)]))) := by
            have h := own_mono hown9 HB1.out.size
            rw [nodesL_push _ (⟨20, ⟨0, 0, ⟨#[]⟩⟩, ⟨#[122, 49]⟩, 0⟩ : Nd)] at h
            rw [List.length_append]
            exact h
          have HB10 := Lib.hid (HB1.out.trans (hB9.mono HB1.out.size))
          clear hown9 hgrow9 hat9 hlt9 hB9
          go_wp2_with fail
          go_ret
          exact ⟨_, rfl, HO9.out, HB10.out⟩
        · skip
          go_simp
          refine hK.out _ _ hB5 (fun hHeld => ?_)
          clear hK K
          (try simp only [Act.put, List.setIfInBounds_toArray, List.set_cons_zero, List.set_cons_succ])
          refine wpAnyH_take (i := 12) (v := ?v12t115) rfl (by kernel_rfl) (by kernel_rfl) (by kernel_rfl) (fun _ _ _ h => h) (Or.inl ⟨by kernel_rfl, ?hy12t115⟩) hHeld ?rest12t115
          case hy12t115 => (intro w hSw; (try dsimp only at hSw); go_simp; try rfl)
          (try simp only [Act.put, List.setIfInBounds_toArray, List.set_cons_zero, List.set_cons_succ])
          refine wpAnyH_ready (rs := [5, 13]) (by kernel_rfl) (by simp) ?_
          refine AllReadyH.cons (o := _) rfl (fun K hK => ?_) (AllReadyH.cons (o := _) rfl (fun K hK => ?_) AllReadyH.nil)
          · skip
            go_simp
            go_at_call 21
            refine (HC1.out _ _ (HE1.out.below hB5 (Nat.le_refl _))).mono ?_
            intro ev w4 hm
            obtain ⟨v4, rfl, hown, hcall⟩ := hm
            obtain ⟨a4, k4, rfl, hq, _, _, hn4, _⟩ := own_nodes hown rfl
            have hB4 : Below w1.heap.size w1 w4 := hB5.trans (hcall.mono hB5.size)
            go_wp2_with fail
            refine hK.out _ _ hB4 (fun hHeld => ?_)
            clear hK K
            (try simp only [Act.put, List.setIfInBounds_toArray, List.set_cons_zero, List.set_cons_succ])
            refine wpAnyH_ready (rs := [13]) (by kernel_rfl) (by simp) ?_
            refine AllReadyH.cons (o := _) rfl (fun K hK => ?_) AllReadyH.nil
            go_simp
            have hB6 : Below w1.heap.size w1 (w4.alloc (.cells #[.int .i64 20, .int .i64 0, .int .i64 0, .string ⟨#[]⟩, .string ⟨#[122, 49]⟩, .int .i64 0] 26)) := hB4.alloc hB4.size _
            refine hK.out _ _ hB6 (fun hHeld => ?_)
            clear hK K
            (try simp only [Act.put, List.setIfInBounds_toArray, List.set_cons_zero, List.set_cons_succ])
            have hownE := (own_mono hown hB5.size).alloc (.cells #[.int .i64 20, .int .i64 0, .int .i64 0, .string ⟨#[]⟩, .string ⟨#[122, 49]⟩, .int .i64 0] 26)
            have hnew := World.news_of_block (cs := #[.int .i64 20, .int .i64 0, .int .i64 0, .string ⟨#[]⟩, .string ⟨#[122, 49]⟩, .int .i64 0]) (t := 26) (fr := (0, 0)) (heap_alloc_new w4 (.cells #[.int .i64 20, .int .i64 0, .int .i64 0, .string ⟨#[]⟩, .string ⟨#[122, 49]⟩, .int .i64 0] 26))
            refine wpAnyH_ready (rs := [14]) (by kernel_rfl) (by simp) ?_
            refine AllReadyH.cons (o := _) rfl (fun K hK => ?_) AllReadyH.nil
            refine step_append_lies (o := Oper.mk (some 61) _ _ _ _ none) _ (by rfl) (.tmp 52) (.tmp 60) _ (by rfl) w1.heap.size 26 i0 _ 6 64 Tryd.underlying22 hi hz0 hz1 hz2 rfl (by omega) _ _ _ (by rfl) hownE ⟨w4.heap.size, 0, none⟩ 1 1 [.int .i64 20, .int .i64 0, .int .i64 0, .string ⟨#[]⟩, .string ⟨#[122, 49]⟩, .int .i64 0] (by rfl) (by rfl) hnew (by simp [Value.oneCell']) (by omega) (by unfold maxLen; omega) (by omega) hB6.size _ rfl ?_
            intro gg cc w9 hown9 hgrow9 hat9 hlt9
            have hB9 : Below w1.heap.size w1 w9 := hB6.grown hgrow9 hB6.size (fun j hj => (hownE.lt j hj).1)
            refine hK.out _ _ hB9 (fun hHeld => ?_)
            clear hK K
            (try simp only [Act.put, List.setIfInBounds_toArray, List.set_cons_zero, List.set_cons_succ])
            refine wpAnyH_take (i := 15) (oi := Oper.mk (some 8) _ _ _ _ none) (v := ?v15t116) rfl (by kernel_rfl) (by kernel_rfl) (by kernel_rfl) (fun _ _ _ h => h) (Or.inl ⟨by kernel_rfl, ?hy15t116⟩) hHeld ?rest15t116
            case hy15t116 => (intro w hSw; (try dsimp only at hSw); go_simp; try rfl)
            (try simp only [Act.put, List.setIfInBounds_toArray, List.set_cons_zero, List.set_cons_succ])
            refine wpAnyH_done (by kernel_rfl) ?_ _
            have HO9 : Hid (w9.ownsRow W.heap.size 26 6 (.slice (some ⟨gg, 0, none⟩) (e1.length + 1) cc) (e1 ++ [(⟨20, ⟨0, 0, ⟨#[]⟩⟩, ⟨#[122, 49]⟩, 0⟩ : Nd)]).length (nodesL (e1 ++ [(⟨20, ⟨0, 0, ⟨#[]⟩⟩, ⟨#[122, 49]⟩, 0⟩ : Nd)]))) := by
              have h := own_mono hown9 HB1.out.size
              rw [nodesL_push _ (⟨20, ⟨0, 0, ⟨#[]⟩⟩, ⟨#[122, 49]⟩, 0⟩ : Nd)] at h
              rw [List.length_append]
              exact h
            have HB10 := Lib.hid (HB1.out.trans (hB9.mono HB1.out.size))
            clear hown9 hgrow9 hat9 hlt9 hB9
            go_wp2_with fail
            go_ret
            exact ⟨_, rfl, HO9.out, HB10.out⟩
          · skip
            go_simp
            have hB6 : Below w1.heap.size w1 ((w1.drew.alloc (.cells #[.string ⟨#[122, 48]⟩, .string ⟨#[122, 49]⟩, .string ⟨#[122, 50]⟩] 9)).alloc (.cells #[.int .i64 20, .int .i64 0, .int .i64 0, .string ⟨#[]⟩, .string ⟨#[122, 49]⟩, .int .i64 0] 26)) := hB5.alloc hB5.size _
            have hnew0 := World.news_of_block (cs := #[.int .i64 20, .int .i64 0, .int .i64 0, .string ⟨#[]⟩, .string ⟨#[122, 49]⟩, .int .i64 0]) (t := 26) (fr := (0, 0)) (heap_alloc_new (w1.drew.alloc (.cells #[.string ⟨#[122, 48]⟩, .string ⟨#[122, 49]⟩, .string ⟨#[122, 50]⟩] 9)) (.cells #[.int .i64 20, .int .i64 0, .int .i64 0, .string ⟨#[]⟩, .string ⟨#[122, 49]⟩, .int .i64 0] 26))
            rw [World.size_alloc] at hnew0
            refine hK.out _ _ hB6 (fun hHeld => ?_)
            clear hK K
            (try simp only [Act.put, List.setIfInBounds_toArray, List.set_cons_zero, List.set_cons_succ])
            refine wpAnyH_ready (rs := [5]) (by kernel_rfl) (by simp) ?_
            refine AllReadyH.cons (o := _) rfl (fun K hK => ?_) AllReadyH.nil
            go_simp
            go_at_call 21
            refine (HC1.out _ _ (HE1.out.below hB6 (Nat.le_refl _))).mono ?_
            intro ev w4 hm
            obtain ⟨v4, rfl, hown, hcall⟩ := hm
            obtain ⟨a4, k4, rfl, hq, _, _, hn4, _⟩ := own_nodes hown rfl
            have hB4 : Below w1.heap.size w1 w4 := hB6.trans (hcall.mono hB6.size)
            have hnew := news_keep hcall (show w1.heap.size + 1 < ((w1.drew.alloc (.cells #[.string ⟨#[122, 48]⟩, .string ⟨#[122, 49]⟩, .string ⟨#[122, 50]⟩] 9)).alloc (.cells #[.int .i64 20, .int .i64 0, .int .i64 0, .string ⟨#[]⟩, .string ⟨#[122, 49]⟩, .int .i64 0] 26)).heap.size by rw [World.size_alloc, World.size_alloc]; exact Nat.lt_succ_self _) hnew0
            go_wp2_with fail
            refine hK.out _ _ hB4 (fun hHeld => ?_)
            clear hK K
            (try simp only [Act.put, List.setIfInBounds_toArray, List.set_cons_zero, List.set_cons_succ])
            have hownE := own_mono hown hB6.size
            refine wpAnyH_ready (rs := [14]) (by kernel_rfl) (by simp) ?_
            refine AllReadyH.cons (o := _) rfl (fun K hK => ?_) AllReadyH.nil
            refine step_append_lies (o := Oper.mk (some 61) _ _ _ _ none) _ (by rfl) (.tmp 52) (.tmp 60) _ (by rfl) w1.heap.size 26 i0 _ 6 64 Tryd.underlying22 hi hz0 hz1 hz2 rfl (by omega) _ _ _ (by rfl) hownE ⟨w1.heap.size + 1, 0, none⟩ 1 1 [.int .i64 20, .int .i64 0, .int .i64 0, .string ⟨#[]⟩, .string ⟨#[122, 49]⟩, .int .i64 0] (by rfl) (by rfl) hnew (by simp [Value.oneCell']) (by omega) (by unfold maxLen; omega) (by omega) hB4.size _ rfl ?_
            intro gg cc w9 hown9 hgrow9 hat9 hlt9
            have hB9 : Below w1.heap.size w1 w9 := hB4.grown hgrow9 hB4.size (fun j hj => (hownE.lt j hj).1)
            refine hK.out _ _ hB9 (fun hHeld => ?_)
            clear hK K
            (try simp only [Act.put, List.setIfInBounds_toArray, List.set_cons_zero, List.set_cons_succ])
            refine wpAnyH_take (i := 15) (oi := Oper.mk (some 8) _ _ _ _ none) (v := ?v15t117) rfl (by kernel_rfl) (by kernel_rfl) (by kernel_rfl) (fun _ _ _ h => h) (Or.inl ⟨by kernel_rfl, ?hy15t117⟩) hHeld ?rest15t117
            case hy15t117 => (intro w hSw; (try dsimp only at hSw); go_simp; try rfl)
            (try simp only [Act.put, List.setIfInBounds_toArray, List.set_cons_zero, List.set_cons_succ])
            refine wpAnyH_done (by kernel_rfl) ?_ _
            have HO9 : Hid (w9.ownsRow W.heap.size 26 6 (.slice (some ⟨gg, 0, none⟩) (e1.length + 1) cc) (e1 ++ [(⟨20, ⟨0, 0, ⟨#[]⟩⟩, ⟨#[122, 49]⟩, 0⟩ : Nd)]).length (nodesL (e1 ++ [(⟨20, ⟨0, 0, ⟨#[]⟩⟩, ⟨#[122, 49]⟩, 0⟩ : Nd)]))) := by
              have h := own_mono hown9 HB1.out.size
              rw [nodesL_push _ (⟨20, ⟨0, 0, ⟨#[]⟩⟩, ⟨#[122, 49]⟩, 0⟩ : Nd)] at h
              rw [List.length_append]
              exact h
            have HB10 := Lib.hid (HB1.out.trans (hB9.mono HB1.out.size))
            clear hown9 hgrow9 hat9 hlt9 hB9
            go_wp2_with fail
            go_ret
            exact ⟨_, rfl, HO9.out, HB10.out⟩
    · skip
      have HR : Hid (e1 ++ [(⟨20, ⟨0, 0, ⟨#[]⟩⟩, zNm 2, 0⟩ : Nd)] = e1 ++ [(⟨20, ⟨0, 0, ⟨#[]⟩⟩, ⟨#[122, 50]⟩, 0⟩ : Nd)]) := rfl
      rw [HR.out]
      have tr3' : (q9 : Int).tmod 3 = 2 := tr3
      have mr3' : (q9 : Int) % 3 = 2 := mr3
      have hw1 : IntKind.i64.wrap (q9 : Int) = (q9 : Int) := by rw [IntKind.wrap_i64]; omega
      have hw2 : IntKind.i64.wrap ((n : Int).tdiv 9) = (q9 : Int) := by rw [tq9]; exact hw1
      have hw3 : IntKind.i64.wrap ((n : Int) / 9) = (q9 : Int) := by rw [mq9]; exact hw1
      have hw4 : IntKind.i64.wrap ((q9 : Int).tmod 3) = 2 := by rw [tr3']; decide
      have hw5 : IntKind.i64.wrap ((q9 : Int) % 3) = 2 := by rw [mr3']; decide
      have hwe : IntKind.i64.wrap (e - 1) = e - 1 := by rw [IntKind.wrap_i64]; omega
      clear tr3 mr3
      go_enter Tryd.func35, Tryd.ntmps35
      go_wp2_with fail
      refine (CA.out _ _ HE.out).mono ?_
      rintro ev w1 ⟨rfl, hb1⟩
      have HE1 := Lib.hid (HE.out.below hb1 (Nat.le_refl _))
      have HB1 := Lib.hid hb1
      clear hb1 CA HE
      go_wp2_with fail
      have hB0 : Below w1.heap.size w1 w1.drew := (Below.refl _ _).drew
      refine wp_region_held_drew (S := fun w' => Below w1.heap.size w1 w') (by kernel_rfl) hB0 (fun hHeld => ?_)
      refine wpAnyH_take (i := 0) (v := ?v0t201) rfl (by kernel_rfl) (by kernel_rfl) (by kernel_rfl) (fun _ _ _ h => h) (Or.inl ⟨by kernel_rfl, ?hy0t201⟩) hHeld ?rest0t201
      case hy0t201 => (intro w hSw; (try dsimp only at hSw); go_simp; try rfl)
      (try simp only [Act.put, List.setIfInBounds_toArray, List.set_cons_zero, List.set_cons_succ])
      refine wpAnyH_take (i := 1) (v := ?v1t202) rfl (by kernel_rfl) (by kernel_rfl) (by kernel_rfl) (fun _ _ _ h => h) (Or.inl ⟨by kernel_rfl, ?hy1t202⟩) hHeld ?rest1t202
      case hy1t202 => (intro w hSw; (try dsimp only at hSw); go_simp; try rfl)
      (try simp only [Act.put, List.setIfInBounds_toArray, List.set_cons_zero, List.set_cons_succ])
      refine wpAnyH_take (i := 2) (v := ?v2t203) rfl (by kernel_rfl) (by kernel_rfl) (by kernel_rfl) (fun _ _ _ h => h) (Or.inl ⟨by kernel_rfl, ?hy2t203⟩) hHeld ?rest2t203
      case hy2t203 => (intro w hSw; (try dsimp only at hSw); go_simp; try rfl)
      (try simp only [Act.put, List.setIfInBounds_toArray, List.set_cons_zero, List.set_cons_succ])
      refine wpAnyH_take (i := 3) (v := ?v3t204) rfl (by kernel_rfl) (by kernel_rfl) (by kernel_rfl) (fun _ _ _ h => h) (Or.inl ⟨by kernel_rfl, ?hy3t204⟩) hHeld ?rest3t204
      case hy3t204 => (intro w hSw; (try dsimp only at hSw); go_simp; try rfl)
      (try simp only [Act.put, List.setIfInBounds_toArray, List.set_cons_zero, List.set_cons_succ])
      refine wpAnyH_take (i := 4) (v := ?v4t205) rfl (by kernel_rfl) (by kernel_rfl) (by kernel_rfl) (fun _ _ _ h => h) (Or.inl ⟨by kernel_rfl, ?hy4t205⟩) hHeld ?rest4t205
      case hy4t205 => (intro w hSw; (try dsimp only at hSw); go_simp; try rfl)
      (try simp only [Act.put, List.setIfInBounds_toArray, List.set_cons_zero, List.set_cons_succ])
      refine wpAnyH_take (i := 7) (v := ?v7t206) rfl (by kernel_rfl) (by kernel_rfl) (by kernel_rfl) (fun _ _ _ h => h) (Or.inl ⟨by kernel_rfl, ?hy7t206⟩) hHeld ?rest7t206
      case hy7t206 => (intro w hSw; (try dsimp only at hSw); go_simp; try rfl)
      (try simp only [Act.put, List.setIfInBounds_toArray, List.set_cons_zero, List.set_cons_succ])
      refine wpAnyH_take (i := 8) (v := ?v8t207) rfl (by kernel_rfl) (by kernel_rfl) (by kernel_rfl) (fun _ _ _ h => h) (Or.inl ⟨by kernel_rfl, ?hy8t207⟩) hHeld ?rest8t207
      case hy8t207 => (intro w hSw; (try dsimp only at hSw); go_simp; try rfl)
      (try simp only [Act.put, List.setIfInBounds_toArray, List.set_cons_zero, List.set_cons_succ])
      refine wpAnyH_take (i := 9) (v := ?v9t208) rfl (by kernel_rfl) (by kernel_rfl) (by kernel_rfl) (fun _ _ _ h => h) (Or.inl ⟨by kernel_rfl, ?hy9t208⟩) hHeld ?rest9t208
      case hy9t208 => (intro w hSw; (try dsimp only at hSw); go_simp; try rfl)
      (try simp only [Act.put, List.setIfInBounds_toArray, List.set_cons_zero, List.set_cons_succ])
      refine wpAnyH_ready (rs := [5, 6]) (by kernel_rfl) (by simp) ?_
      refine AllReadyH.cons (o := _) rfl (fun K hK => ?_) (AllReadyH.cons (o := _) rfl (fun K hK => ?_) AllReadyH.nil)
      · skip
        go_simp
        go_at_call 21
        refine (HC1.out _ _ (HE1.out.below hB0 (Nat.le_refl _))).mono ?_
        intro ev w4 hm
        obtain ⟨v4, rfl, hown, hcall⟩ := hm
        obtain ⟨a4, k4, rfl, hq, _, _, hn4, _⟩ := own_nodes hown rfl
        have hB4 : Below w1.heap.size w1 w4 := hB0.trans (hcall.mono hB0.size)
        go_wp2_with fail
        refine hK.out _ _ hB4 (fun hHeld => ?_)
        clear hK K
        (try simp only [Act.put, List.setIfInBounds_toArray, List.set_cons_zero, List.set_cons_succ])
        refine wpAnyH_ready (rs := [6]) (by kernel_rfl) (by simp) ?_
        refine AllReadyH.cons (o := _) rfl (fun K hK => ?_) AllReadyH.nil
        go_simp
        have hB5 : Below w1.heap.size w1 (w4.alloc (.cells #[.string ⟨#[122, 48]⟩, .string ⟨#[122, 49]⟩, .string ⟨#[122, 50]⟩] 9)) := hB4.alloc hB4.size _
        refine hK.out _ _ hB5 (fun hHeld => ?_)
        clear hK K
        (try simp only [Act.put, List.setIfInBounds_toArray, List.set_cons_zero, List.set_cons_succ])
        refine wpAnyH_take (i := 10) (v := ?v10t209) rfl (by kernel_rfl) (by kernel_rfl) (by kernel_rfl) (fun _ _ _ h => h) (Or.inl ⟨by kernel_rfl, ?hy10t209⟩) hHeld ?rest10t209
        case hy10t209 => (intro w hSw; (try dsimp only at hSw); go_simp; try rfl)
        (try simp only [Act.put, List.setIfInBounds_toArray, List.set_cons_zero, List.set_cons_succ])
        refine wpAnyH_ready (rs := [11]) (by kernel_rfl) (by simp) ?_
        refine AllReadyH.cons (o := _) rfl (fun K hK => ?_) AllReadyH.nil
        go_simp
        refine hK.out _ _ hB5 (fun hHeld => ?_)
        clear hK K
        (try simp only [Act.put, List.setIfInBounds_toArray, List.set_cons_zero, List.set_cons_succ])
        refine wpAnyH_take (i := 12) (v := ?v12t210) rfl (by kernel_rfl) (by kernel_rfl) (by kernel_rfl) (fun _ _ _ h => h) (Or.inl ⟨by kernel_rfl, ?hy12t210⟩) hHeld ?rest12t210
        case hy12t210 => (intro w hSw; (try dsimp only at hSw); go_simp; try rfl)
        (try simp only [Act.put, List.setIfInBounds_toArray, List.set_cons_zero, List.set_cons_succ])
        refine wpAnyH_ready (rs := [13]) (by kernel_rfl) (by simp) ?_
        refine AllReadyH.cons (o := _) rfl (fun K hK => ?_) AllReadyH.nil
        go_simp
        have hB6 : Below w1.heap.size w1 ((w4.alloc (.cells #[.string ⟨#[122, 48]⟩, .string ⟨#[122, 49]⟩, .string ⟨#[122, 50]⟩] 9)).alloc (.cells #[.int .i64 20, .int .i64 0, .int .i64 0, .string ⟨#[]⟩, .string ⟨#[122, 50]⟩, .int .i64 0] 26)) := hB5.alloc hB5.size _
        refine hK.out _ _ hB6 (fun hHeld => ?_)
        clear hK K
        (try simp only [Act.put, List.setIfInBounds_toArray, List.set_cons_zero, List.set_cons_succ])
        have hownE := ((own_mono hown hB0.size).alloc (.cells #[.string ⟨#[122, 48]⟩, .string ⟨#[122, 49]⟩, .string ⟨#[122, 50]⟩] 9)).alloc (.cells #[.int .i64 20, .int .i64 0, .int .i64 0, .string ⟨#[]⟩, .string ⟨#[122, 50]⟩, .int .i64 0] 26)
        have hnew := World.news_of_block (cs := #[.int .i64 20, .int .i64 0, .int .i64 0, .string ⟨#[]⟩, .string ⟨#[122, 50]⟩, .int .i64 0]) (t := 26) (fr := (0, 0)) (heap_alloc_new (w4.alloc (.cells #[.string ⟨#[122, 48]⟩, .string ⟨#[122, 49]⟩, .string ⟨#[122, 50]⟩] 9)) (.cells #[.int .i64 20, .int .i64 0, .int .i64 0, .string ⟨#[]⟩, .string ⟨#[122, 50]⟩, .int .i64 0] 26))
        rw [World.size_alloc] at hnew
        refine wpAnyH_ready (rs := [14]) (by kernel_rfl) (by simp) ?_
        refine AllReadyH.cons (o := _) rfl (fun K hK => ?_) AllReadyH.nil
        refine step_append_lies (o := Oper.mk (some 61) _ _ _ _ none) _ (by rfl) (.tmp 52) (.tmp 60) _ (by rfl) w1.heap.size 26 i0 _ 6 64 Tryd.underlying22 hi hz0 hz1 hz2 rfl (by omega) _ _ _ (by rfl) hownE ⟨w4.heap.size + 1, 0, none⟩ 1 1 [.int .i64 20, .int .i64 0, .int .i64 0, .string ⟨#[]⟩, .string ⟨#[122, 50]⟩, .int .i64 0] (by rfl) (by rfl) hnew (by simp [Value.oneCell']) (by omega) (by unfold maxLen; omega) (by omega) hB6.size _ rfl ?_
        intro gg cc w9 hown9 hgrow9 hat9 hlt9
        have hB9 : Below w1.heap.size w1 w9 := hB6.grown hgrow9 hB6.size (fun j hj => (hownE.lt j hj).1)
        refine hK.out _ _ hB9 (fun hHeld => ?_)
        clear hK K
        (try simp only [Act.put, List.setIfInBounds_toArray, List.set_cons_zero, List.set_cons_succ])
        refine wpAnyH_take (i := 15) (oi := Oper.mk (some 8) _ _ _ _ none) (v := ?v15t211) rfl (by kernel_rfl) (by kernel_rfl) (by kernel_rfl) (fun _ _ _ h => h) (Or.inl ⟨by kernel_rfl, ?hy15t211⟩) hHeld ?rest15t211
        case hy15t211 => (intro w hSw; (try dsimp only at hSw); go_simp; try rfl)
        (try simp only [Act.put, List.setIfInBounds_toArray, List.set_cons_zero, List.set_cons_succ])
        refine wpAnyH_done (by kernel_rfl) ?_ _
        have HO9 : Hid (w9.ownsRow W.heap.size 26 6 (.slice (some ⟨gg, 0, none⟩) (e1.length + 1) cc) (e1 ++ [(⟨20, ⟨0, 0, ⟨#[]⟩⟩, ⟨#[122, 50]⟩, 0⟩ : Nd)]).length (nodesL (e1 ++ [(⟨20, ⟨0, 0, ⟨#[]⟩⟩, ⟨#[122, 50]⟩, 0⟩ : Nd)]))) := by
          have h := own_mono hown9 HB1.out.size
          rw [nodesL_push _ (⟨20, ⟨0, 0, ⟨#[]⟩⟩, ⟨#[122, 50]⟩, 0⟩ : Nd)] at h
          rw [List.length_append]
          exact h
        have HB10 := Lib.hid (HB1.out.trans (hB9.mono HB1.out.size))
        clear hown9 hgrow9 hat9 hlt9 hB9
        go_wp2_with fail
        go_ret
        exact ⟨_, rfl, HO9.out, HB10.out⟩
      · skip
        go_simp
        have hB5 : Below w1.heap.size w1 (w1.drew.alloc (.cells #[.string ⟨#[122, 48]⟩, .string ⟨#[122, 49]⟩, .string ⟨#[122, 50]⟩] 9)) := hB0.alloc hB0.size _
        have hc5 : (w1.drew.alloc (.cells #[.string ⟨#[122, 48]⟩, .string ⟨#[122, 49]⟩, .string ⟨#[122, 50]⟩] 9)).cell? ⟨w1.heap.size, 2, none⟩ = some (.string ⟨#[122, 50]⟩) := new_cells (w := w1.drew) (cs := [.string ⟨#[122, 48]⟩, .string ⟨#[122, 49]⟩, .string ⟨#[122, 50]⟩]) (t := 9) 2 _ rfl
        refine hK.out _ _ hB5 (fun hHeld => ?_)
        clear hK K
        (try simp only [Act.put, List.setIfInBounds_toArray, List.set_cons_zero, List.set_cons_succ])
        refine wpAnyH_take (i := 10) (v := ?v10t212) rfl (by kernel_rfl) (by kernel_rfl) (by kernel_rfl) (fun _ _ _ h => h) (Or.inl ⟨by kernel_rfl, ?hy10t212⟩) hHeld ?rest10t212
        case hy10t212 => (intro w hSw; (try dsimp only at hSw); go_simp; try rfl)
        (try simp only [Act.put, List.setIfInBounds_toArray, List.set_cons_zero, List.set_cons_succ])
        refine wpAnyH_ready (rs := [5, 11]) (by kernel_rfl) (by simp) ?_
        refine AllReadyH.cons (o := _) rfl (fun K hK => ?_) (AllReadyH.cons (o := _) rfl (fun K hK => ?_) AllReadyH.nil)
        · skip
          go_simp
          go_at_call 21
          refine (HC1.out _ _ (HE1.out.below hB5 (Nat.le_refl _))).mono ?_
          intro ev w4 hm
          obtain ⟨v4, rfl, hown, hcall⟩ := hm
          obtain ⟨a4, k4, rfl, hq, _, _, hn4, _⟩ := own_nodes hown rfl
          have hB4 : Below w1.heap.size w1 w4 := hB5.trans (hcall.mono hB5.size)
          have hcl : w4.cell? ⟨w1.heap.size, 2, none⟩ = some (.string ⟨#[122, 50]⟩) := (hcall.cell (p := ⟨w1.heap.size, 2, none⟩) (by show w1.heap.size < (w1.drew.alloc (.cells #[.string ⟨#[122, 48]⟩, .string ⟨#[122, 49]⟩, .string ⟨#[122, 50]⟩] 9)).heap.size; rw [World.size_alloc]; exact Nat.lt_succ_self _)).trans hc5
          go_wp2_with fail
          refine hK.out _ _ hB4 (fun hHeld => ?_)
          clear hK K
          (try simp only [Act.put, List.setIfInBounds_toArray, List.set_cons_zero, List.set_cons_succ])
          refine wpAnyH_ready (rs := [11]) (by kernel_rfl) (by simp) ?_
          refine AllReadyH.cons (o := _) rfl (fun K hK => ?_) AllReadyH.nil
          go_simp
          refine hK.out _ _ hB4 (fun hHeld => ?_)
          clear hK K
          (try simp only [Act.put, List.setIfInBounds_toArray, List.set_cons_zero, List.set_cons_succ])
          refine wpAnyH_take (i := 12) (v := ?v12t213) rfl (by kernel_rfl) (by kernel_rfl) (by kernel_rfl) (fun _ _ _ h => h) (Or.inl ⟨by kernel_rfl, ?hy12t213⟩) hHeld ?rest12t213
          case hy12t213 => (intro w hSw; (try dsimp only at hSw); go_simp; try rfl)
          (try simp only [Act.put, List.setIfInBounds_toArray, List.set_cons_zero, List.set_cons_succ])
          refine wpAnyH_ready (rs := [13]) (by kernel_rfl) (by simp) ?_
          refine AllReadyH.cons (o := _) rfl (fun K hK => ?_) AllReadyH.nil
          go_simp
          have hB6 : Below w1.heap.size w1 (w4.alloc (.cells #[.int .i64 20, .int .i64 0, .int .i64 0, .string ⟨#[]⟩, .string ⟨#[122, 50]⟩, .int .i64 0] 26)) := hB4.alloc hB4.size _
          refine hK.out _ _ hB6 (fun hHeld => ?_)
          clear hK K
          (try simp only [Act.put, List.setIfInBounds_toArray, List.set_cons_zero, List.set_cons_succ])
          have hownE := (own_mono hown hB5.size).alloc (.cells #[.int .i64 20, .int .i64 0, .int .i64 0, .string ⟨#[]⟩, .string ⟨#[122, 50]⟩, .int .i64 0] 26)
          have hnew := World.news_of_block (cs := #[.int .i64 20, .int .i64 0, .int .i64 0, .string ⟨#[]⟩, .string ⟨#[122, 50]⟩, .int .i64 0]) (t := 26) (fr := (0, 0)) (heap_alloc_new w4 (.cells #[.int .i64 20, .int .i64 0, .int .i64 0, .string ⟨#[]⟩, .string ⟨#[122, 50]⟩, .int .i64 0] 26))
          refine wpAnyH_ready (rs := [14]) (by kernel_rfl) (by simp) ?_
          refine AllReadyH.cons (o := _) rfl (fun K hK => ?_) AllReadyH.nil
          refine step_append_lies (o := Oper.mk (some 61) _ _ _ _ none) _ (by rfl) (.tmp 52) (.tmp 60) _ (by rfl) w1.heap.size 26 i0 _ 6 64 Tryd.underlying22 hi hz0 hz1 hz2 rfl (by omega) _ _ _ (by rfl) hownE ⟨w4.heap.size, 0, none⟩ 1 1 [.int .i64 20, .int .i64 0, .int .i64 0, .string ⟨#[]⟩, .string ⟨#[122, 50]⟩, .int .i64 0] (by rfl) (by rfl) hnew (by simp [Value.oneCell']) (by omega) (by unfold maxLen; omega) (by omega) hB6.size _ rfl ?_
          intro gg cc w9 hown9 hgrow9 hat9 hlt9
          have hB9 : Below w1.heap.size w1 w9 := hB6.grown hgrow9 hB6.size (fun j hj => (hownE.lt j hj).1)
          refine hK.out _ _ hB9 (fun hHeld => ?_)
          clear hK K
          (try simp only [Act.put, List.setIfInBounds_toArray, List.set_cons_zero, List.set_cons_succ])
          refine wpAnyH_take (i := 15) (oi := Oper.mk (some 8) _ _ _ _ none) (v := ?v15t214) rfl (by kernel_rfl) (by kernel_rfl) (by kernel_rfl) (fun _ _ _ h => h) (Or.inl ⟨by kernel_rfl, ?hy15t214⟩) hHeld ?rest15t214
          case hy15t214 => (intro w hSw; (try dsimp only at hSw); go_simp; try rfl)
          (try simp only [Act.put, List.setIfInBounds_toArray, List.set_cons_zero, List.set_cons_succ])
          refine wpAnyH_done (by kernel_rfl) ?_ _
          have HO9 : Hid (w9.ownsRow W.heap.size 26 6 (.slice (some ⟨gg, 0, none⟩) (e1.length + 1) cc) (e1 ++ [(⟨20, ⟨0, 0, ⟨#[]⟩⟩, ⟨#[122, 50]⟩, 0⟩ : Nd)]).length (nodesL (e1 ++ [(⟨20, ⟨0, 0, ⟨#[]⟩⟩, ⟨#[122, 50]⟩, 0⟩ : Nd)]))) := by
            have h := own_mono hown9 HB1.out.size
            rw [nodesL_push _ (⟨20, ⟨0, 0, ⟨#[]⟩⟩, ⟨#[122, 50]⟩, 0⟩ : Nd)] at h
            rw [List.length_append]
            exact h
          have HB10 := Lib.hid (HB1.out.trans (hB9.mono HB1.out.size))
          clear hown9 hgrow9 hat9 hlt9 hB9
          go_wp2_with fail
          go_ret
          exact ⟨_, rfl, HO9.out, HB10.out⟩
        · skip
          go_simp
          refine hK.out _ _ hB5 (fun hHeld => ?_)
          clear hK K
          (try simp only [Act.put, List.setIfInBounds_toArray, List.set_cons_zero, List.set_cons_succ])
          refine wpAnyH_take (i := 12) (v := ?v12t215) rfl (by kernel_rfl) (by kernel_rfl) (by kernel_rfl) (fun _ _ _ h => h) (Or.inl ⟨by kernel_rfl, ?hy12t215⟩) hHeld ?rest12t215
          case hy12t215 => (intro w hSw; (try dsimp only at hSw); go_simp; try rfl)
          (try simp only [Act.put, List.setIfInBounds_toArray, List.set_cons_zero, List.set_cons_succ])
          refine wpAnyH_ready (rs := [5, 13]) (by kernel_rfl) (by simp) ?_
          refine AllReadyH.cons (o := _) rfl (fun K hK => ?_) (AllReadyH.cons (o := _) rfl (fun K hK => ?_) AllReadyH.nil)
          · skip
            go_simp
            go_at_call 21
            refine (HC1.out _ _ (HE1.out.below hB5 (Nat.le_refl _))).mono ?_
            intro ev w4 hm
            obtain ⟨v4, rfl, hown, hcall⟩ := hm
            obtain ⟨a4, k4, rfl, hq, _, _, hn4, _⟩ := own_nodes hown rfl
            have hB4 : Below w1.heap.size w1 w4 := hB5.trans (hcall.mono hB5.size)
            go_wp2_with fail
            refine hK.out _ _ hB4 (fun hHeld => ?_)
            clear hK K
            (try simp only [Act.put, List.setIfInBounds_toArray, List.set_cons_zero, List.set_cons_succ])
            refine wpAnyH_ready (rs := [13]) (by kernel_rfl) (by simp) ?_
            refine AllReadyH.cons (o := _) rfl (fun K hK => ?_) AllReadyH.nil
            go_simp
            have hB6 : Below w1.heap.size w1 (w4.alloc (.cells #[.int .i64 20, .int .i64 0, .int .i64 0, .string ⟨#[]⟩, .string ⟨#[122, 50]⟩, .int .i64 0] 26)) := hB4.alloc hB4.size _
            refine hK.out _ _ hB6 (fun hHeld => ?_)
            clear hK K
            (try simp only [Act.put, List.setIfInBounds_toArray, List.set_cons_zero, List.set_cons_succ])
            have hownE := (own_mono hown hB5.size).alloc (.cells #[.int .i64 20, .int .i64 0, .int .i64 0, .string ⟨#[]⟩, .string ⟨#[122, 50]⟩, .int .i64 0] 26)
            have hnew := World.news_of_block (cs := #[.int .i64 20, .int .i64 0, .int .i64 0, .string ⟨#[]⟩, .string ⟨#[122, 50]⟩, .int .i64 0]) (t := 26) (fr := (0, 0)) (heap_alloc_new w4 (.cells #[.int .i64 20, .int .i64 0, .int .i64 0, .string ⟨#[]⟩, .string ⟨#[122, 50]⟩, .int .i64 0] 26))
            refine wpAnyH_ready (rs := [14]) (by kernel_rfl) (by simp) ?_
            refine AllReadyH.cons (o := _) rfl (fun K hK => ?_) AllReadyH.nil
            refine step_append_lies (o := Oper.mk (some 61) _ _ _ _ none) _ (by rfl) (.tmp 52) (.tmp 60) _ (by rfl) w1.heap.size 26 i0 _ 6 64 Tryd.underlying22 hi hz0 hz1 hz2 rfl (by omega) _ _ _ (by rfl) hownE ⟨w4.heap.size, 0, none⟩ 1 1 [.int .i64 20, .int .i64 0, .int .i64 0, .string ⟨#[]⟩, .string ⟨#[122, 50]⟩, .int .i64 0] (by rfl) (by rfl) hnew (by simp [Value.oneCell']) (by omega) (by unfold maxLen; omega) (by omega) hB6.size _ rfl ?_
            intro gg cc w9 hown9 hgrow9 hat9 hlt9
            have hB9 : Below w1.heap.size w1 w9 := hB6.grown hgrow9 hB6.size (fun j hj => (hownE.lt j hj).1)
            refine hK.out _ _ hB9 (fun hHeld => ?_)
            clear hK K
            (try simp only [Act.put, List.setIfInBounds_toArray, List.set_cons_zero, List.set_cons_succ])
            refine wpAnyH_take (i := 15) (oi := Oper.mk (some 8) _ _ _ _ none) (v := ?v15t216) rfl (by kernel_rfl) (by kernel_rfl) (by kernel_rfl) (fun _ _ _ h => h) (Or.inl ⟨by kernel_rfl, ?hy15t216⟩) hHeld ?rest15t216
            case hy15t216 => (intro w hSw; (try dsimp only at hSw); go_simp; try rfl)
            (try simp only [Act.put, List.setIfInBounds_toArray, List.set_cons_zero, List.set_cons_succ])
            refine wpAnyH_done (by kernel_rfl) ?_ _
            have HO9 : Hid (w9.ownsRow W.heap.size 26 6 (.slice (some ⟨gg, 0, none⟩) (e1.length + 1) cc) (e1 ++ [(⟨20, ⟨0, 0, ⟨#[]⟩⟩, ⟨#[122, 50]⟩, 0⟩ : Nd)]).length (nodesL (e1 ++ [(⟨20, ⟨0, 0, ⟨#[]⟩⟩, ⟨#[122, 50]⟩, 0⟩ : Nd)]))) := by
              have h := own_mono hown9 HB1.out.size
              rw [nodesL_push _ (⟨20, ⟨0, 0, ⟨#[]⟩⟩, ⟨#[122, 50]⟩, 0⟩ : Nd)] at h
              rw [List.length_append]
              exact h
            have HB10 := Lib.hid (HB1.out.trans (hB9.mono HB1.out.size))
            clear hown9 hgrow9 hat9 hlt9 hB9
            go_wp2_with fail
            go_ret
            exact ⟨_, rfl, HO9.out, HB10.out⟩
          · skip
            go_simp
            have hB6 : Below w1.heap.size w1 ((w1.drew.alloc (.cells #[.string ⟨#[122, 48]⟩, .string ⟨#[122, 49]⟩, .string ⟨#[122, 50]⟩] 9)).alloc (.cells #[.int .i64 20, .int .i64 0, .int .i64 0, .string ⟨#[]⟩, .string ⟨#[122, 50]⟩, .int .i64 0] 26)) := hB5.alloc hB5.size _
            have hnew0 := World.news_of_block (cs := #[.int .i64 20, .int .i64 0, .int .i64 0, .string ⟨#[]⟩, .string ⟨#[122, 50]⟩, .int .i64 0]) (t := 26) (fr := (0, 0)) (heap_alloc_new (w1.drew.alloc (.cells #[.string ⟨#[122, 48]⟩, .string ⟨#[122, 49]⟩, .string ⟨#[122, 50]⟩] 9)) (.cells #[.int .i64 20, .int .i64 0, .int .i64 0, .string ⟨#[]⟩, .string ⟨#[122, 50]⟩, .int .i64 0] 26))
            rw [World.size_alloc] at hnew0
            refine hK.out _ _ hB6 (fun hHeld => ?_)
            clear hK K
            (try simp only [Act.put, List.setIfInBounds_toArray, List.set_cons_zero, List.set_cons_succ])
            refine wpAnyH_ready (rs := [5]) (by kernel_rfl) (by simp) ?_
            refine AllReadyH.cons (o := _) rfl (fun K hK => ?_) AllReadyH.nil
            go_simp
            go_at_call 21
            refine (HC1.out _ _ (HE1.out.below hB6 (Nat.le_refl _))).mono ?_
            intro ev w4 hm
            obtain ⟨v4, rfl, hown, hcall⟩ := hm
            obtain ⟨a4, k4, rfl, hq, _, _, hn4, _⟩ := own_nodes hown rfl
            have hB4 : Below w1.heap.size w1 w4 := hB6.trans (hcall.mono hB6.size)
            have hnew := news_keep hcall (show w1.heap.size + 1 < ((w1.drew.alloc (.cells #[.string ⟨#[122, 48]⟩, .string ⟨#[122, 49]⟩, .string ⟨#[122, 50]⟩] 9)).alloc (.cells #[.int .i64 20, .int .i64 0, .int .i64 0, .string ⟨#[]⟩, .string ⟨#[122, 50]⟩, .int .i64 0] 26)).heap.size by rw [World.size_alloc, World.size_alloc]; exact Nat.lt_succ_self _) hnew0
            go_wp2_with fail
            refine hK.out _ _ hB4 (fun hHeld => ?_)
            clear hK K
            (try simp only [Act.put, List.setIfInBounds_toArray, List.set_cons_zero, List.set_cons_succ])
            have hownE := own_mono hown hB6.size
            refine wpAnyH_ready (rs := [14]) (by kernel_rfl) (by simp) ?_
            refine AllReadyH.cons (o := _) rfl (fun K hK => ?_) AllReadyH.nil
            refine step_append_lies (o := Oper.mk (some 61) _ _ _ _ none) _ (by rfl) (.tmp 52) (.tmp 60) _ (by rfl) w1.heap.size 26 i0 _ 6 64 Tryd.underlying22 hi hz0 hz1 hz2 rfl (by omega) _ _ _ (by rfl) hownE ⟨w1.heap.size + 1, 0, none⟩ 1 1 [.int .i64 20, .int .i64 0, .int .i64 0, .string ⟨#[]⟩, .string ⟨#[122, 50]⟩, .int .i64 0] (by rfl) (by rfl) hnew (by simp [Value.oneCell']) (by omega) (by unfold maxLen; omega) (by omega) hB4.size _ rfl ?_
            intro gg cc w9 hown9 hgrow9 hat9 hlt9
            have hB9 : Below w1.heap.size w1 w9 := hB4.grown hgrow9 hB4.size (fun j hj => (hownE.lt j hj).1)
            refine hK.out _ _ hB9 (fun hHeld => ?_)
            clear hK K
            (try simp only [Act.put, List.setIfInBounds_toArray, List.set_cons_zero, List.set_cons_succ])
            refine wpAnyH_take (i := 15) (oi := Oper.mk (some 8) _ _ _ _ none) (v := ?v15t217) rfl (by kernel_rfl) (by kernel_rfl) (by kernel_rfl) (fun _ _ _ h => h) (Or.inl ⟨by kernel_rfl, ?hy15t217⟩) hHeld ?rest15t217
            case hy15t217 => (intro w hSw; (try dsimp only at hSw); go_simp; try rfl)
            (try simp only [Act.put, List.setIfInBounds_toArray, List.set_cons_zero, List.set_cons_succ])
            refine wpAnyH_done (by kernel_rfl) ?_ _
            have HO9 : Hid (w9.ownsRow W.heap.size 26 6 (.slice (some ⟨gg, 0, none⟩) (e1.length + 1) cc) (e1 ++ [(⟨20, ⟨0, 0, ⟨#[]⟩⟩, ⟨#[122, 50]⟩, 0⟩ : Nd)]).length (nodesL (e1 ++ [(⟨20, ⟨0, 0, ⟨#[]⟩⟩, ⟨#[122, 50]⟩, 0⟩ : Nd)]))) := by
              have h := own_mono hown9 HB1.out.size
              rw [nodesL_push _ (⟨20, ⟨0, 0, ⟨#[]⟩⟩, ⟨#[122, 50]⟩, 0⟩ : Nd)] at h
              rw [List.length_append]
              exact h
            have HB10 := Lib.hid (HB1.out.trans (hB9.mono HB1.out.size))
            clear hown9 hgrow9 hat9 hlt9 hB9
            go_wp2_with fail
            go_ret
            exact ⟨_, rfl, HO9.out, HB10.out⟩
  by_cases cr93 : r9 = 3
  · subst cr93
    obtain ⟨e1, g1, C1⟩ := IH 4 (2 * p + 1) (by omega) (by omega) (by omega) (by omega)
    obtain ⟨e2, g2, C2⟩ := IH 4 (2 * p + 2) (by omega) (by omega) (by omega) (by omega)
    have hl1 := g1.le hd
    have hl2 := g2.le hd
    have CU := Lib.hid (fun a c cb W (hi : IsNodes W a e2.length e2) (hC : ColsX W cb) => munk_any a e2.length c cb e2 W hi (by omega) (fun t ht => by have := g2.nms t ht; omega) (g2.valN hd).1 g2.nds hC)
    by_cases hu : unkB e2 = true
    · refine ⟨_, (GoodE.leaf (k := 2) q9).mono (Nat.zero_le _), fun cb W hE => ?_⟩
      rw [hu] at CU
      have HE := Lib.hid hE
      have HC1 := Lib.hid C1
      have HC2 := Lib.hid C2
      have CL := Lib.hid (fun W (hC : ColsX W cb) => mleaf_any 2 (by omega) cb q9 (by omega) W hC)
      clear hE IH hbd hp C1 g1 C2 g2
      go_enter Tryd.func35, Tryd.ntmps35
      go_wp2_with fail
      refine (CA.out _ _ HE.out).mono ?_
      rintro ev w1 ⟨rfl, hb1⟩
      have HE1 := Lib.hid (HE.out.below hb1 (Nat.le_refl _))
      have HB1 := Lib.hid hb1
      clear hb1 CA HE
      go_wp2_with fail
      refine (HC1.out _ _ HE1.out).mono ?_
      intro ev w2 hm
      obtain ⟨a1, k1, rfl, hi1, hn1, hb2⟩ := hm.nodes
      have HB2 := Lib.hid (HB1.out.trans (hb2.mono HB1.out.size))
      have HE2 := Lib.hid (HE1.out.below hb2 (Nat.le_refl _))
      have HI11 := Lib.hid hi1
      have HN1 := Lib.hid hn1
      clear hm hi1 hn1 hb2 HC1 HE1 HB1
      go_wp2_with fail
      refine (HC2.out _ _ HE2.out).mono ?_
      intro ev w3 hm
      obtain ⟨a2, k2, rfl, hi2, hn2, hb3⟩ := hm.nodes
      have HB3 := Lib.hid (HB2.out.trans (hb3.mono HB2.out.size))
      have HE3 := Lib.hid (HE2.out.below hb3 (Nat.le_refl _))
      have HI22 := Lib.hid hi2
      have HN2 := Lib.hid hn2
      have HI12 := Lib.hid (HI11.out.below hb3 (Nat.le_refl _))
      clear HI11
      clear hm hi2 hn2 hb3 HC2 HE2 HB2
      go_wp2_with fail
      refine (CU.out _ _ _ _ HI22.out HE3.out.cols).mono ?_
      rintro ev w4 ⟨rfl, hb4⟩
      have HB4 := Lib.hid (HB3.out.trans (hb4.mono HB3.out.size))
      have HE4 := Lib.hid (HE3.out.below hb4 (Nat.le_refl _))
      clear hb4 CU
      go_wp2_with fail
      refine (CL.out _ HE4.out.cols).mono ?_
      intro ev wf hm
      obtain ⟨v, rfl, hown, hbf⟩ := hm.up HB4.out
      have H := Lib.hid (And.intro hown hbf)
      clear hown hbf hm
      go_wp2_with fail
      go_ret
      exact ⟨_, rfl, H.out.1, H.out.2⟩
    · have hu2 : unkB e2 = false := by simpa using hu
      refine ⟨_, GoodE.app2 (op := 5) (by omega) g1 g2 (by omega), fun cb W hE => ?_⟩
      rw [hu2] at CU
      have HE := Lib.hid hE
      have HC1 := Lib.hid C1
      have HC2 := Lib.hid C2
      clear hE IH hbd hp C1 g1 C2 g2
      go_enter Tryd.func35, Tryd.ntmps35
      go_wp2_with fail
      refine (CA.out _ _ HE.out).mono ?_
      rintro ev w1 ⟨rfl, hb1⟩
      have HE1 := Lib.hid (HE.out.below hb1 (Nat.le_refl _))
      have HB1 := Lib.hid hb1
      clear hb1 CA HE
      go_wp2_with fail
      refine (HC1.out _ _ HE1.out).mono ?_
      intro ev w2 hm
      obtain ⟨a1, k1, rfl, hi1, hn1, hb2⟩ := hm.nodes
      have HB2 := Lib.hid (HB1.out.trans (hb2.mono HB1.out.size))
      have HE2 := Lib.hid (HE1.out.below hb2 (Nat.le_refl _))
      have HI11 := Lib.hid hi1
      have HN1 := Lib.hid hn1
      clear hm hi1 hn1 hb2 HC1 HE1 HB1
      go_wp2_with fail
      refine (HC2.out _ _ HE2.out).mono ?_
      intro ev w3 hm
      obtain ⟨a2, k2, rfl, hi2, hn2, hb3⟩ := hm.nodes
      have HB3 := Lib.hid (HB2.out.trans (hb3.mono HB2.out.size))
      have HE3 := Lib.hid (HE2.out.below hb3 (Nat.le_refl _))
      have HI22 := Lib.hid hi2
      have HN2 := Lib.hid hn2
      have HI12 := Lib.hid (HI11.out.below hb3 (Nat.le_refl _))
      clear HI11
      clear hm hi2 hn2 hb3 HC2 HE2 HB2
      go_wp2_with fail
      refine (CU.out _ _ _ _ HI22.out HE3.out.cols).mono ?_
      rintro ev w4 ⟨rfl, hb4⟩
      have HB4 := Lib.hid (HB3.out.trans (hb4.mono HB3.out.size))
      have HI14 := Lib.hid (HI12.out.below hb4 (Nat.le_refl _))
      have HI24 := Lib.hid (HI22.out.below hb4 (Nat.le_refl _))
      clear hb4 CU
      go_wp2_with fail
      refine (mapp2 (5) HI14.out HN1.out hl1 HI24.out HN2.out hl2 HB4.out).mono ?_
      rintro ev wf ⟨v, rfl, hown, hbf⟩
      have H := Lib.hid (And.intro hown hbf)
      clear hown hbf
      go_wp2_with fail
      go_ret
      exact ⟨_, rfl, H.out.1, H.out.2⟩
  have br90 : ((r9 : Int) == 0) = false := by simp only [beq_eq_false_iff_ne]; omega
  have br91 : ((r9 : Int) == 1) = false := by simp only [beq_eq_false_iff_ne]; omega
  have br92 : ((r9 : Int) == 2) = false := by simp only [beq_eq_false_iff_ne]; omega
  have br93 : ((r9 : Int) == 3) = false := by simp only [beq_eq_false_iff_ne]; omega
  obtain ⟨e1, g1, C1⟩ := IH (2) (2 * p + 1) (by omega) (by omega) (by omega) (by omega)
  obtain ⟨e2, g2, C2⟩ := IH (2) (2 * p + 2) (by omega) (by omega) (by omega) (by omega)
  refine ⟨_, GoodE.app2 (op := 4 + (r5 : Int)) (by omega) g1 g2 (by omega), fun cb W hE => ?_⟩
  have HE := Lib.hid hE
  have HC1 := Lib.hid C1
  have hl1 := g1.le hd
  have HC2 := Lib.hid C2
  have hl2 := g2.le hd
  clear hE IH hbd hp C1 g1 C2 g2
  go_enter Tryd.func35, Tryd.ntmps35
  go_wp2_with fail
  refine (CA.out _ _ HE.out).mono ?_
  rintro ev w1 ⟨rfl, hb1⟩
  have HE1 := Lib.hid (HE.out.below hb1 (Nat.le_refl _))
  have HB1 := Lib.hid hb1
  clear hb1 CA HE
  go_wp2_with fail
  refine (HC1.out _ _ HE1.out).mono ?_
  intro ev w2 hm
  obtain ⟨a1, k1, rfl, hi1, hn1, hb2⟩ := hm.nodes
  have HB2 := Lib.hid (HB1.out.trans (hb2.mono HB1.out.size))
  have HE2 := Lib.hid (HE1.out.below hb2 (Nat.le_refl _))
  have HI11 := Lib.hid hi1
  have HN1 := Lib.hid hn1
  clear hm hi1 hn1 hb2 HC1 HE1 HB1
  go_wp2_with fail
  refine (HC2.out _ _ HE2.out).mono ?_
  intro ev w3 hm
  obtain ⟨a2, k2, rfl, hi2, hn2, hb3⟩ := hm.nodes
  have HB3 := Lib.hid (HB2.out.trans (hb3.mono HB2.out.size))
  have HE3 := Lib.hid (HE2.out.below hb3 (Nat.le_refl _))
  have HI22 := Lib.hid hi2
  have HN2 := Lib.hid hn2
  have HI12 := Lib.hid (HI11.out.below hb3 (Nat.le_refl _))
  clear HI11
  clear hm hi2 hn2 hb3 HC2 HE2 HB2
  go_wp2_with fail
  refine (mapp2 (4 + (r5 : Int)) HI12.out HN1.out hl1 HI22.out HN2.out hl2 HB3.out).mono ?_
  rintro ev wf ⟨v, rfl, hown, hbf⟩
  have H := Lib.hid (And.intro hown hbf)
  clear hown hbf
  go_wp2_with fail
  go_ret
  exact ⟨_, rfl, H.out.1, H.out.2⟩
end Go.Proofs.YtmdpjahhhfajaaaDoor
