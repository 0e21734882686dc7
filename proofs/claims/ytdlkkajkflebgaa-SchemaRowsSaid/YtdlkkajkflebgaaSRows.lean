/-
  The law SchemaRows: walk.
-/
import Derived.Test.YtdlkkajkflebgaaSKnown
import Derived.Test.YtdlkkajkflebgaaSDraw
import Derived.Test.YtdlkkajkflebgaaSRow
set_option linter.unusedVariables false
namespace Go.Proofs.Ytdlkkajkflebgaa
open Go.RowKit Wh

theorem keepRow3 {W0 W w' : World} {T : TypeId} {g y cap k B : Nat} {l : List T3} {z0 z1 z2 : Value}
    (h : W.cell? ⟨g, k * 3, none⟩ = some z0 ∧ W.cell? ⟨g, k * 3 + 1, none⟩ = some z1 ∧ W.cell? ⟨g, k * 3 + 2, none⟩ = some z2 ∧
      W.frozen? ⟨g, k * 3, none⟩ = false ∧ W.frozen? ⟨g, k * 3 + 1, none⟩ = false ∧ W.frozen? ⟨g, k * 3 + 2, none⟩ = false ∧
      W.ownsRow B T 3 (.slice (some ⟨g, 0, none⟩) y cap) y (flat3 l) ∧ g < W.heap.size ∧ B ≤ W.heap.size ∧ Below B W0 W)
    (hb : Below W.heap.size W w') :
    w'.cell? ⟨g, k * 3, none⟩ = some z0 ∧ w'.cell? ⟨g, k * 3 + 1, none⟩ = some z1 ∧ w'.cell? ⟨g, k * 3 + 2, none⟩ = some z2 ∧
      w'.frozen? ⟨g, k * 3, none⟩ = false ∧ w'.frozen? ⟨g, k * 3 + 1, none⟩ = false ∧ w'.frozen? ⟨g, k * 3 + 2, none⟩ = false ∧
      w'.ownsRow B T 3 (.slice (some ⟨g, 0, none⟩) y cap) y (flat3 l) ∧ g < w'.heap.size ∧ B ≤ w'.heap.size ∧ Below B W0 w' := by
  obtain ⟨h3, h4, h5, h6, h7, h8, h9, h11, h12, h13⟩ := h
  obtain ⟨hc, hf⟩ := bcell hb
  have hs := hb.size
  refine ⟨?_, ?_, ?_, ?_, ?_, ?_, own_below h9 hb, by omega, by omega, h13.trans (hb.mono h12)⟩
  · rw [hc _ _ h11]; exact h3
  · rw [hc _ _ h11]; exact h4
  · rw [hc _ _ h11]; exact h5
  · rw [hf _ _ h11]; exact h6
  · rw [hf _ _ h11]; exact h7
  · rw [hf _ _ h11]; exact h8

set_option maxHeartbeats 4000000 in
theorem rows_walk (w : World) (a : Option Addr) (len cap : Nat) (cs : List C) (hc : IsCols w a len cs) (hl : len ≤ cap) (hm : cap ≤ maxLen) (_ : a = none → cap = 0)
    (a1 : Option Addr) (len1 cap1 : Nat) (vs : List V) (hv : IsVals w a1 len1 vs) (hl1 : len1 ≤ cap1) (hm1 : cap1 ≤ maxLen) (_ : a1 = none → cap1 = 0)
    (a2 : Option Addr) (len2 cap2 : Nat) (zs : List Int) (hz : IsInts w a2 len2 zs) (hl2 : len2 ≤ cap2) (hm2 : cap2 ≤ maxLen) (_ : ∀ z ∈ zs, -9223372036854775808 ≤ z ∧ z ≤ 9223372036854775807)
    (n : Int) (n0 : -9223372036854775808 ≤ n) (n1 : n ≤ 9223372036854775807) :
    Calls Try.prog 6 #[.slice a len cap, .slice a1 len1 cap1, .slice a2 len2 cap2, .int .i64 n] w fun e w' => e = .returned (.bool true) ∧ Below w.heap.size w w' := by
  have hmm : maxLen = 9223372036854775807 := rfl
  by_cases h50 : 100 < len
  · clear hc hl hm hz hl2 hm2 hv hl1 hm1
    go_enter Try.func6, Try.ntmps6
    go_wp2_with (go_at_call 10; refine (known_any _).mono ?_; rintro e w' ⟨rfl, hb⟩)
    go_ret
    exact ⟨rfl, hb⟩
  by_cases h51 : 100 < len1
  · clear hc hl hm hz hl2 hm2 hv hl1 hm1
    go_enter Try.func6, Try.ntmps6
    go_wp2_with (go_at_call 10; refine (known_any _).mono ?_; rintro e w' ⟨rfl, hb⟩)
    go_ret
    exact ⟨rfl, hb⟩
  have b7 := and_7
  have b3 := and_3
  obtain ⟨N, hN, hN7⟩ : ∃ N : Nat, n % 8 = N ∧ N ≤ 7 := ⟨(n % 8).toNat, by omega, by omega⟩
  have ccol := columns_any a2 len2 cap2 zs N (by omega) w hz (by omega)
  have c1 := fun W (h : Below w.heap.size w W) => checkRow_any a len cap cs a1 len1 cap1 vs W (hc.below h (Nat.le_refl _)) (hv.below h (Nat.le_refl _)) (by omega) (by omega)
  have c2 := fun W (h : Below w.heap.size w W) => rcheckRow_any a len cap cs a1 len1 cap1 vs W (hc.below h (Nat.le_refl _)) (hv.below h (Nat.le_refl _)) (by omega) (by omega)
  have hlen := colL_length zs N
  generalize rowE cs vs = r1 at *
  generalize colL zs N = xs at *
  have CC := Lib.hid ccol
  have C1 := Lib.hid c1
  have C2 := Lib.hid c2
  have HL := Lib.hid hlen
  have HZ := Lib.hid hz
  have HV := Lib.hid hv
  clear ccol c1 c2 hc hz hlen hv
  go_enter Try.func6, Try.ntmps6
  go_wp2_with fail
  refine CC.out.mono ?_
  rintro e w1 ⟨sv, rfl, hown, hb1⟩
  rw [HL.out] at hown
  obtain ⟨a3, cap3, rfl, hx, hx1, hx2, _⟩ := own_cols hown HL.out
  have hs1 := hb1.size
  have HX := Lib.hid hx
  have C3 := Lib.hid (fun W (h : Below w1.heap.size w1 W) => checkRow_any a3 N cap3 xs a1 len1 cap1 vs W (hx.below h (Nat.le_refl _)) (HV.out.below (hb1.trans (h.mono hs1)) (Nat.le_refl _)) (by omega) (by omega))
  have C4 := Lib.hid (fun W (h : Below w1.heap.size w1 W) => rcheckRow_any a3 N cap3 xs a1 len1 cap1 vs W (hx.below h (Nat.le_refl _)) (HV.out.below (hb1.trans (h.mono hs1)) (Nat.le_refl _)) (by omega) (by omega))
  generalize rowE xs vs = r2 at *
  have cr := drawRow_any a3 N cap3 xs a2 len2 cap2 zs 3 w1 hx (HZ.out.below hb1 (Nat.le_refl _)) (by omega) (by omega) (by omega) (by omega)
  have hrl := rowD_length xs zs 3
  generalize rowD xs zs 3 = rr at *
  have CR := Lib.hid cr
  have HRL := Lib.hid (hrl.trans HL.out)
  clear hown CC hx cr hrl
  go_wp2_with fail
  refine CR.out.mono ?_
  rintro e w3 ⟨sv, rfl, hown, p3⟩
  rw [HRL.out] at hown
  obtain ⟨a4, cap4, rfl, hr, hr1, hr2, hg⟩ := own_rowv hown HRL.out
  have hs3 := p3.size
  by_cases hN0 : N = 0
  · have hN0' : ¬ (0 : Int) < (N : Int) := by omega
    clear hg hown CR hN0'
    subst hN0
    · have C5 := Lib.hid (fun W (h : Below w3.heap.size w3 W) => checkRow_any a3 0 cap3 xs a4 0 cap4 rr W (HX.out.below (p3.trans (h.mono p3.size)) (Nat.le_refl _)) (hr.below h (Nat.le_refl _)) (by omega) (by omega))
      have C6 := Lib.hid (fun W (h : Below w3.heap.size w3 W) => rcheckRow_any a3 0 cap3 xs a4 0 cap4 rr W (HX.out.below (p3.trans (h.mono p3.size)) (Nat.le_refl _)) (hr.below h (Nat.le_refl _)) (by omega) (by omega))
      generalize rowE xs rr = r3 at *
      clear hr
      go_wp2_with (first | (go_at_call_of 23 (Value.slice a len cap); refine (C1.out _ (hb1.trans (p3.mono hs1))).mono ?_; rintro e x1 ⟨rfl, h4⟩; have p4 := p3.trans (h4.mono p3.size)) |
        (go_at_call_of 24 (Value.slice a len cap); refine (C2.out _ (hb1.trans (p4.mono hs1))).mono ?_; rintro e x2 ⟨rfl, h5⟩; have p5 := p4.trans (h5.mono p4.size)) |
        (go_at_call_of 23 (Value.slice a1 len1 cap1); refine (C3.out _ p5).mono ?_; rintro e x3 ⟨rfl, h6⟩; have p6 := p5.trans (h6.mono p5.size)) |
        (go_at_call_of 24 (Value.slice a1 len1 cap1); refine (C4.out _ p6).mono ?_; rintro e x4 ⟨rfl, h7⟩; have p7 := p6.trans (h7.mono p6.size)) |
        (go_at_call_of 23 (Value.slice a4 0 cap4); refine (C5.out _ ((h4.trans (h5.mono h4.size)).trans ((h6.trans (h7.mono h6.size)).mono (Nat.le_trans h4.size h5.size)))).mono ?_; rintro e x5 ⟨rfl, h8⟩; have p8 := p7.trans (h8.mono p7.size)) |
        (go_at_call_of 24 (Value.slice a4 0 cap4); refine (C6.out _ (((h4.trans (h5.mono h4.size)).trans ((h6.trans (h7.mono h6.size)).mono (Nat.le_trans h4.size h5.size))).trans (h8.mono (Nat.le_trans h4.size (Nat.le_trans h5.size (Nat.le_trans h6.size h7.size)))))).mono ?_; rintro e x6 ⟨rfl, h9⟩; have p9 := p8.trans (h9.mono p8.size)) |
        (go_at_call 10; refine (known_any _).mono ?_; rintro e x7 ⟨rfl, h10⟩; have p10 := p9.trans (h10.mono p9.size)))
      go_ret
      exact ⟨rfl, hb1.trans (p10.mono hs1)⟩
  by_cases hq : n / 8 % 4 = 0
  · obtain ⟨_, _, _, g, off, hj0, hga, hgl, _, _, _⟩ := hr.at (k := 0) (by omega)
    obtain ⟨g', hge, hg0, hg1⟩ := hg _ hga
    cases hge
    subst hga
    have hNp : (0 : Int) < (N : Int) := by omega
    have hNz : ((N : Int) == 0) = false := by simpa using hN0
    obtain ⟨j, hj, hjN⟩ : ∃ j : Nat, (n / 32 % 8).tmod (N : Int) = j ∧ j < N := by
      have e0 : 0 ≤ n / 32 % 8 := by omega
      rw [Int.tmod_eq_emod_of_nonneg e0]
      have e1 := Int.emod_nonneg (n / 32 % 8) (show (N : Int) ≠ 0 by omega)
      have e2 := Int.emod_lt_of_pos (n / 32 % 8) hNp
      exact ⟨((n / 32 % 8) % (N : Int)).toNat, by omega, by omega⟩
    have cy := fun W => any_any (n / 256) (by omega) (by omega) W
    generalize anyV (n / 256) = v at *
    have CY := Lib.hid cy
    have hRj : (rr.map cV)[j]? = some (cV (rr[j]'(by rw [HRL.out]; exact hjN))) := by rw [List.getElem?_map, List.getElem?_eq_getElem (by rw [HRL.out]; exact hjN)]; rfl
    obtain ⟨x0, x1, x2, f0, f1, f2⟩ := own3_at hown hRj (by rw [List.length_map, HRL.out])
    have hS0 := (⟨x0, x1, x2, f0, f1, f2, hown.drew, hg1, hs3, p3.drew⟩ : w3.drew.cell? ⟨g, j * 3, none⟩ = _ ∧ w3.drew.cell? ⟨g, j * 3 + 1, none⟩ = _ ∧ w3.drew.cell? ⟨g, j * 3 + 2, none⟩ = _ ∧
      w3.drew.frozen? ⟨g, j * 3, none⟩ = false ∧ w3.drew.frozen? ⟨g, j * 3 + 1, none⟩ = false ∧ w3.drew.frozen? ⟨g, j * 3 + 2, none⟩ = false ∧
      w3.drew.ownsRow w1.heap.size 40 3 (.slice (some ⟨g, 0, none⟩) N cap4) N (flat3 (rr.map cV)) ∧ g < w3.drew.heap.size ∧ w1.heap.size ≤ w3.drew.heap.size ∧ Below w1.heap.size w1 w3.drew)
    generalize (cV (rr[j]'(by rw [HRL.out]; exact hjN))).1 = y0 at *
    generalize (cV (rr[j]'(by rw [HRL.out]; exact hjN))).2.1 = y1 at *
    generalize (cV (rr[j]'(by rw [HRL.out]; exact hjN))).2.2 = y2 at *
    have FIN : ∀ W : World, W.ownsRow w1.heap.size 40 3 (.slice (some ⟨g, 0, none⟩) N cap4) N (flat3 (rr.map cV)) → Below w1.heap.size w1 W →
        Hid ((((W.setCell ⟨g, j * 3, none⟩ (.int .i64 v.k)).setCell ⟨g, j * 3 + 1, none⟩ (.int .i64 v.n)).setCell ⟨g, j * 3 + 2, none⟩ (.string v.s)).ownsRow w1.heap.size 40 3 (.slice (some ⟨g, 0, none⟩) N cap4) N (flat3 ((rr.set j v).map cV)) ∧
          Below w1.heap.size w1 (((W.setCell ⟨g, j * 3, none⟩ (.int .i64 v.k)).setCell ⟨g, j * 3 + 1, none⟩ (.int .i64 v.n)).setCell ⟨g, j * 3 + 2, none⟩ (.string v.s))) := fun W hO hB => by
      have hown2 := own3_set hO (k := j) (by rw [List.length_map, HRL.out]; exact hjN) (.int .i64 v.k) (.int .i64 v.n) (.string v.s)
      rw [show ((.int .i64 v.k, .int .i64 v.n, .string v.s) : T3) = cV v from rfl, ← List.map_set] at hown2
      exact ⟨hown2, ((hB.setCell (p := ⟨g, j * 3, none⟩) hg0 _).setCell (p := ⟨g, j * 3 + 1, none⟩) hg0 _).setCell (p := ⟨g, j * 3 + 2, none⟩) hg0 _⟩
    have HFIN := Lib.hid FIN
    have hqb : (n / 8 % 4 == 0) = true := by rw [hq]; rfl
    clear cy hRj FIN hr hown hj0 hg CR hq x0 x1 x2 f0 f1 f2
    go_wp2_with fail
    obtain ⟨x0, x1, x2, f0, f1, f2, hO0, hg', hsz', hbel'⟩ := hS0
    go_region_with (first | (go_at_call 22; refine (CY.out _).mono ?_; rintro e w4 ⟨rfl, k2⟩; obtain ⟨z0, z1, z2, j0, j1, j2, hO2, _, _, hbel2⟩ := keepRow3 ⟨x0, x1, x2, f0, f1, f2, hO0, hg', hsz', hbel'⟩ k2))
    all_goals
      obtain ⟨hown5, p5⟩ := (HFIN.out _ hO2 hbel2).out
      generalize ((w4.setCell ⟨g, j * 3, none⟩ (.int .i64 v.k)).setCell ⟨g, j * 3 + 1, none⟩ (.int .i64 v.n)).setCell ⟨g, j * 3 + 2, none⟩ (.string v.s) = w3' at *
      obtain ⟨a5, cap5, hae, hr, _, _, _⟩ := own_rowv hown5 (by rw [List.length_set]; exact HRL.out)
      cases hae
      have p3 := p5
      generalize rr.set j v = rr at *
      generalize hga4 : some (⟨g, 0, none⟩ : Addr) = a4 at *
      clear hown5 p5 hO2 hbel2 HFIN CY z0 z1 z2 j0 j1 j2 x0 x1 x2 f0 f1 f2 hO0 k2
      have C5 := Lib.hid (fun W (h : Below w3'.heap.size w3' W) => checkRow_any a3 N cap3 xs a4 N cap4 rr W (HX.out.below (p3.trans (h.mono p3.size)) (Nat.le_refl _)) (hr.below h (Nat.le_refl _)) (by omega) (by omega))
      have C6 := Lib.hid (fun W (h : Below w3'.heap.size w3' W) => rcheckRow_any a3 N cap3 xs a4 N cap4 rr W (HX.out.below (p3.trans (h.mono p3.size)) (Nat.le_refl _)) (hr.below h (Nat.le_refl _)) (by omega) (by omega))
      generalize rowE xs rr = r3 at *
      clear hr
      go_wp2_with (first | (go_at_call_of 23 (Value.slice a len cap); refine (C1.out _ (hb1.trans (p3.mono hs1))).mono ?_; rintro e x1 ⟨rfl, h4⟩; have p4 := p3.trans (h4.mono p3.size)) |
        (go_at_call_of 24 (Value.slice a len cap); refine (C2.out _ (hb1.trans (p4.mono hs1))).mono ?_; rintro e x2 ⟨rfl, h5⟩; have p5 := p4.trans (h5.mono p4.size)) |
        (go_at_call_of 23 (Value.slice a1 len1 cap1); refine (C3.out _ p5).mono ?_; rintro e x3 ⟨rfl, h6⟩; have p6 := p5.trans (h6.mono p5.size)) |
        (go_at_call_of 24 (Value.slice a1 len1 cap1); refine (C4.out _ p6).mono ?_; rintro e x4 ⟨rfl, h7⟩; have p7 := p6.trans (h7.mono p6.size)) |
        (go_at_call_of 23 (Value.slice a4 N cap4); refine (C5.out _ ((h4.trans (h5.mono h4.size)).trans ((h6.trans (h7.mono h6.size)).mono (Nat.le_trans h4.size h5.size)))).mono ?_; rintro e x5 ⟨rfl, h8⟩; have p8 := p7.trans (h8.mono p7.size)) |
        (go_at_call_of 24 (Value.slice a4 N cap4); refine (C6.out _ (((h4.trans (h5.mono h4.size)).trans ((h6.trans (h7.mono h6.size)).mono (Nat.le_trans h4.size h5.size))).trans (h8.mono (Nat.le_trans h4.size (Nat.le_trans h5.size (Nat.le_trans h6.size h7.size)))))).mono ?_; rintro e x6 ⟨rfl, h9⟩; have p9 := p8.trans (h9.mono p8.size)) |
        (go_at_call 10; refine (known_any _).mono ?_; rintro e x7 ⟨rfl, h10⟩; have p10 := p9.trans (h10.mono p9.size)))
      go_ret
      exact ⟨rfl, hb1.trans (p10.mono hs1)⟩
  · have hNp : (0 : Int) < (N : Int) := by omega
    have hqb : (n / 8 % 4 == 0) = false := by simpa using hq
    clear hg hown CR hq
    · have C5 := Lib.hid (fun W (h : Below w3.heap.size w3 W) => checkRow_any a3 N cap3 xs a4 N cap4 rr W (HX.out.below (p3.trans (h.mono p3.size)) (Nat.le_refl _)) (hr.below h (Nat.le_refl _)) (by omega) (by omega))
      have C6 := Lib.hid (fun W (h : Below w3.heap.size w3 W) => rcheckRow_any a3 N cap3 xs a4 N cap4 rr W (HX.out.below (p3.trans (h.mono p3.size)) (Nat.le_refl _)) (hr.below h (Nat.le_refl _)) (by omega) (by omega))
      generalize rowE xs rr = r3 at *
      clear hr
      go_wp2_with (first | (go_at_call_of 23 (Value.slice a len cap); refine (C1.out _ (hb1.trans (p3.mono hs1))).mono ?_; rintro e x1 ⟨rfl, h4⟩; have p4 := p3.trans (h4.mono p3.size)) |
        (go_at_call_of 24 (Value.slice a len cap); refine (C2.out _ (hb1.trans (p4.mono hs1))).mono ?_; rintro e x2 ⟨rfl, h5⟩; have p5 := p4.trans (h5.mono p4.size)) |
        (go_at_call_of 23 (Value.slice a1 len1 cap1); refine (C3.out _ p5).mono ?_; rintro e x3 ⟨rfl, h6⟩; have p6 := p5.trans (h6.mono p5.size)) |
        (go_at_call_of 24 (Value.slice a1 len1 cap1); refine (C4.out _ p6).mono ?_; rintro e x4 ⟨rfl, h7⟩; have p7 := p6.trans (h7.mono p6.size)) |
        (go_at_call_of 23 (Value.slice a4 N cap4); refine (C5.out _ ((h4.trans (h5.mono h4.size)).trans ((h6.trans (h7.mono h6.size)).mono (Nat.le_trans h4.size h5.size)))).mono ?_; rintro e x5 ⟨rfl, h8⟩; have p8 := p7.trans (h8.mono p7.size)) |
        (go_at_call_of 24 (Value.slice a4 N cap4); refine (C6.out _ (((h4.trans (h5.mono h4.size)).trans ((h6.trans (h7.mono h6.size)).mono (Nat.le_trans h4.size h5.size))).trans (h8.mono (Nat.le_trans h4.size (Nat.le_trans h5.size (Nat.le_trans h6.size h7.size)))))).mono ?_; rintro e x6 ⟨rfl, h9⟩; have p9 := p8.trans (h9.mono p8.size)) |
        (go_at_call 10; refine (known_any _).mono ?_; rintro e x7 ⟨rfl, h10⟩; have p10 := p9.trans (h10.mono p9.size)))
      go_ret
      exact ⟨rfl, hb1.trans (p10.mono hs1)⟩

end Go.Proofs.Ytdlkkajkflebgaa
