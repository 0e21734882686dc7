/-
  BagNormalizes: its walk.
-/
import Derived.Test.YtdhhhmehkldliaaBTwo
import Derived.BigQuiet
set_option linter.unusedVariables false
set_option maxRecDepth 100000
namespace Go.Proofs.Ytdhhhmehkldliaa
open Go.RowKit Wh

set_option maxHeartbeats 8000000 in
theorem normalizes_walk (w : World) (x1 : Option Addr) (l1 k1 : Nat) (es1 : List En) (he1 : IsEnts w x1 l1 es1) (he1c : l1 ≤ k1) (he1m : k1 ≤ maxLen) (he1n : x1 = none → k1 = 0) (_ : ∀ e ∈ es1, -9223372036854775808 ≤ e.cnt ∧ e.cnt ≤ 9223372036854775807)
    (y1 : Option Addr) (m1 j1 : Nat) (zs1 : List Int) (hz1 : IsInts w y1 m1 zs1) (hz1c : m1 ≤ j1) (hz1m : j1 ≤ maxLen) (hz1b : ∀ z ∈ zs1, -9223372036854775808 ≤ z ∧ z ≤ 9223372036854775807)
    (n : Int) (n0 : -9223372036854775808 ≤ n) (n1 : n ≤ 9223372036854775807) :
    Calls Try.prog 4 #[.slice x1 l1 k1, .slice y1 m1 j1, .int .i64 n] w fun e w' => e = .returned (.bool true) ∧ Below w.heap.size w w' := by
  have mm : maxLen = 9223372036854775807 := rfl
  have L1 := Lib.hid (light_any x1 l1 k1 es1 w he1 (by omega))
  have hlen60 : lightB es1 = true → l1 ≤ 60 := fun h => by have h1 := (lightB_facts h).1; have h2 := he1.1; omega
  generalize lightB es1 = b1 at *
  by_cases hq : b1 = false
  · subst hq
    clear he1 hz1 mm hlen60
    go_enter Try.func4, Try.ntmps4
    go_wp2_with fail
    refine L1.out.mono ?_
    rintro e w1 ⟨rfl, rfl⟩
    go_wp2_with fail
    refine (known_any _).mono ?_
    rintro e w2 ⟨rfl, hb2⟩
    go_wp2_with fail
    go_ret
    exact ⟨rfl, hb2⟩
  obtain rfl : b1 = true := by simpa using hq
  have hl60 := hlen60 rfl
  have E1 := Lib.hid he1
  have b15 := and_15
  have b7 := and_7
  obtain ⟨N, hN, hN7⟩ : ∃ N : Nat, n % 16 = N ∧ N ≤ 15 := ⟨(n % 16).toNat, by omega, by omega⟩
  have CA := Lib.hid (fun (i : Int) W (hW : Below w.heap.size w W) => at_any y1 m1 j1 zs1 i W (hz1.below hW (Nat.le_refl _)) (by omega))
  have hS0 : Below w.heap.size w w := Below.refl _ _
  obtain ⟨i0, hi, hz0, hz1', hz2⟩ := info_parts info_ent
  clear he1 hz1 hq hlen60
  go_enter Try.func4, Try.ntmps4
  go_wp2_with fail
  refine L1.out.mono ?_
  rintro e w1 ⟨rfl, rfl⟩
  clear L1
  go_wp2_with fail
  go_loopw [7, 8, 9, 10, 11] (fun xv tv iv _ _ wr => ∃ (k : Nat) (l : List T2), k ≤ N ∧ iv = .int .i64 k ∧ TwoAt wr w.heap.size xv tv (drawD zs1 k) l ∧ Below w.heap.size w wr ∧ (k = 0 → tv = .slice none 0 0)) (fun _ _ i _ _ _ => N - (intOf i).toNat)
  case atStart => exact ⟨0, [], Nat.zero_le _, rfl, TwoAt.nil _ _, hS0, fun _ => rfl⟩
  case round =>
    obtain ⟨k, l, hk, rfl, hT, hbel, hnil⟩ := hrel
    have HT := Lib.hid hT
    have hsz := hbel.size
    clear hT hS0
    by_cases hlt : k < N
    · obtain ⟨u0, u1⟩ := atZ_bounds zs1 (k : Int)
      have HD := Lib.hid (drawD_succ zs1 k)
      unfold entD at HD
      have CAk := Lib.hid (fun W h => CA.out (k : Int) W h)
      have hdl := drawD_length zs1 k
      generalize atZ zs1 (k : Int) = x at *
      obtain ⟨q, hq⟩ : ∃ q, x % 12 = q := ⟨_, rfl⟩
      have t1 : x.tmod 12 = q := by rw [Int.tmod_eq_emod_of_nonneg u0]; exact hq
      obtain ⟨f, hf⟩ : ∃ f, x / 16 % 8 = f := ⟨_, rfl⟩
      rw [hq, hf] at HD
      have w2' : wrap64 (f - 3) = f - 3 := IntWalk.wrap64_in _ (by omega)
      have V1 := Lib.hid (fun W => any_any q (by omega) (by omega) W)
      generalize anyV q = v at *
      generalize drawD zs1 k = acc at *
      generalize hq2 : drawD zs1 (k + 1) = acc2 at *
      have HQ2 := Lib.hid hq2
      clear hq2 CA
      go_wp2_with fail
      refine (CAk.out _ hbel).mono ?_
      rintro e w2 ⟨rfl, hb2⟩
      have hB2 := hbel.trans (hb2.mono hbel.size)
      go_wp2_with fail
      refine (V1.out _).mono ?_
      rintro e w3 ⟨rfl, hb3⟩
      have hr3 := hb2.trans (hb3.mono hb2.size)
      clear hB2 hb2 hb3 V1 CAk t1 u0 u1
      go_wp2_with fail
      have hs3 := hr3.size
      have hrow0 : IsRow (w3.alloc (.cells #[.int .i64 v.k, .int .i64 v.n, .string v.s] 38)) (.slice (some ⟨w3.heap.size, 0, none⟩) 1 1) [v] := by
        refine row_one ⟨rfl, .inr ⟨w3.heap.size, 0, rfl, by simp, fun i u hu => ?_⟩⟩
        match i, hu with
        | 0, hu => cases hu; exact ⟨cell_of_row _ _ 0 _ _ _ (heap_alloc_new w3 _), cell_of_row _ _ 1 _ _ _ (heap_alloc_new w3 _), cell_of_row _ _ 2 _ _ _ (heap_alloc_new w3 _)⟩
      have hW1 : Below wr.heap.size wr (w3.alloc (.cells #[.int .i64 v.k, .int .i64 v.n, .string v.s] 38)) := hr3.alloc hs3 _
      have hW1s : (w3.alloc (.cells #[.int .i64 v.k, .int .i64 v.n, .string v.s] 38)).heap.size = w3.heap.size + 1 := by simp
      have hga : wr.heap.size ≤ w3.heap.size := hs3
      generalize w3.alloc (.cells #[.int .i64 v.k, .int .i64 v.n, .string v.s] 38) = W1 at *
      generalize w3.heap.size = ga at *
      have hbx := ebox W1 (.slice (some ⟨ga, 0, none⟩) 1 1) (f - 3) 30
      rw [hW1s] at hbx
      have hAl : Below W1.heap.size W1 (W1.alloc (.cells #[.slice (some ⟨ga, 0, none⟩) 1 1, .int .i64 (f - 3)] 30)) := (Below.refl _ _).alloc (Nat.le_refl _) _
      have hWs : (W1.alloc (.cells #[.slice (some ⟨ga, 0, none⟩) 1 1, .int .i64 (f - 3)] 30)).heap.size = ga + 2 := by simp [hW1s]
      have hrow := hrow0.below hAl (Nat.le_refl _)
      have hbW := hW1.trans (hAl.mono hW1.size)
      generalize W1.alloc (.cells #[.slice (some ⟨ga, 0, none⟩) 1 1, .int .i64 (f - 3)] 30) = W at *
      have HROW := Lib.hid hrow
      have HBX := Lib.hid hbx
      have HWS := Lib.hid hWs
      clear hrow0 hW1 hAl hrow hbx hWs hW1s hr3
      have hwd : W.drew.heap.size = W.heap.size := rfl
      have hs2 := HWS.out
      have hbd : Below W.heap.size W (W.alloc (.cells #[.slice (some ⟨ga, 0, none⟩) 1 1, .int .i64 (f - 3)] 30)) := (Below.refl _ _).alloc (Nat.le_refl _) _
      have hb1 : Below W.heap.size W (W.alloc (.cells #[.slice (some ⟨ga, 0, none⟩) 1 1, .int .i64 (f - 3)] 30)).drew := hbd.drew
      have hb12 : Below W.heap.size W ((W.alloc (.cells #[.slice (some ⟨ga, 0, none⟩) 1 1, .int .i64 (f - 3)] 30)).alloc (.cells #[.slice (some ⟨ga, 0, none⟩) 1 1, .int .i64 (f - 3)] 30)).drew := (hbd.alloc (by simp) _).drew
      have hS0 : W.drew.cell? ⟨ga + 1, 0, none⟩ = some (.slice (some ⟨ga, 0, none⟩) 1 1) ∧ W.drew.cell? ⟨ga + 1, 1, none⟩ = some (.int .i64 (f - 3)) := HBX.out
      have hSA : (W.alloc (.cells #[.slice (some ⟨ga, 0, none⟩) 1 1, .int .i64 (f - 3)] 30)).drew.cell? ⟨ga + 1, 0, none⟩ = some (.slice (some ⟨ga, 0, none⟩) 1 1) ∧ (W.alloc (.cells #[.slice (some ⟨ga, 0, none⟩) 1 1, .int .i64 (f - 3)] 30)).drew.cell? ⟨ga + 1, 1, none⟩ = some (.int .i64 (f - 3)) := ⟨((bcell hb1).1 (ga + 1) 0 (by omega)).trans HBX.out.1, ((bcell hb1).1 (ga + 1) 1 (by omega)).trans HBX.out.2⟩
      have hSB : ((W.alloc (.cells #[.slice (some ⟨ga, 0, none⟩) 1 1, .int .i64 (f - 3)] 30)).alloc (.cells #[.slice (some ⟨ga, 0, none⟩) 1 1, .int .i64 (f - 3)] 30)).drew.cell? ⟨ga + 1, 0, none⟩ = some (.slice (some ⟨ga, 0, none⟩) 1 1) ∧ ((W.alloc (.cells #[.slice (some ⟨ga, 0, none⟩) 1 1, .int .i64 (f - 3)] 30)).alloc (.cells #[.slice (some ⟨ga, 0, none⟩) 1 1, .int .i64 (f - 3)] 30)).drew.cell? ⟨ga + 1, 1, none⟩ = some (.int .i64 (f - 3)) := ⟨((bcell hb12).1 (ga + 1) 0 (by omega)).trans HBX.out.1, ((bcell hb12).1 (ga + 1) 1 (by omega)).trans HBX.out.2⟩
      have BU1 := Lib.hid (hbW.trans (hb1.mono hbW.size))
      have BU2 := Lib.hid (hbW.trans (hb12.mono hbW.size))
      have OA := Lib.hid (own_below HT.out.fst BU1.out)
      have OB := Lib.hid (own_below HT.out.fst BU2.out)
      have LA : (W.alloc (.cells #[.slice (some ⟨ga, 0, none⟩) 1 1, .int .i64 (f - 3)] 30)).drew.heap[W.heap.size]? = some (.cells #[.slice (some ⟨ga, 0, none⟩) 1 1, .int .i64 (f - 3)] 30) := heap_alloc_new W _
      have LB := Lib.hid (show ((W.alloc (.cells #[.slice (some ⟨ga, 0, none⟩) 1 1, .int .i64 (f - 3)] 30)).alloc (.cells #[.slice (some ⟨ga, 0, none⟩) 1 1, .int .i64 (f - 3)] 30)).drew.heap[W.heap.size]? = some (.cells #[.slice (some ⟨ga, 0, none⟩) 1 1, .int .i64 (f - 3)] 30) from (((Below.refl (W.alloc (.cells #[.slice (some ⟨ga, 0, none⟩) 1 1, .int .i64 (f - 3)] 30)).heap.size (W.alloc (.cells #[.slice (some ⟨ga, 0, none⟩) 1 1, .int .i64 (f - 3)] 30))).alloc (Nat.le_refl _) (.cells #[.slice (some ⟨ga, 0, none⟩) 1 1, .int .i64 (f - 3)] 30)).block W.heap.size (by simp)).trans LA)
      have LC := Lib.hid (show ((W.alloc (.cells #[.slice (some ⟨ga, 0, none⟩) 1 1, .int .i64 (f - 3)] 30)).alloc (.cells #[.slice (some ⟨ga, 0, none⟩) 1 1, .int .i64 (f - 3)] 30)).drew.heap[W.heap.size + 1]? = some (.cells #[.slice (some ⟨ga, 0, none⟩) 1 1, .int .i64 (f - 3)] 30) from by have h := heap_alloc_new (W.alloc (.cells #[.slice (some ⟨ga, 0, none⟩) 1 1, .int .i64 (f - 3)] 30)) (.cells #[.slice (some ⟨ga, 0, none⟩) 1 1, .int .i64 (f - 3)] 30); rw [World.size_alloc] at h; exact h)
      have NA := Lib.hid (World.news_of_block LA)
      have NB := Lib.hid (World.news_of_block LB.out)
      have NC := Lib.hid (World.news_of_block LC.out)
      have HR1 := Lib.hid (HROW.out.below hb1 (Nat.le_refl _))
      have HR2 := Lib.hid (HROW.out.below hb12 (Nat.le_refl _))
      have hfu7 := fun j h => (HT.out.fst.lt j h).2
      have hne9 : some (ga + 1) ≠ u7.ownBlock := fun h => by have := hfu7 _ h.symm; omega
      have FX := Lib.hid (show FarOf u7.ownBlock (.slice (some ⟨ga, 0, none⟩) 1 1) [v] from fun _ x n c hx hg => by cases hx; exact absurd (hfu7 _ hg) (by simp; omega))
      have HC := Lib.hid HT.out.cells
      have hl1 : ga + 1 < (W.alloc (.cells #[.slice (some ⟨ga, 0, none⟩) 1 1, .int .i64 (f - 3)] 30)).drew.heap.size := by simp; omega
      have hl2 : ga + 1 < ((W.alloc (.cells #[.slice (some ⟨ga, 0, none⟩) 1 1, .int .i64 (f - 3)] 30)).alloc (.cells #[.slice (some ⟨ga, 0, none⟩) 1 1, .int .i64 (f - 3)] 30)).drew.heap.size := by simp; omega
      have hqC : W.heap.size < ((W.alloc (.cells #[.slice (some ⟨ga, 0, none⟩) 1 1, .int .i64 (f - 3)] 30)).alloc (.cells #[.slice (some ⟨ga, 0, none⟩) 1 1, .int .i64 (f - 3)] 30)).drew.heap.size := by simp; omega
      have hqB : W.heap.size + 1 < ((W.alloc (.cells #[.slice (some ⟨ga, 0, none⟩) 1 1, .int .i64 (f - 3)] 30)).alloc (.cells #[.slice (some ⟨ga, 0, none⟩) 1 1, .int .i64 (f - 3)] 30)).drew.heap.size := by simp
      have hbw1 : w.heap.size ≤ (W.alloc (.cells #[.slice (some ⟨ga, 0, none⟩) 1 1, .int .i64 (f - 3)] 30)).drew.heap.size := by simp; omega
      have hbw2 : w.heap.size ≤ ((W.alloc (.cells #[.slice (some ⟨ga, 0, none⟩) 1 1, .int .i64 (f - 3)] 30)).alloc (.cells #[.slice (some ⟨ga, 0, none⟩) 1 1, .int .i64 (f - 3)] 30)).drew.heap.size := by simp; omega
      have hd1 : acc.length ≤ k := by omega
      have hd2 : k ≤ acc.length := by omega
      clear hdl LA hbd hb1 hb12 hwd
      by_cases hk0 : k = 0
      · obtain rfl := hnil hk0
        obtain rfl : acc = [] := List.eq_nil_of_length_eq_zero (by omega)
        obtain rfl : l = [] := List.eq_nil_of_length_eq_zero HT.out.len
        have hgw : ga + 2 ≤ W.heap.size := by omega
        clear hs2
        go_region_held3 (fun w' => w'.cell? ⟨ga + 1, 0, none⟩ = some (.slice (some ⟨ga, 0, none⟩) 1 1) ∧ w'.cell? ⟨ga + 1, 1, none⟩ = some (.int .i64 (f - 3)))
          (first | with_reducible exact hS0 | with_reducible exact hSA | with_reducible exact hSB | with_reducible exact hS9 | with_reducible exact hS9A | with_reducible exact hS10 | (trace_state; fail))
          (first | (refine step_append_lies _ (by rfl) (.tmp 44) (.tmp 46) _ (by rfl) w.heap.size 30 i0 _ 2 32 Try.underlying22 hi hz0 hz1' hz2 rfl (by omega) _ _ _ (by rfl) OA.out ⟨W.heap.size, 0, none⟩ 1 1 [.slice (some ⟨ga, 0, none⟩) 1 1, .int .i64 (f - 3)] (by rfl) (by rfl) NA.out (by simp [Value.oneCell']) (by omega) (by unfold maxLen; omega) (by omega) hbw1 (W.heap.size + 1) (by simp) ?_; intro gg cc w9 hown9 hgrow9 hat9 hlt9; have hz9 := hgrow9.size; have hs9 : W.heap.size < w9.heap.size := (by have h := hgrow9.size; simp at h; omega); have hS9 : w9.cell? ⟨ga + 1, 0, none⟩ = some (.slice (some ⟨ga, 0, none⟩) 1 1) ∧ w9.cell? ⟨ga + 1, 1, none⟩ = some (.int .i64 (f - 3)) := ⟨(hgrow9.cell_far ⟨ga + 1, 0, none⟩ hl1 hne9).trans hSA.1, (hgrow9.cell_far ⟨ga + 1, 1, none⟩ hl1 hne9).trans hSA.2⟩; have hg9 : u7.ownBlock = some gg ∨ (W.alloc (.cells #[.slice (some ⟨ga, 0, none⟩) 1 1, .int .i64 (f - 3)] 30)).drew.heap.size ≤ gg := hat9.imp id fun h => (by rw [h]; simp); have hB9 : Below w9.heap.size w9 (w9.alloc (.cells #[.slice (some ⟨ga, 0, none⟩) 1 1, .int .i64 (f - 3)] 30)) := (Below.refl _ _).alloc (Nat.le_refl _) _; have hlA : ga + 1 < w9.heap.size := (by omega); have hS9A : (w9.alloc (.cells #[.slice (some ⟨ga, 0, none⟩) 1 1, .int .i64 (f - 3)] 30)).cell? ⟨ga + 1, 0, none⟩ = some (.slice (some ⟨ga, 0, none⟩) 1 1) ∧ (w9.alloc (.cells #[.slice (some ⟨ga, 0, none⟩) 1 1, .int .i64 (f - 3)] 30)).cell? ⟨ga + 1, 1, none⟩ = some (.int .i64 (f - 3)) := ⟨((bcell hB9).1 (ga + 1) 0 hlA).trans hS9.1, ((bcell hB9).1 (ga + 1) 1 hlA).trans hS9.2⟩; have ST9 := HT.out.still BU1.out hgrow9 hB9; have OL9 : (w9.alloc (.cells #[.slice (some ⟨ga, 0, none⟩) 1 1, .int .i64 (f - 3)] 30)).ownsRow w.heap.size 30 2 (.slice (some ⟨w9.heap.size, 0, none⟩) 1 1) 1 [.slice (some ⟨ga, 0, none⟩) 1 1, .int .i64 (f - 3)] := own_lit (heap_alloc_new w9 _) (by omega); have hGn : w9.heap.size ≠ gg := (by omega); have hGw : wr.heap.size ≤ w9.heap.size := (by omega); have hrG : FarOf (some w9.heap.size) (.slice (some ⟨ga, 0, none⟩) 1 1) [v] := far_new HR1.out hz9; have hb9w : w.heap.size ≤ (w9.alloc (.cells #[.slice (some ⟨ga, 0, none⟩) 1 1, .int .i64 (f - 3)] 30)).heap.size := (by simp; omega); have BF9 : Below w.heap.size w (w9.alloc (.cells #[.slice (some ⟨ga, 0, none⟩) 1 1, .int .i64 (f - 3)] 30)) := (((hbel.trans (BU1.out.mono hsz)).grown hgrow9 hbw1 (fun j hj => (HT.out.fst.lt j hj).1)).trans (hB9.mono (by omega)))) |
            (refine step_append_lies _ (by rfl) (.tmp 44) (.tmp 46) _ (by rfl) w.heap.size 30 i0 _ 2 32 Try.underlying22 hi hz0 hz1' hz2 rfl (by omega) _ _ _ (by rfl) OB.out ⟨W.heap.size, 0, none⟩ 1 1 [.slice (some ⟨ga, 0, none⟩) 1 1, .int .i64 (f - 3)] (by rfl) (by rfl) NB.out (by simp [Value.oneCell']) (by omega) (by unfold maxLen; omega) (by omega) hbw2 (W.heap.size + 2) (by simp) ?_; intro gg cc w9 hown9 hgrow9 hat9 hlt9; have hz9 := hgrow9.size; have hs9 : W.heap.size < w9.heap.size := (by have h := hgrow9.size; simp at h; omega); have hS9 : w9.cell? ⟨ga + 1, 0, none⟩ = some (.slice (some ⟨ga, 0, none⟩) 1 1) ∧ w9.cell? ⟨ga + 1, 1, none⟩ = some (.int .i64 (f - 3)) := ⟨(hgrow9.cell_far ⟨ga + 1, 0, none⟩ hl2 hne9).trans hSB.1, (hgrow9.cell_far ⟨ga + 1, 1, none⟩ hl2 hne9).trans hSB.2⟩; have hg9 : u7.ownBlock = some gg ∨ ((W.alloc (.cells #[.slice (some ⟨ga, 0, none⟩) 1 1, .int .i64 (f - 3)] 30)).alloc (.cells #[.slice (some ⟨ga, 0, none⟩) 1 1, .int .i64 (f - 3)] 30)).drew.heap.size ≤ gg := hat9.imp id fun h => (by rw [h]; simp); have hB9 : Below w9.heap.size w9 w9 := Below.refl _ _; have ST9 := HT.out.still BU2.out hgrow9 hB9; have OL9 : w9.ownsRow w.heap.size 30 2 (.slice (some ⟨(W.heap.size + 1), 0, none⟩) 1 1) 1 [.slice (some ⟨ga, 0, none⟩) 1 1, .int .i64 (f - 3)] := own_lit ((hgrow9.block (W.heap.size + 1) hqB (by intro hx; exact absurd (hfu7 _ hx.symm) (by omega))).trans LC.out) (by omega); have hGn : (W.heap.size + 1) ≠ gg := (by exact hg9.elim (fun hx => (by have := hfu7 _ hx; omega)) (fun hx => (by simp at hx; omega))); have hGw : wr.heap.size ≤ (W.heap.size + 1) := (by omega); have hrG : FarOf (some (W.heap.size + 1)) (.slice (some ⟨ga, 0, none⟩) 1 1) [v] := far_new HROW.out (by omega); have hb9w : w.heap.size ≤ w9.heap.size := (by omega); have BF9 : Below w.heap.size w w9 := ((hbel.trans (BU2.out.mono hsz)).grown hgrow9 hbw2 (fun j hj => (HT.out.fst.lt j hj).1))) |
            (refine step_append_lies _ (by rfl) (.tmp 44) (.tmp 46) _ (by rfl) w.heap.size 30 i0 _ 2 32 Try.underlying22 hi hz0 hz1' hz2 rfl (by omega) _ _ _ (by rfl) OB.out ⟨W.heap.size + 1, 0, none⟩ 1 1 [.slice (some ⟨ga, 0, none⟩) 1 1, .int .i64 (f - 3)] (by rfl) (by rfl) NC.out (by simp [Value.oneCell']) (by omega) (by unfold maxLen; omega) (by omega) hbw2 (W.heap.size + 2) (by simp) ?_; intro gg cc w9 hown9 hgrow9 hat9 hlt9; have hz9 := hgrow9.size; have hs9 : W.heap.size < w9.heap.size := (by have h := hgrow9.size; simp at h; omega); have hS9 : w9.cell? ⟨ga + 1, 0, none⟩ = some (.slice (some ⟨ga, 0, none⟩) 1 1) ∧ w9.cell? ⟨ga + 1, 1, none⟩ = some (.int .i64 (f - 3)) := ⟨(hgrow9.cell_far ⟨ga + 1, 0, none⟩ hl2 hne9).trans hSB.1, (hgrow9.cell_far ⟨ga + 1, 1, none⟩ hl2 hne9).trans hSB.2⟩; have hg9 : u7.ownBlock = some gg ∨ ((W.alloc (.cells #[.slice (some ⟨ga, 0, none⟩) 1 1, .int .i64 (f - 3)] 30)).alloc (.cells #[.slice (some ⟨ga, 0, none⟩) 1 1, .int .i64 (f - 3)] 30)).drew.heap.size ≤ gg := hat9.imp id fun h => (by rw [h]; simp); have hB9 : Below w9.heap.size w9 w9 := Below.refl _ _; have ST9 := HT.out.still BU2.out hgrow9 hB9; have OL9 : w9.ownsRow w.heap.size 30 2 (.slice (some ⟨W.heap.size, 0, none⟩) 1 1) 1 [.slice (some ⟨ga, 0, none⟩) 1 1, .int .i64 (f - 3)] := own_lit ((hgrow9.block W.heap.size hqC (by intro hx; exact absurd (hfu7 _ hx.symm) (by omega))).trans LB.out) (by omega); have hGn : W.heap.size ≠ gg := (by exact hg9.elim (fun hx => (by have := hfu7 _ hx; omega)) (fun hx => (by simp at hx; omega))); have hGw : wr.heap.size ≤ W.heap.size := (by omega); have hrG : FarOf (some W.heap.size) (.slice (some ⟨ga, 0, none⟩) 1 1) [v] := far_new HROW.out (by omega); have hb9w : w.heap.size ≤ w9.heap.size := (by omega); have BF9 : Below w.heap.size w w9 := ((hbel.trans (BU2.out.mono hsz)).grown hgrow9 hbw2 (fun j hj => (HT.out.fst.lt j hj).1))) |
            (refine step_append_none (by rfl) (.tmp 49) (.tmp 50) _ (by rfl) w.heap.size 30 i0 2 Try.underlying22 hi (.slice (some ⟨w9.heap.size, 0, none⟩) 1 1) 1 [.slice (some ⟨ga, 0, none⟩) 1 1, .int .i64 (f - 3)] (by rfl) (by rfl) OL9 ?_; have TT : TwoAt (w9.alloc (.cells #[.slice (some ⟨ga, 0, none⟩) 1 1, .int .i64 (f - 3)] 30)) w.heap.size (.slice (some ⟨gg, 0, none⟩) (0 + 1) cc) (.slice (some ⟨w9.heap.size, 0, none⟩) 1 1) ([] ++ [⟨[v], f - 3⟩]) ([] ++ [(.slice (some ⟨ga, 0, none⟩) 1 1, .int .i64 (f - 3))]) := HT.out.step (dd := 1) BU1.out HR1.out FX.out hrG hown9 hgrow9 hg9 hlt9 hB9 hGn hGw OL9 ⟨rfl, rfl, rfl, Nat.le_refl _, fun _ _ _ => rfl⟩ (.inl rfl)) |
            (refine step_append_none (by rfl) (.tmp 49) (.tmp 50) _ (by rfl) w.heap.size 30 i0 2 Try.underlying22 hi (.slice (some ⟨(W.heap.size + 1), 0, none⟩) 1 1) 1 [.slice (some ⟨ga, 0, none⟩) 1 1, .int .i64 (f - 3)] (by rfl) (by rfl) OL9 ?_; have TT : TwoAt w9 w.heap.size (.slice (some ⟨gg, 0, none⟩) (0 + 1) cc) (.slice (some ⟨(W.heap.size + 1), 0, none⟩) 1 1) ([] ++ [⟨[v], f - 3⟩]) ([] ++ [(.slice (some ⟨ga, 0, none⟩) 1 1, .int .i64 (f - 3))]) := HT.out.step (dd := 1) BU2.out HR2.out FX.out hrG hown9 hgrow9 hg9 hlt9 hB9 hGn hGw OL9 ⟨rfl, rfl, rfl, Nat.le_refl _, fun _ _ _ => rfl⟩ (.inl rfl)) |
            (refine step_append_none (by rfl) (.tmp 49) (.tmp 50) _ (by rfl) w.heap.size 30 i0 2 Try.underlying22 hi (.slice (some ⟨W.heap.size, 0, none⟩) 1 1) 1 [.slice (some ⟨ga, 0, none⟩) 1 1, .int .i64 (f - 3)] (by rfl) (by rfl) OL9 ?_; have TT : TwoAt w9 w.heap.size (.slice (some ⟨gg, 0, none⟩) (0 + 1) cc) (.slice (some ⟨W.heap.size, 0, none⟩) 1 1) ([] ++ [⟨[v], f - 3⟩]) ([] ++ [(.slice (some ⟨ga, 0, none⟩) 1 1, .int .i64 (f - 3))]) := HT.out.step (dd := 1) BU2.out HR2.out FX.out hrG hown9 hgrow9 hg9 hlt9 hB9 hGn hGw OL9 ⟨rfl, rfl, rfl, Nat.le_refl _, fun _ _ _ => rfl⟩ (.inl rfl)))
        all_goals
          clear hown9 hgrow9 hat9 hlt9 OL9 ST9 NA NB NC LB LC OA OB BU1 BU2 HR1 HR2 HROW HBX
          go_wp2_with fail
          go_roundw
          case rel => exact ⟨k + 1, _, by omega, by go_num, by rw [HQ2.out, HD.out]; exact TT, BF9, fun h => absurd h (by omega)⟩
          case measure => simp [intOf]; omega
      · obtain ⟨tb, tc, rfl, _, _⟩ := HT.out.snd.form (by omega)
        have hgw : ga + 2 ≤ W.heap.size := by omega
        clear hs2
        go_region_held3 (fun w' => w'.cell? ⟨ga + 1, 0, none⟩ = some (.slice (some ⟨ga, 0, none⟩) 1 1) ∧ w'.cell? ⟨ga + 1, 1, none⟩ = some (.int .i64 (f - 3)))
          (first | with_reducible exact hS0 | with_reducible exact hSA | with_reducible exact hSB | with_reducible exact hS9 | with_reducible exact hS9A | with_reducible exact hS10 | (trace_state; fail))
          (first | (refine step_append_lies _ (by rfl) (.tmp 44) (.tmp 46) _ (by rfl) w.heap.size 30 i0 _ 2 32 Try.underlying22 hi hz0 hz1' hz2 rfl (by omega) _ _ _ (by rfl) OA.out ⟨W.heap.size, 0, none⟩ 1 1 [.slice (some ⟨ga, 0, none⟩) 1 1, .int .i64 (f - 3)] (by rfl) (by rfl) NA.out (by simp [Value.oneCell']) (by omega) (by unfold maxLen; omega) (by omega) hbw1 (W.heap.size + 1) (by simp) ?_; intro gg cc w9 hown9 hgrow9 hat9 hlt9; have hz9 := hgrow9.size; have hs9 : W.heap.size < w9.heap.size := (by have h := hgrow9.size; simp at h; omega); have hS9 : w9.cell? ⟨ga + 1, 0, none⟩ = some (.slice (some ⟨ga, 0, none⟩) 1 1) ∧ w9.cell? ⟨ga + 1, 1, none⟩ = some (.int .i64 (f - 3)) := ⟨(hgrow9.cell_far ⟨ga + 1, 0, none⟩ hl1 hne9).trans hSA.1, (hgrow9.cell_far ⟨ga + 1, 1, none⟩ hl1 hne9).trans hSA.2⟩; have hg9 : u7.ownBlock = some gg ∨ (W.alloc (.cells #[.slice (some ⟨ga, 0, none⟩) 1 1, .int .i64 (f - 3)] 30)).drew.heap.size ≤ gg := hat9.imp id fun h => (by rw [h]; simp); have hB9 : Below w9.heap.size w9 (w9.alloc (.cells #[.slice (some ⟨ga, 0, none⟩) 1 1, .int .i64 (f - 3)] 30)) := (Below.refl _ _).alloc (Nat.le_refl _) _; have hlA : ga + 1 < w9.heap.size := (by omega); have hS9A : (w9.alloc (.cells #[.slice (some ⟨ga, 0, none⟩) 1 1, .int .i64 (f - 3)] 30)).cell? ⟨ga + 1, 0, none⟩ = some (.slice (some ⟨ga, 0, none⟩) 1 1) ∧ (w9.alloc (.cells #[.slice (some ⟨ga, 0, none⟩) 1 1, .int .i64 (f - 3)] 30)).cell? ⟨ga + 1, 1, none⟩ = some (.int .i64 (f - 3)) := ⟨((bcell hB9).1 (ga + 1) 0 hlA).trans hS9.1, ((bcell hB9).1 (ga + 1) 1 hlA).trans hS9.2⟩; have ST9 := HT.out.still BU1.out hgrow9 hB9; have OL9 : (w9.alloc (.cells #[.slice (some ⟨ga, 0, none⟩) 1 1, .int .i64 (f - 3)] 30)).ownsRow w.heap.size 30 2 (.slice (some ⟨w9.heap.size, 0, none⟩) 1 1) 1 [.slice (some ⟨ga, 0, none⟩) 1 1, .int .i64 (f - 3)] := own_lit (heap_alloc_new w9 _) (by omega); have hGn : w9.heap.size ≠ gg := (by omega); have hGw : wr.heap.size ≤ w9.heap.size := (by omega); have hrG : FarOf (some w9.heap.size) (.slice (some ⟨ga, 0, none⟩) 1 1) [v] := far_new HR1.out hz9; have hb9w : w.heap.size ≤ (w9.alloc (.cells #[.slice (some ⟨ga, 0, none⟩) 1 1, .int .i64 (f - 3)] 30)).heap.size := (by simp; omega); have BF9 : Below w.heap.size w (w9.alloc (.cells #[.slice (some ⟨ga, 0, none⟩) 1 1, .int .i64 (f - 3)] 30)) := (((hbel.trans (BU1.out.mono hsz)).grown hgrow9 hbw1 (fun j hj => (HT.out.fst.lt j hj).1)).trans (hB9.mono (by omega)))) |
            (refine step_append_lies _ (by rfl) (.tmp 44) (.tmp 46) _ (by rfl) w.heap.size 30 i0 _ 2 32 Try.underlying22 hi hz0 hz1' hz2 rfl (by omega) _ _ _ (by rfl) OB.out ⟨W.heap.size, 0, none⟩ 1 1 [.slice (some ⟨ga, 0, none⟩) 1 1, .int .i64 (f - 3)] (by rfl) (by rfl) NB.out (by simp [Value.oneCell']) (by omega) (by unfold maxLen; omega) (by omega) hbw2 (W.heap.size + 2) (by simp) ?_; intro gg cc w9 hown9 hgrow9 hat9 hlt9; have hz9 := hgrow9.size; have hs9 : W.heap.size < w9.heap.size := (by have h := hgrow9.size; simp at h; omega); have hS9 : w9.cell? ⟨ga + 1, 0, none⟩ = some (.slice (some ⟨ga, 0, none⟩) 1 1) ∧ w9.cell? ⟨ga + 1, 1, none⟩ = some (.int .i64 (f - 3)) := ⟨(hgrow9.cell_far ⟨ga + 1, 0, none⟩ hl2 hne9).trans hSB.1, (hgrow9.cell_far ⟨ga + 1, 1, none⟩ hl2 hne9).trans hSB.2⟩; have hg9 : u7.ownBlock = some gg ∨ ((W.alloc (.cells #[.slice (some ⟨ga, 0, none⟩) 1 1, .int .i64 (f - 3)] 30)).alloc (.cells #[.slice (some ⟨ga, 0, none⟩) 1 1, .int .i64 (f - 3)] 30)).drew.heap.size ≤ gg := hat9.imp id fun h => (by rw [h]; simp); have hB9 : Below w9.heap.size w9 w9 := Below.refl _ _; have ST9 := HT.out.still BU2.out hgrow9 hB9; have OL9 : w9.ownsRow w.heap.size 30 2 (.slice (some ⟨(W.heap.size + 1), 0, none⟩) 1 1) 1 [.slice (some ⟨ga, 0, none⟩) 1 1, .int .i64 (f - 3)] := own_lit ((hgrow9.block (W.heap.size + 1) hqB (by intro hx; exact absurd (hfu7 _ hx.symm) (by omega))).trans LC.out) (by omega); have hGn : (W.heap.size + 1) ≠ gg := (by exact hg9.elim (fun hx => (by have := hfu7 _ hx; omega)) (fun hx => (by simp at hx; omega))); have hGw : wr.heap.size ≤ (W.heap.size + 1) := (by omega); have hrG : FarOf (some (W.heap.size + 1)) (.slice (some ⟨ga, 0, none⟩) 1 1) [v] := far_new HROW.out (by omega); have hb9w : w.heap.size ≤ w9.heap.size := (by omega); have BF9 : Below w.heap.size w w9 := ((hbel.trans (BU2.out.mono hsz)).grown hgrow9 hbw2 (fun j hj => (HT.out.fst.lt j hj).1))) |
            (refine step_append_lies _ (by rfl) (.tmp 44) (.tmp 46) _ (by rfl) w.heap.size 30 i0 _ 2 32 Try.underlying22 hi hz0 hz1' hz2 rfl (by omega) _ _ _ (by rfl) OB.out ⟨W.heap.size + 1, 0, none⟩ 1 1 [.slice (some ⟨ga, 0, none⟩) 1 1, .int .i64 (f - 3)] (by rfl) (by rfl) NC.out (by simp [Value.oneCell']) (by omega) (by unfold maxLen; omega) (by omega) hbw2 (W.heap.size + 2) (by simp) ?_; intro gg cc w9 hown9 hgrow9 hat9 hlt9; have hz9 := hgrow9.size; have hs9 : W.heap.size < w9.heap.size := (by have h := hgrow9.size; simp at h; omega); have hS9 : w9.cell? ⟨ga + 1, 0, none⟩ = some (.slice (some ⟨ga, 0, none⟩) 1 1) ∧ w9.cell? ⟨ga + 1, 1, none⟩ = some (.int .i64 (f - 3)) := ⟨(hgrow9.cell_far ⟨ga + 1, 0, none⟩ hl2 hne9).trans hSB.1, (hgrow9.cell_far ⟨ga + 1, 1, none⟩ hl2 hne9).trans hSB.2⟩; have hg9 : u7.ownBlock = some gg ∨ ((W.alloc (.cells #[.slice (some ⟨ga, 0, none⟩) 1 1, .int .i64 (f - 3)] 30)).alloc (.cells #[.slice (some ⟨ga, 0, none⟩) 1 1, .int .i64 (f - 3)] 30)).drew.heap.size ≤ gg := hat9.imp id fun h => (by rw [h]; simp); have hB9 : Below w9.heap.size w9 w9 := Below.refl _ _; have ST9 := HT.out.still BU2.out hgrow9 hB9; have OL9 : w9.ownsRow w.heap.size 30 2 (.slice (some ⟨W.heap.size, 0, none⟩) 1 1) 1 [.slice (some ⟨ga, 0, none⟩) 1 1, .int .i64 (f - 3)] := own_lit ((hgrow9.block W.heap.size hqC (by intro hx; exact absurd (hfu7 _ hx.symm) (by omega))).trans LB.out) (by omega); have hGn : W.heap.size ≠ gg := (by exact hg9.elim (fun hx => (by have := hfu7 _ hx; omega)) (fun hx => (by simp at hx; omega))); have hGw : wr.heap.size ≤ W.heap.size := (by omega); have hrG : FarOf (some W.heap.size) (.slice (some ⟨ga, 0, none⟩) 1 1) [v] := far_new HROW.out (by omega); have hb9w : w.heap.size ≤ w9.heap.size := (by omega); have BF9 : Below w.heap.size w w9 := ((hbel.trans (BU2.out.mono hsz)).grown hgrow9 hbw2 (fun j hj => (HT.out.fst.lt j hj).1))) |
            (refine step_append_lies _ (by rfl) (.tmp 49) (.tmp 50) _ (by rfl) w.heap.size 30 i0 _ 2 32 Try.underlying22 hi hz0 hz1' hz2 rfl (by omega) (.slice (some ⟨(W.heap.size + 1), 0, none⟩) 1 1) 1 [.slice (some ⟨ga, 0, none⟩) 1 1, .int .i64 (f - 3)] (by rfl) OL9 ⟨tb, 0, none⟩ acc.length tc (flat2 l.reverse) (by rfl) ST9.1 (own_news ST9) HC.out (by omega) (by unfold maxLen; omega) (by omega) hb9w w9.heap.size (by rfl) ?_; intro hh dd w10 hown10 hgrow10 hat10 hlt10; have BF : Below w.heap.size w w10 := BF9.grown hgrow10 hb9w (fun j hj => (by cases hj; show w.heap.size ≤ (W.heap.size + 1); omega)); have hS10 : w10.cell? ⟨ga + 1, 0, none⟩ = some (.slice (some ⟨ga, 0, none⟩) 1 1) ∧ w10.cell? ⟨ga + 1, 1, none⟩ = some (.int .i64 (f - 3)) := ⟨(hgrow10.cell_far ⟨ga + 1, 0, none⟩ (by first | (simp; omega) | omega) (by simp [Value.ownBlock]; omega)).trans hS9.1, (hgrow10.cell_far ⟨ga + 1, 1, none⟩ (by first | (simp; omega) | omega) (by simp [Value.ownBlock]; omega)).trans hS9.2⟩; have TT : TwoAt w10 w.heap.size (.slice (some ⟨gg, 0, none⟩) (acc.length + 1) cc) (.slice (some ⟨hh, 0, none⟩) (1 + acc.length) dd) (acc ++ [⟨[v], f - 3⟩]) (l ++ [(.slice (some ⟨ga, 0, none⟩) 1 1, .int .i64 (f - 3))]) := (by rw [Nat.add_comm 1] at hown10 ⊢; exact HT.out.step BU2.out HR2.out FX.out hrG hown9 hgrow9 hg9 hlt9 hB9 hGn hGw hown10 hgrow10 (hat10.imp (fun h => (by simpa [Value.ownBlock] using h)) fun h => (by rw [h]; simp)))) |
            (refine step_append_lies _ (by rfl) (.tmp 49) (.tmp 50) _ (by rfl) w.heap.size 30 i0 _ 2 32 Try.underlying22 hi hz0 hz1' hz2 rfl (by omega) (.slice (some ⟨W.heap.size, 0, none⟩) 1 1) 1 [.slice (some ⟨ga, 0, none⟩) 1 1, .int .i64 (f - 3)] (by rfl) OL9 ⟨tb, 0, none⟩ acc.length tc (flat2 l.reverse) (by rfl) ST9.1 (own_news ST9) HC.out (by omega) (by unfold maxLen; omega) (by omega) hb9w w9.heap.size (by rfl) ?_; intro hh dd w10 hown10 hgrow10 hat10 hlt10; have BF : Below w.heap.size w w10 := BF9.grown hgrow10 hb9w (fun j hj => (by cases hj; show w.heap.size ≤ W.heap.size; omega)); have hS10 : w10.cell? ⟨ga + 1, 0, none⟩ = some (.slice (some ⟨ga, 0, none⟩) 1 1) ∧ w10.cell? ⟨ga + 1, 1, none⟩ = some (.int .i64 (f - 3)) := ⟨(hgrow10.cell_far ⟨ga + 1, 0, none⟩ (by first | (simp; omega) | omega) (by simp [Value.ownBlock]; omega)).trans hS9.1, (hgrow10.cell_far ⟨ga + 1, 1, none⟩ (by first | (simp; omega) | omega) (by simp [Value.ownBlock]; omega)).trans hS9.2⟩; have TT : TwoAt w10 w.heap.size (.slice (some ⟨gg, 0, none⟩) (acc.length + 1) cc) (.slice (some ⟨hh, 0, none⟩) (1 + acc.length) dd) (acc ++ [⟨[v], f - 3⟩]) (l ++ [(.slice (some ⟨ga, 0, none⟩) 1 1, .int .i64 (f - 3))]) := (by rw [Nat.add_comm 1] at hown10 ⊢; exact HT.out.step BU2.out HR2.out FX.out hrG hown9 hgrow9 hg9 hlt9 hB9 hGn hGw hown10 hgrow10 (hat10.imp (fun h => (by simpa [Value.ownBlock] using h)) fun h => (by rw [h]; simp)))) |
            (refine step_append_lies _ (by rfl) (.tmp 49) (.tmp 50) _ (by rfl) w.heap.size 30 i0 _ 2 32 Try.underlying22 hi hz0 hz1' hz2 rfl (by omega) (.slice (some ⟨w9.heap.size, 0, none⟩) 1 1) 1 [.slice (some ⟨ga, 0, none⟩) 1 1, .int .i64 (f - 3)] (by rfl) OL9 ⟨tb, 0, none⟩ acc.length tc (flat2 l.reverse) (by rfl) ST9.1 (own_news ST9) HC.out (by omega) (by unfold maxLen; omega) (by omega) hb9w (w9.heap.size + 1) (by simp) ?_; intro hh dd w10 hown10 hgrow10 hat10 hlt10; have BF : Below w.heap.size w w10 := BF9.grown hgrow10 hb9w (fun j hj => (by cases hj; show w.heap.size ≤ w9.heap.size; omega)); have hS10 : w10.cell? ⟨ga + 1, 0, none⟩ = some (.slice (some ⟨ga, 0, none⟩) 1 1) ∧ w10.cell? ⟨ga + 1, 1, none⟩ = some (.int .i64 (f - 3)) := ⟨(hgrow10.cell_far ⟨ga + 1, 0, none⟩ (by first | (simp; omega) | omega) (by simp [Value.ownBlock]; omega)).trans hS9A.1, (hgrow10.cell_far ⟨ga + 1, 1, none⟩ (by first | (simp; omega) | omega) (by simp [Value.ownBlock]; omega)).trans hS9A.2⟩; have TT : TwoAt w10 w.heap.size (.slice (some ⟨gg, 0, none⟩) (acc.length + 1) cc) (.slice (some ⟨hh, 0, none⟩) (1 + acc.length) dd) (acc ++ [⟨[v], f - 3⟩]) (l ++ [(.slice (some ⟨ga, 0, none⟩) 1 1, .int .i64 (f - 3))]) := (by rw [Nat.add_comm 1] at hown10 ⊢; exact HT.out.step BU1.out HR1.out FX.out hrG hown9 hgrow9 hg9 hlt9 hB9 hGn hGw hown10 hgrow10 (hat10.imp (fun h => (by simpa [Value.ownBlock] using h)) fun h => (by rw [h]; simp)))))
        all_goals
          clear hown10 hgrow10 hat10 hlt10 hown9 hgrow9 hat9 hlt9 OL9 ST9 NA NB NC LB LC OA OB BU1 BU2 HR1 HR2 HROW HBX
          go_wp2_with fail
          go_roundw
          case rel => exact ⟨k + 1, _, by omega, by go_num, by rw [HQ2.out, HD.out]; exact TT, BF, fun h => absurd h (by omega)⟩
          case measure => simp [intOf]; omega
    · obtain rfl : k = N := by omega
      have hdl : (drawD zs1 k).length ≤ 1000 := by rw [drawD_length]; omega
      have hdr : (drawD zs1 k).reverse.length ≤ 1000 := by rw [List.length_reverse]; exact hdl
      have HNT := Lib.hid (norm_turned zs1 k)
      obtain ⟨ax, cx, rfl, hix, px, qx, rx, _⟩ := own_ents HT.out.one
      obtain ⟨at1, ct, rfl, hit, pt, qt, rt, _⟩ := own_ents HT.out.other
      have FX := Lib.hid hix
      have FT := Lib.hid hit
      replace E1 := Lib.hid (E1.out.below hbel (Nat.le_refl _))
      clear hix hit HT CA hnil
      generalize drawD zs1 k = D at *
      generalize D.reverse = R at *
      obtain ⟨o1, HO1⟩ : ∃ o, Hid (normOut es1 = o) := ⟨_, rfl⟩
      obtain ⟨o2, HO2⟩ : ∃ o, Hid (normOut D = o) := ⟨_, rfl⟩
      have HO3 : Hid (normOut R = o2) := HNT.out.trans HO2.out
      clear HNT
      have hB0 := hbel
      go_wp2_with fail
      refine (errTo (normalize_any x1 l1 k1 es1 wr E1.out he1c he1m he1n (by omega)) HO1.out).mono ?_
      rintro e w11 ⟨v1, rfl, ho1, hb1⟩
      have hB1 := hB0.trans (hb1.mono hB0.size)
      replace E1 := Lib.hid (E1.out.below hb1 (Nat.le_refl _))
      replace FX := Lib.hid (FX.out.below hb1 (Nat.le_refl _))
      replace FT := Lib.hid (FT.out.below hb1 (Nat.le_refl _))
      obtain ⟨a1, c1, rfl, hi1, _, _, _, _⟩ := own_ents ho1
      have P1 := Lib.hid hi1
      clear ho1 hi1
      go_wp2_with fail
      refine (errTo (rnormalize_any x1 l1 k1 es1 w11 E1.out he1c he1m he1n (by omega)) HO1.out).mono ?_
      rintro e w12 ⟨v2, rfl, ho2, hb2⟩
      have hB2 := hB1.trans (hb2.mono hB1.size)
      replace E1 := Lib.hid (E1.out.below hb2 (Nat.le_refl _))
      replace FX := Lib.hid (FX.out.below hb2 (Nat.le_refl _))
      replace FT := Lib.hid (FT.out.below hb2 (Nat.le_refl _))
      replace P1 := Lib.hid (P1.out.below hb2 (Nat.le_refl _))
      obtain ⟨a2, c2, rfl, hi2, _, _, _, _⟩ := own_ents ho2
      have P2 := Lib.hid hi2
      clear ho2 hi2
      go_wp2_with fail
      refine (errTo (normalize_any ax D.length cx D w12 FX.out px qx rx (by omega)) HO2.out).mono ?_
      rintro e w13 ⟨v3, rfl, ho3, hb3⟩
      have hB3 := hB2.trans (hb3.mono hB2.size)
      replace E1 := Lib.hid (E1.out.below hb3 (Nat.le_refl _))
      replace FX := Lib.hid (FX.out.below hb3 (Nat.le_refl _))
      replace FT := Lib.hid (FT.out.below hb3 (Nat.le_refl _))
      replace P1 := Lib.hid (P1.out.below hb3 (Nat.le_refl _))
      replace P2 := Lib.hid (P2.out.below hb3 (Nat.le_refl _))
      obtain ⟨a3, c3, rfl, hi3, _, _, _, _⟩ := own_ents ho3
      have P3 := Lib.hid hi3
      clear ho3 hi3
      go_wp2_with fail
      refine (errTo (rnormalize_any ax D.length cx D w13 FX.out px qx rx (by omega)) HO2.out).mono ?_
      rintro e w14 ⟨v4, rfl, ho4, hb4⟩
      have hB4 := hB3.trans (hb4.mono hB3.size)
      replace E1 := Lib.hid (E1.out.below hb4 (Nat.le_refl _))
      replace FX := Lib.hid (FX.out.below hb4 (Nat.le_refl _))
      replace FT := Lib.hid (FT.out.below hb4 (Nat.le_refl _))
      replace P1 := Lib.hid (P1.out.below hb4 (Nat.le_refl _))
      replace P2 := Lib.hid (P2.out.below hb4 (Nat.le_refl _))
      replace P3 := Lib.hid (P3.out.below hb4 (Nat.le_refl _))
      obtain ⟨a4, c4, rfl, hi4, _, _, _, _⟩ := own_ents ho4
      have P4 := Lib.hid hi4
      clear ho4 hi4
      go_wp2_with fail
      refine (errTo (normalize_any at1 R.length ct R w14 FT.out pt qt rt (by omega)) HO3.out).mono ?_
      rintro e w15 ⟨v5, rfl, ho5, hb5⟩
      have hB5 := hB4.trans (hb5.mono hB4.size)
      replace E1 := Lib.hid (E1.out.below hb5 (Nat.le_refl _))
      replace FX := Lib.hid (FX.out.below hb5 (Nat.le_refl _))
      replace FT := Lib.hid (FT.out.below hb5 (Nat.le_refl _))
      replace P1 := Lib.hid (P1.out.below hb5 (Nat.le_refl _))
      replace P2 := Lib.hid (P2.out.below hb5 (Nat.le_refl _))
      replace P3 := Lib.hid (P3.out.below hb5 (Nat.le_refl _))
      replace P4 := Lib.hid (P4.out.below hb5 (Nat.le_refl _))
      obtain ⟨a5, c5, rfl, hi5, _, _, _, _⟩ := own_ents ho5
      have P5 := Lib.hid hi5
      clear ho5 hi5
      clear E1 FX FT HO1 HO2 HO3
      have hm1 : o1.1.length ≤ 9223372036854775807 := by omega
      have hm2 : o2.1.length ≤ 9223372036854775807 := by omega
      go_wp2_with fail
      refine (rsame_true P1.out P2.out hm1).mono ?_
      rintro e w16 ⟨rfl, hb6⟩
      have hB6 := hB5.trans (hb6.mono hB5.size)
      replace P1 := Lib.hid (P1.out.below hb6 (Nat.le_refl _))
      replace P2 := Lib.hid (P2.out.below hb6 (Nat.le_refl _))
      replace P3 := Lib.hid (P3.out.below hb6 (Nat.le_refl _))
      replace P4 := Lib.hid (P4.out.below hb6 (Nat.le_refl _))
      replace P5 := Lib.hid (P5.out.below hb6 (Nat.le_refl _))
      go_wp2_with fail
      refine (rsame_true P3.out P4.out hm2).mono ?_
      rintro e w17 ⟨rfl, hb7⟩
      have hB7 := hB6.trans (hb7.mono hB6.size)
      replace P1 := Lib.hid (P1.out.below hb7 (Nat.le_refl _))
      replace P2 := Lib.hid (P2.out.below hb7 (Nat.le_refl _))
      replace P3 := Lib.hid (P3.out.below hb7 (Nat.le_refl _))
      replace P4 := Lib.hid (P4.out.below hb7 (Nat.le_refl _))
      replace P5 := Lib.hid (P5.out.below hb7 (Nat.le_refl _))
      go_wp2_with fail
      refine (rsame_true P5.out P3.out hm2).mono ?_
      rintro e w18 ⟨rfl, hb8⟩
      have hB8 := hB7.trans (hb8.mono hB7.size)
      replace P1 := Lib.hid (P1.out.below hb8 (Nat.le_refl _))
      replace P2 := Lib.hid (P2.out.below hb8 (Nat.le_refl _))
      replace P3 := Lib.hid (P3.out.below hb8 (Nat.le_refl _))
      replace P4 := Lib.hid (P4.out.below hb8 (Nat.le_refl _))
      replace P5 := Lib.hid (P5.out.below hb8 (Nat.le_refl _))
      go_wp2_with fail
      refine (known_any _).mono ?_
      rintro e w19 ⟨rfl, hb9⟩
      have hB9 := hB8.trans (hb9.mono hB8.size)
      go_wp2_with fail
      go_ret
      exact ⟨rfl, hB9⟩

end Go.Proofs.Ytdhhhmehkldliaa
