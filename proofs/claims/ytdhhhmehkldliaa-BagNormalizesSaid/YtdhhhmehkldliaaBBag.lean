/-
  warehousebase.Bag: the bags that the laws draw.
-/
import Derived.Test.YtdhhhmehkldliaaBNorm
import Derived.Test.YtdhhhmehkldliaaGAny
import Derived.Test.YtdhhhmehkldliaaGAt
set_option linter.unusedVariables false
namespace Wh

def rowN (zs : List Int) (i : Int) : List V := if atZ zs (3 * i) % 2 = 0 then [anyV (atZ zs (3 * i + 1) % 30)] else [anyV (atZ zs (3 * i + 1) % 30), anyV (atZ zs (3 * i + 2) % 30)]
def entN (zs : List Int) (i : Nat) : En := ⟨rowN zs i, atZ zs (3 * i) / 2 % 7 - 3⟩
def drawB (zs : List Int) (n : Nat) : List En := (List.range n).map (entN zs)
def bagZ (zs : List Int) (n : Nat) : List En := (normOut (drawB zs n)).1
theorem drawB_succ (zs : List Int) (n : Nat) : drawB zs (n + 1) = drawB zs n ++ [entN zs n] := by
  unfold drawB
  rw [List.range_succ, List.map_append]
  rfl
theorem drawB_length (zs : List Int) (n : Nat) : (drawB zs n).length = n := by simp [drawB]

end Wh
namespace Go.Proofs.Ytdhhhmehkldliaa
open Go.RowKit Wh

set_option maxHeartbeats 4000000
set_option maxRecDepth 100000

theorem size_valB (W : World) : (sizeOf 38).run Try.prog W = .ok 3 W := by
  kernel_rfl
theorem slice_to_vals2 (b k : Nat) (hk : k ≤ 2) (W : World) :
    (Instr.slice 28 (.slice (some ⟨b, 0, none⟩) 2 2) none (some (.int .i64 k)) none).run Try.prog W = .ok (.slice (some ⟨b, 0, none⟩) k 2) W := by
  have ht : Try.prog.underlying 28 = some (.slice (Try.prog.elem 28)) := by simp [Program.elem, Try.underlying28]
  have he : Try.prog.elem 28 = 38 := by simp [Program.elem, Try.underlying28]
  rw [run_slice_h W _ _ _ _ ht .i64 _ (by omega) (by omega), he, size_valB]
  have hadd : (⟨b, 0, none⟩ : Addr).add 0 = ⟨b, 0, none⟩ := by unfold Addr.add; split <;> simp_all
  simp [Result.andThen, sliced, hadd]

theorem isVals_new {w : World} {b : Nat} {v1 v2 : V} {o : Obj} (hb : b = w.heap.size) (ho : o = .cells #[.int .i64 v1.k, .int .i64 v1.n, .string v1.s, .int .i64 v2.k, .int .i64 v2.n, .string v2.s] 38) :
    IsVals (w.alloc o) (some ⟨b, 0, none⟩) 2 [v1, v2] ∧ IsVals (w.alloc o) (some ⟨b, 0, none⟩) 1 [v1] := by
  subst hb ho
  have hc : ∀ (j : Nat) (u : Value), (#[Value.int .i64 v1.k, .int .i64 v1.n, .string v1.s, .int .i64 v2.k, .int .i64 v2.n, .string v2.s])[j]? = some u →
      (w.alloc (.cells #[.int .i64 v1.k, .int .i64 v1.n, .string v1.s, .int .i64 v2.k, .int .i64 v2.n, .string v2.s] 38)).cell? ⟨w.heap.size, j, none⟩ = some u := fun j u h => cell_of_row _ _ j _ _ _ (heap_alloc_new w _) |>.trans h
  refine ⟨⟨rfl, .inr ⟨w.heap.size, 0, rfl, by simp, fun i v hv => ?_⟩⟩, ⟨rfl, .inr ⟨w.heap.size, 0, rfl, by simp, fun i v hv => ?_⟩⟩⟩
  · match i, hv with
    | 0, hv => cases hv; exact ⟨hc 0 _ rfl, hc 1 _ rfl, hc 2 _ rfl⟩
    | 1, hv => cases hv; exact ⟨hc 3 _ rfl, hc 4 _ rfl, hc 5 _ rfl⟩
  · match i, hv with
    | 0, hv => cases hv; exact ⟨hc 0 _ rfl, hc 1 _ rfl, hc 2 _ rfl⟩

theorem bag_any (a : Option Addr) (len cap : Nat) (zs : List Int) (n : Nat) (w : World) (hz : IsInts w a len zs) (hl : len ≤ 9223372036854775807) (hn : n ≤ 1000) :
    Calls Try.prog 14 #[.slice a len cap, .int .i64 n] w (EntsPost w (bagZ zs n)) := by
  unfold bagZ
  have CA := Lib.hid (fun (i : Int) W (hW : Below w.heap.size w W) => at_any a len cap zs i W (hz.below hW (Nat.le_refl _)) hl)
  obtain ⟨i0, hi, hz0, hz1, hz2⟩ := info_parts info_ent
  have SL1 := fun b W => slice_to_vals2 b 1 (by omega) W
  have SL2 := fun b W => slice_to_vals2 b 2 (by omega) W
  clear hz
  go_enter Try.func14, Try.ntmps14
  go_wp2_with fail
  go_loopw [5, 6] (fun ov iv wr => ∃ k : Nat, k ≤ n ∧ iv = .int .i64 k ∧ OwnEnts wr w.heap.size ov (drawB zs k) ∧ Below w.heap.size w wr) (fun _ i _ => n - (intOf i).toNat)
  case atStart => exact ⟨0, Nat.zero_le _, rfl, OwnEnts.nil _ _, Below.refl _ _⟩
  case round =>
    obtain ⟨k, hk, rfl, hO, hbel⟩ := hrel
    have HO := Lib.hid hO
    clear hO
    have hs9 := hbel.size
    by_cases hlt : k < n
    · have hN := drawB_succ zs k
      have hl9 := drawB_length zs k
      have C0 := Lib.hid (fun W hW => CA.out (3 * (k : Int)) W hW)
      have C1 := Lib.hid (fun W hW => CA.out (3 * (k : Int) + 1) W hW)
      have C2 := Lib.hid (fun W hW => CA.out (3 * (k : Int) + 2) W hW)
      obtain ⟨u0, u1⟩ := atZ_bounds zs (3 * (k : Int))
      obtain ⟨u2, u3⟩ := atZ_bounds zs (3 * (k : Int) + 1)
      obtain ⟨u4, u5⟩ := atZ_bounds zs (3 * (k : Int) + 2)
      unfold entN rowN at hN
      generalize atZ zs (3 * (k : Int)) = x at *
      generalize atZ zs (3 * (k : Int) + 1) = y1 at *
      generalize atZ zs (3 * (k : Int) + 2) = y2 at *
      obtain ⟨q1, hq1⟩ : ∃ q, y1 % 30 = q := ⟨_, rfl⟩
      obtain ⟨q2, hq2⟩ : ∃ q, y2 % 30 = q := ⟨_, rfl⟩
      obtain ⟨d, hd⟩ : ∃ q, x / 2 = q := ⟨_, rfl⟩
      obtain ⟨f, hf⟩ : ∃ q, d % 7 = q := ⟨_, rfl⟩
      rw [hq1, hq2, hd, hf] at hN
      have t1 : y1.tmod 30 = q1 := by rw [Int.tmod_eq_emod_of_nonneg u2]; exact hq1
      have t2 : y2.tmod 30 = q2 := by rw [Int.tmod_eq_emod_of_nonneg u4]; exact hq2
      have t3 : x.tdiv 2 = d := by rw [Int.tdiv_eq_ediv_of_nonneg u0]; exact hd
      have t4 : d.tmod 7 = f := by rw [Int.tmod_eq_emod_of_nonneg (by omega)]; exact hf
      have f0 : 0 ≤ f := by omega
      have f1 : f ≤ 6 := by omega
      have w1 : wrap64 d = d := IntWalk.wrap64_in _ (by omega)
      have w2 : wrap64 (f - 3) = f - 3 := IntWalk.wrap64_in _ (by omega)
      have V1 := Lib.hid (fun W => any_any q1 (by omega) (by omega) W)
      have V2 := Lib.hid (fun W => any_any q2 (by omega) (by omega) W)
      generalize anyV q1 = v1 at *
      generalize anyV q2 = v2 at *
      clear CA
      rcases (show x % 2 = 0 ∨ x % 2 = 1 by omega) with hm | hm
      · rw [if_pos hm] at hN
        have tm : x.tmod 2 = 0 := by rw [Int.tmod_eq_emod_of_nonneg u0]; exact hm
        have PU := Lib.hid (fun W4 (h4 : Below wr.heap.size wr W4) => pushedNew (f - 3) ((HO.out.below h4).alloc (.cells #[.int .i64 v1.k, .int .i64 v1.n, .string v1.s, .int .i64 v2.k, .int .i64 v2.n, .string v2.s] 38))
          (rv := .slice (some ⟨W4.heap.size, 0, none⟩) 1 2) (r := [v1]) ⟨_, _, _, rfl, (isVals_new rfl rfl).2, by omega, by unfold maxLen; omega, by intro h; cases h⟩
          (by intro _ x n c hx hg; cases hx; exact absurd ((HO.out.below h4).choose_spec.2.1.lt _ hg).2 (Nat.lt_irrefl _)) (hbel.trans ((h4.mono hs9).trans ((Below.refl _ _).alloc (Nat.le_trans hs9 h4.size) _))))
        rw [hl9, ← hN] at PU
        have H9 := Lib.hid hl9
        generalize drawB zs k = acc at *
        generalize hq3 : drawB zs (k + 1) = acc2 at *
        have HQ3 := Lib.hid hq3
        clear hq3
        clear hN hl9
        clear hq1 hq2 hd hf u2 u3 u4 u5 SL2
        go_wp2_with fail
        refine (C0.out _ hbel).mono ?_
        rintro e x1 ⟨rfl, hb1⟩
        have hB1 := hbel.trans (hb1.mono hs9)
        go_wp2_with fail
        refine (C1.out _ hB1).mono ?_
        rintro e x2 ⟨rfl, hb2⟩
        have hB2 := hB1.trans (hb2.mono hB1.size)
        go_wp2_with fail
        refine (V1.out _).mono ?_
        rintro e w3 ⟨rfl, hb3⟩
        have hB3 := hB2.trans (hb3.mono hB2.size)
        go_wp2_with fail
        refine (C2.out _ hB3).mono ?_
        rintro e w4 ⟨rfl, hb4⟩
        have hB4 := hB3.trans (hb4.mono hB3.size)
        go_wp2_with fail
        refine (V2.out _).mono ?_
        rintro e w5 ⟨rfl, hb5⟩
        have hr1 := hb1.trans (hb2.mono hb1.size)
        have hr2 := hr1.trans (hb3.mono hr1.size)
        have hr3 := hr2.trans (hb4.mono hr2.size)
        have hr4 := hr3.trans (hb5.mono hr3.size)
        have hs5 := hr4.size
        obtain ⟨l9, ho9, PUSH⟩ := PU.out w5 hr4
        have HP := Lib.hid PUSH
        clear PUSH PU C0 C1 C2 V1 V2 hb1 hb2 hb3 hb4 hb5 hr1 hr2 hr3 hB1 hB2 hB3 hB4
        go_wp2_with (at_builtin; refine wpList_append_lies _ rfl _ _ 22 rfl w.heap.size 30 i0 _ 2 32 Try.underlying22 hi hz0 hz1 hz2 rfl (by decide) _ _ _ rfl (ho9.alloc _) ⟨w5.heap.size + 1, 0, none⟩ 1 1 [.slice (some ⟨w5.heap.size, 0, none⟩) 1 2, .int .i64 (f - 3)] rfl rfl (by have h := heap_alloc_new (w5.alloc (.cells #[.int .i64 v1.k, .int .i64 v1.n, .string v1.s, .int .i64 v2.k, .int .i64 v2.n, .string v2.s] 38)) (.cells #[.slice (some ⟨w5.heap.size, 0, none⟩) 1 2, .int .i64 (f - 3)] 30); rw [World.size_alloc] at h; exact World.news_of_block (cs := #[.slice (some ⟨w5.heap.size, 0, none⟩) 1 2, .int .i64 (f - 3)]) (t := 30) (fr := (0, 0)) h) (by simp [Value.oneCell']) (by omega) (by unfold maxLen; omega) (by omega) (by simp; omega) (w5.heap.size + 2) (by simp) ?_)
        intro gg cc w9 hown9 hgrow9 hat9 hlt9
        obtain ⟨hO3, hB3⟩ := HP.out _ gg cc w9 ((Below.refl _ _).alloc (Nat.le_refl _) _) hown9 hgrow9 (hat9.imp id fun h => by rw [h]; simp)
        clear HP hown9 hgrow9 hat9 hlt9 ho9
        go_wp2_with fail
        go_roundw
        case rel => exact ⟨k + 1, by omega, by go_num, by rw [HQ3.out]; exact hO3, hB3⟩
        case measure => simp [intOf]; omega
      · rw [if_neg (by omega)] at hN
        have tm : x.tmod 2 = 1 := by rw [Int.tmod_eq_emod_of_nonneg u0]; exact hm
        have PU := Lib.hid (fun W4 (h4 : Below wr.heap.size wr W4) => pushedNew (f - 3) ((HO.out.below h4).alloc (.cells #[.int .i64 v1.k, .int .i64 v1.n, .string v1.s, .int .i64 v2.k, .int .i64 v2.n, .string v2.s] 38))
          (rv := .slice (some ⟨W4.heap.size, 0, none⟩) 2 2) (r := [v1, v2]) ⟨_, _, _, rfl, (isVals_new rfl rfl).1, by omega, by unfold maxLen; omega, by intro h; cases h⟩
          (by intro _ x n c hx hg; cases hx; exact absurd ((HO.out.below h4).choose_spec.2.1.lt _ hg).2 (Nat.lt_irrefl _)) (hbel.trans ((h4.mono hs9).trans ((Below.refl _ _).alloc (Nat.le_trans hs9 h4.size) _))))
        rw [hl9, ← hN] at PU
        have H9 := Lib.hid hl9
        generalize drawB zs k = acc at *
        generalize hq3 : drawB zs (k + 1) = acc2 at *
        have HQ3 := Lib.hid hq3
        clear hq3
        clear hN hl9
        clear hq1 hq2 hd hf u2 u3 u4 u5 SL1
        go_wp2_with fail
        refine (C0.out _ hbel).mono ?_
        rintro e x1 ⟨rfl, hb1⟩
        have hB1 := hbel.trans (hb1.mono hs9)
        go_wp2_with fail
        refine (C1.out _ hB1).mono ?_
        rintro e x2 ⟨rfl, hb2⟩
        have hB2 := hB1.trans (hb2.mono hB1.size)
        go_wp2_with fail
        refine (V1.out _).mono ?_
        rintro e w3 ⟨rfl, hb3⟩
        have hB3 := hB2.trans (hb3.mono hB2.size)
        go_wp2_with fail
        refine (C2.out _ hB3).mono ?_
        rintro e w4 ⟨rfl, hb4⟩
        have hB4 := hB3.trans (hb4.mono hB3.size)
        go_wp2_with fail
        refine (V2.out _).mono ?_
        rintro e w5 ⟨rfl, hb5⟩
        have hr1 := hb1.trans (hb2.mono hb1.size)
        have hr2 := hr1.trans (hb3.mono hr1.size)
        have hr3 := hr2.trans (hb4.mono hr2.size)
        have hr4 := hr3.trans (hb5.mono hr3.size)
        have hs5 := hr4.size
        obtain ⟨l9, ho9, PUSH⟩ := PU.out w5 hr4
        have HP := Lib.hid PUSH
        clear PUSH PU C0 C1 C2 V1 V2 hb1 hb2 hb3 hb4 hb5 hr1 hr2 hr3 hB1 hB2 hB3 hB4
        go_wp2_with (at_builtin; refine wpList_append_lies _ rfl _ _ 22 rfl w.heap.size 30 i0 _ 2 32 Try.underlying22 hi hz0 hz1 hz2 rfl (by decide) _ _ _ rfl (ho9.alloc _) ⟨w5.heap.size + 1, 0, none⟩ 1 1 [.slice (some ⟨w5.heap.size, 0, none⟩) 2 2, .int .i64 (f - 3)] rfl rfl (by have h := heap_alloc_new (w5.alloc (.cells #[.int .i64 v1.k, .int .i64 v1.n, .string v1.s, .int .i64 v2.k, .int .i64 v2.n, .string v2.s] 38)) (.cells #[.slice (some ⟨w5.heap.size, 0, none⟩) 2 2, .int .i64 (f - 3)] 30); rw [World.size_alloc] at h; exact World.news_of_block (cs := #[.slice (some ⟨w5.heap.size, 0, none⟩) 2 2, .int .i64 (f - 3)]) (t := 30) (fr := (0, 0)) h) (by simp [Value.oneCell']) (by omega) (by unfold maxLen; omega) (by omega) (by simp; omega) (w5.heap.size + 2) (by simp) ?_)
        intro gg cc w9 hown9 hgrow9 hat9 hlt9
        obtain ⟨hO3, hB3⟩ := HP.out _ gg cc w9 ((Below.refl _ _).alloc (Nat.le_refl _) _) hown9 hgrow9 (hat9.imp id fun h => by rw [h]; simp)
        clear HP hown9 hgrow9 hat9 hlt9 ho9
        go_wp2_with fail
        go_roundw
        case rel => exact ⟨k + 1, by omega, by go_num, by rw [HQ3.out]; exact hO3, hB3⟩
        case measure => simp [intOf]; omega
    · obtain rfl : k = n := by omega
      obtain ⟨a5, k5, rfl, hi1, i1, i2, i3, _⟩ := own_ents HO.out
      have hl9 : (drawB zs k).length ≤ 1000000 := by rw [drawB_length]; omega
      clear CA
      go_wp2_with fail
      refine (rnormalize_any a5 _ k5 _ wr hi1 i1 i2 i3 hl9).mono ?_
      rintro e w3 ⟨v3, rfl, ho3, hb3⟩
      go_wp2_with fail
      go_ret
      exact ⟨v3, rfl, ho3.mono hs9, hbel.trans (hb3.mono hs9)⟩

end Go.Proofs.Ytdhhhmehkldliaa
