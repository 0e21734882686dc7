/-
  The law ExactWithin: the answer about any share is what the document says.
-/
import Derived.Test.YtknpjfmpflbcfaaXKnown
import Derived.Deep.RegionHeld3
set_option linter.unusedVariables false
namespace Go.Proofs.Ytknpjfmpflbcfaa
open Go.RowKit Wh

/-- Four boxes of two cells stay as they are while callees make new memory. -/
theorem keepFour {W0 W w' : World} {B0 B1 B2 B3 B4 : Nat} {a0 a1 b0 b1 c0 c1 d0 d1 : Value}
    (h : W.cell? ⟨B1, 0, none⟩ = some a0 ∧ W.cell? ⟨B1, 1, none⟩ = some a1 ∧ W.cell? ⟨B2, 0, none⟩ = some b0 ∧ W.cell? ⟨B2, 1, none⟩ = some b1 ∧
      W.cell? ⟨B3, 0, none⟩ = some c0 ∧ W.cell? ⟨B3, 1, none⟩ = some c1 ∧ W.cell? ⟨B4, 0, none⟩ = some d0 ∧ W.cell? ⟨B4, 1, none⟩ = some d1 ∧
      B1 < W.heap.size ∧ B2 < W.heap.size ∧ B3 < W.heap.size ∧ B4 < W.heap.size ∧ B0 ≤ W.heap.size ∧ Below B0 W0 W)
    (hb : Below W.heap.size W w') :
    w'.cell? ⟨B1, 0, none⟩ = some a0 ∧ w'.cell? ⟨B1, 1, none⟩ = some a1 ∧ w'.cell? ⟨B2, 0, none⟩ = some b0 ∧ w'.cell? ⟨B2, 1, none⟩ = some b1 ∧
      w'.cell? ⟨B3, 0, none⟩ = some c0 ∧ w'.cell? ⟨B3, 1, none⟩ = some c1 ∧ w'.cell? ⟨B4, 0, none⟩ = some d0 ∧ w'.cell? ⟨B4, 1, none⟩ = some d1 ∧
      B1 < w'.heap.size ∧ B2 < w'.heap.size ∧ B3 < w'.heap.size ∧ B4 < w'.heap.size ∧ B0 ≤ w'.heap.size ∧ Below B0 W0 w' := by
  obtain ⟨h0, h1, h2, h3, h4, h5, h6, h7, h8, h9, h10, h11, h12, h13⟩ := h
  have hc := (bcell hb).1
  have hs := hb.size
  refine ⟨?_, ?_, ?_, ?_, ?_, ?_, ?_, ?_, by omega, by omega, by omega, by omega, by omega, h13.trans (hb.mono (by omega))⟩ <;> (rw [hc _ _ (by omega)]; assumption)

set_option maxRecDepth 100000 in
set_option maxHeartbeats 1000000 in
theorem within_walk (p : Int) (_ : -9223372036854775808 ≤ p) (_ : p ≤ 9223372036854775807) (q : Int) (_ : -9223372036854775808 ≤ q) (_ : q ≤ 9223372036854775807)
    (k0 m0 : Int) (_ : -9223372036854775808 ≤ k0) (_ : k0 ≤ 9223372036854775807) (_ : -9223372036854775808 ≤ m0) (_ : m0 ≤ 9223372036854775807)
    (k1 m1 : Int) (_ : -9223372036854775808 ≤ k1) (_ : k1 ≤ 9223372036854775807) (_ : -9223372036854775808 ≤ m1) (_ : m1 ≤ 9223372036854775807)
    (n : Int) (_ : -9223372036854775808 ≤ n) (_ : n ≤ 9223372036854775807) (w : World) :
    Calls Try.prog 8 #[.int .i64 p, .int .i64 q, rat k0 m0, rat k1 m1, .int .i64 n] w fun e w' => e = .returned (.bool true) ∧ Below w.heap.size w w' := by
  have s1 := fun W => smallr_any n (n / 16) W
  have s2 := fun W => smallr_any (n / 256) (n / 4096) W
  generalize smN n (n / 16) = an at *
  generalize smD n (n / 16) = ad at *
  generalize smN (n / 256) (n / 4096) = bn at *
  generalize smD (n / 256) (n / 4096) = bd at *
  have b1 := and_31
  have S1 := Lib.hid s1
  have S2 := Lib.hid s2
  clear s1 s2
  go_enter Try.func8, Try.ntmps8
  go_wp2_with fail
  refine (S1.out _).mono ?_
  rintro e w1 ⟨rfl, hb1⟩
  obtain ⟨hc1, hf1⟩ := bcell hb1
  have hs1 : w.heap.size + 1 < w1.heap.size := by have := hb1.size; simp at this; omega
  have ht1 : w.heap.size < w1.heap.size := by omega
  have hB1 : Hid (Below w.heap.size w w1) := Lib.hid ((((Below.refl _ _).alloc (Nat.le_refl _) _).alloc (by simp) _).trans (hb1.mono (by simp; omega)))
  clear hb1
  go_wp2_with fail
  refine (S2.out _).mono ?_
  rintro e w2 ⟨rfl, hb2⟩
  obtain ⟨hc2, hf2⟩ := bcell hb2
  have hs2 : w.heap.size + 1 < w2.heap.size := by have := hb2.size; omega
  have ht2 : w.heap.size < w2.heap.size := by omega
  have hB2 : Hid (Below w.heap.size w w2) := Lib.hid (hB1.out.trans (hb2.mono (by omega)))
  clear hb2
  go_wp2_with fail
  have hc0 : w2.cell? ⟨w.heap.size, 0, none⟩ = some (.int .i64 k0) := by rw [hc2 _ _ (by omega), hc1 _ _ (by simp; omega)]; go_simp
  have hc3 : w2.cell? ⟨w.heap.size, 1, none⟩ = some (.int .i64 m0) := by rw [hc2 _ _ (by omega), hc1 _ _ (by simp; omega)]; go_simp
  have hc4 : w2.cell? ⟨w.heap.size + 1, 0, none⟩ = some (.int .i64 k1) := by rw [hc2 _ _ (by omega), hc1 _ _ (by simp)]; go_simp
  have hc5 : w2.cell? ⟨w.heap.size + 1, 1, none⟩ = some (.int .i64 m1) := by rw [hc2 _ _ (by omega), hc1 _ _ (by simp)]; go_simp
  clear hc1 hf1 hc2 hf2
  generalize p % 32 = pp
  generalize q % 32 = qq
  have hB3 : ∀ o1 o2, Below w.heap.size w ((w2.alloc o1).alloc o2).drew := fun o1 o2 => ((hB2.out.alloc (by omega) _).alloc (by simp; omega) _).drew
  have hS : ∀ o1 o2, w2.heap.size + 1 < ((w2.alloc o1).alloc o2).drew.heap.size := fun o1 o2 => by show _ < ((w2.heap.push o1).push o2).size; simp only [Array.size_push]; omega
  have hS1 : ∀ o1 o2, w2.heap.size < ((w2.alloc o1).alloc o2).drew.heap.size := fun o1 o2 => by have := hS o1 o2; omega
  have hS2 : ∀ o1 o2, w.heap.size + 1 < ((w2.alloc o1).alloc o2).drew.heap.size := fun o1 o2 => by have := hS o1 o2; omega
  have hS3 : ∀ o1 o2, w.heap.size < ((w2.alloc o1).alloc o2).drew.heap.size := fun o1 o2 => by have := hS o1 o2; omega
  have hS4 : ∀ o1 o2, w.heap.size ≤ ((w2.alloc o1).alloc o2).drew.heap.size := fun o1 o2 => by have := hS o1 o2; omega
  go_region_held3 (fun w' => w'.cell? ⟨w.heap.size, 0, none⟩ = some (.int .i64 k0) ∧ w'.cell? ⟨w.heap.size, 1, none⟩ = some (.int .i64 m0) ∧ w'.cell? ⟨w.heap.size + 1, 0, none⟩ = some (.int .i64 k1) ∧ w'.cell? ⟨w.heap.size + 1, 1, none⟩ = some (.int .i64 m1) ∧
      w'.cell? ⟨w2.heap.size, 0, none⟩ = some (.int .i64 an) ∧ w'.cell? ⟨w2.heap.size, 1, none⟩ = some (.int .i64 ad) ∧ w'.cell? ⟨w2.heap.size + 1, 0, none⟩ = some (.int .i64 bn) ∧ w'.cell? ⟨w2.heap.size + 1, 1, none⟩ = some (.int .i64 bd) ∧
      w.heap.size < w'.heap.size ∧ w.heap.size + 1 < w'.heap.size ∧ w2.heap.size < w'.heap.size ∧ w2.heap.size + 1 < w'.heap.size ∧ w.heap.size ≤ w'.heap.size ∧ Below w.heap.size w w')
    (first | with_reducible exact keepFour (by assumption) (by assumption) | (refine ⟨?_, ?_, ?_, ?_, ?_, ?_, ?_, ?_, ?_, ?_, ?_, ?_, ?_, ?_⟩ <;> first | with_reducible exact hB3 _ _ | with_reducible exact hS3 _ _ | with_reducible exact hS2 _ _ | with_reducible exact hS1 _ _ | with_reducible exact hS _ _ | with_reducible exact hS4 _ _ | go_keep))
    (first | (go_at_call 29; refine (within_any _ _ _ _ _ _ _).mono ?_; rintro e w' ⟨rfl, hb⟩) | (go_at_call 30; refine (rwithin_any _ _ _ _ _ _ _).mono ?_; rintro e w' ⟨rfl, hb⟩) | (go_at_call 17; refine (known_any _).mono ?_; rintro e w' ⟨rfl, hb⟩))
  all_goals
    go_wp2_with fail
  all_goals
    go_ret
    refine ⟨rfl, ?_⟩
    go_split_ands
    assumption

end Go.Proofs.Ytknpjfmpflbcfaa
