/-
  The sanity check that every law of layer 5 calls.
-/
import Derived.Test.YtdlkkajkflebgaaSQual
import Derived.Test.YtdlkkajkflebgaaSIndex
import Derived.Test.YtdlkkajkflebgaaSRow
import Derived.Test.YtdlkkajkflebgaaGAny
set_option linter.unusedVariables false
namespace Wh
open Go

theorem eqS_ab : eqS ⟨#[97]⟩ ⟨#[98]⟩ = false := by
  unfold eqS
  rw [toList_bts, toList_bts]
  decide

end Wh
namespace Go.Proofs.Ytdlkkajkflebgaa
open Go.RowKit Wh

theorem new_cols1 (w : World) (nm : ByteArray) (kd : Int) (nu : Bool) : IsCols (w.alloc (.cells #[.string nm, .int .i64 kd, .bool nu] 55)) (some ⟨w.heap.size, 0, none⟩) 1 [⟨nm, kd, nu⟩] := by
  refine ⟨rfl, .inr ⟨w.heap.size, 0, rfl, by simp, fun i c hc => ?_⟩⟩
  have hb := heap_alloc_new w (.cells #[.string nm, .int .i64 kd, .bool nu] 55)
  cases i with
  | zero => simp at hc; subst hc; exact ⟨cell_of_row _ _ 0 _ _ _ hb, cell_of_row _ _ 1 _ _ _ hb, cell_of_row _ _ 2 _ _ _ hb⟩
  | succ i => simp at hc

theorem new_vals1 (w : World) (k n : Int) (s : ByteArray) : IsVals (w.alloc (.cells #[.int .i64 k, .int .i64 n, .string s] 40)) (some ⟨w.heap.size, 0, none⟩) 1 [⟨k, n, s⟩] := by
  refine ⟨rfl, .inr ⟨w.heap.size, 0, rfl, by simp, fun i c hc => ?_⟩⟩
  have hb := heap_alloc_new w (.cells #[.int .i64 k, .int .i64 n, .string s] 40)
  cases i with
  | zero => simp at hc; subst hc; exact ⟨cell_of_row _ _ 0 _ _ _ hb, cell_of_row _ _ 1 _ _ _ hb, cell_of_row _ _ 2 _ _ _ hb⟩
  | succ i => simp at hc

theorem rowE_known : rowE [⟨⟨#[97]⟩, 2, false⟩] [⟨0, 0, ⟨#[]⟩⟩] = 7 := by
  unfold rowE
  rw [if_pos (show [(⟨⟨#[97]⟩, 2, false⟩ : C)].length = [(⟨0, 0, ⟨#[]⟩⟩ : V)].length from rfl)]
  unfold goRow
  rw [if_neg (by rw [show validB (V.k ⟨0, 0, ⟨#[]⟩⟩) (V.n ⟨0, 0, ⟨#[]⟩⟩) (V.s ⟨0, 0, ⟨#[]⟩⟩) = true from valid_null]; decide)]
  rfl
theorem idx_a : idxC [⟨⟨#[97]⟩, 2, false⟩] ⟨#[97]⟩ = 0 := by
  unfold idxC idxF
  rw [if_pos (eqS_refl _)]
  rfl
theorem idx_b : idxC [⟨⟨#[97]⟩, 2, false⟩] ⟨#[98]⟩ = -1 := by
  unfold idxC idxF
  rw [if_neg (by rw [show eqS (C.nm ⟨⟨#[97]⟩, 2, false⟩) ⟨#[98]⟩ = false from eqS_ab]; decide)]
  rfl

set_option maxHeartbeats 1000000 in
theorem known_any (w : World) : Calls Try.prog 10 #[] w fun e w' => e = .returned (.bool true) ∧ Below w.heap.size w w' := by
  have n1 := fun W => isName_any ⟨#[97, 95, 49]⟩ W
  rw [show nameB ⟨#[97, 95, 49]⟩ = true by decide +kernel] at n1
  have n2 := fun W => isName_any ⟨#[49, 97]⟩ W
  rw [show nameB ⟨#[49, 97]⟩ = false by decide +kernel] at n2
  have n3 := fun W => isQualified_any ⟨#[99, 111, 114, 101, 46, 97]⟩ (by decide) W
  rw [show qualB ⟨#[99, 111, 114, 101, 46, 97]⟩ = true by decide +kernel] at n3
  have n4 := fun W => isQualified_any ⟨#[97, 46, 98, 46, 99]⟩ (by decide) W
  rw [show qualB ⟨#[97, 46, 98, 46, 99]⟩ = false by decide +kernel] at n4
  have hic := new_cols1 w ⟨#[97]⟩ 2 false
  have hB0 : Below w.heap.size w (w.alloc (.cells #[.string ⟨#[97]⟩, .int .i64 2, .bool false] 55)) := (Below.refl _ _).alloc (Nat.le_refl _) _
  have hz0 : (w.alloc (.cells #[.string ⟨#[97]⟩, .int .i64 2, .bool false] 55)).heap.size = w.heap.size + 1 := World.size_alloc _ _
  generalize hW0 : w.alloc (.cells #[.string ⟨#[97]⟩, .int .i64 2, .bool false] 55) = W0 at *
  have c5 := fun W (h : Below W0.heap.size W0 W) => checkRow_any (some ⟨w.heap.size, 0, none⟩) 1 1 _ (some ⟨W.heap.size, 0, none⟩) 1 1 [⟨0, 0, ⟨#[]⟩⟩] (W.alloc (.cells #[.int .i64 0, .int .i64 0, .string ⟨#[]⟩] 40))
    ((hic.below h (Nat.le_refl _)).below ((Below.refl _ _).alloc (Nat.le_refl _) _) (Nat.le_refl _)) (new_vals1 W 0 0 ⟨#[]⟩) (by omega) (by omega)
  rw [rowE_known] at c5
  have c6 := fun W (h : Below W0.heap.size W0 W) => checkRow_any (some ⟨w.heap.size, 0, none⟩) 1 1 _ none 0 0 [] W (hic.below h (Nat.le_refl _)) ⟨rfl, .inl rfl⟩ (by omega) (by omega)
  rw [show rowE [⟨⟨#[97]⟩, 2, false⟩] [] = 8 from rfl] at c6
  have c7 := fun W (h : Below W0.heap.size W0 W) => index_any5 (some ⟨w.heap.size, 0, none⟩) 1 1 _ ⟨#[97]⟩ W (hic.below h (Nat.le_refl _)) (by omega)
  rw [idx_a] at c7
  have c8 := fun W (h : Below W0.heap.size W0 W) => index_any5 (some ⟨w.heap.size, 0, none⟩) 1 1 _ ⟨#[98]⟩ W (hic.below h (Nat.le_refl _)) (by omega)
  rw [idx_b] at c8
  have N1 := Lib.hid n1
  have N2 := Lib.hid n2
  have N3 := Lib.hid n3
  have N4 := Lib.hid n4
  have C5 := Lib.hid c5
  have C6 := Lib.hid c6
  have C7 := Lib.hid c7
  have C8 := Lib.hid c8
  have HW0 := Lib.hid hW0
  clear n1 n2 n3 n4 c5 c6 c7 c8 hic hW0
  have b0 : Below W0.heap.size W0 W0 := Below.refl _ _
  go_enter Try.func10, Try.ntmps10
  go_wp2_with (first | (go_at_call_of 12 (Value.string ⟨#[97, 95, 49]⟩); rw [HW0.out]; refine (N1.out _).mono ?_; rintro e w1 ⟨rfl, h1⟩; have b1 := b0.trans (h1.mono b0.size)) |
    (go_at_call_of 12 (Value.string ⟨#[49, 97]⟩); refine (N2.out _).mono ?_; rintro e w2 ⟨rfl, h2⟩; have b2 := b1.trans (h2.mono b1.size)) |
    (go_at_call_of 14 (Value.string ⟨#[99, 111, 114, 101, 46, 97]⟩); refine (N3.out _).mono ?_; rintro e w3 ⟨rfl, h3⟩; have b3 := b2.trans (h3.mono b2.size)) |
    (go_at_call_of 14 (Value.string ⟨#[97, 46, 98, 46, 99]⟩); refine (N4.out _).mono ?_; rintro e w4 ⟨rfl, h4⟩; have b4 := b3.trans (h4.mono b3.size)) |
    (go_at_call_of 23 (Value.slice none 0 0); refine (C6.out _ b5).mono ?_; rintro e w6 ⟨rfl, h6⟩; have b6 := b5.trans (h6.mono b5.size)) |
    (go_at_call 23; refine (C5.out _ b4).mono ?_; rintro e w5 ⟨rfl, h5⟩; have b5 := (b4.alloc b4.size _).trans (h5.mono (by simp; have := b4.size; omega))) |
    (go_at_call_of 19 (Value.string ⟨#[97]⟩); refine (C7.out _ b6).mono ?_; rintro e w7 ⟨rfl, h7⟩; have b7 := b6.trans (h7.mono b6.size)) |
    (go_at_call_of 19 (Value.string ⟨#[98]⟩); refine (C8.out _ b7).mono ?_; rintro e w8 ⟨rfl, h8⟩; have b8 := b7.trans (h8.mono b7.size)))
  go_ret
  exact ⟨rfl, hB0.trans (b8.mono hB0.size)⟩

end Go.Proofs.Ytdlkkajkflebgaa
