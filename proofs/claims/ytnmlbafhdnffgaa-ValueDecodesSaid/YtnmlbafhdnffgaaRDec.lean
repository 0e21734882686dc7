/-
  warehouseref1.decode: the value that bytes begin with, before it is checked, and its size.
-/
import Derived.Test.YtnmlbafhdnffgaaDecode
set_option linter.unusedVariables false
namespace Go.Proofs.Ytnmlbafhdnffgaa
open Go.RowKit Wh

def rdOut : List UInt8 → V × Nat
  | [] => (nullV, 0)
  | k :: r => match fieldsOf k r with
    | none => (nullV, 0)
    | some (v, n) => (v, 1 + n)

theorem rd_nil (a : Option Addr) (cap : Nat) (w : World) (hm : cap ≤ 9223372036854775807) :
    Calls Try.prog 35 #[.slice a 0 cap] w (RPost w (nullV, 0)) := by
  go_enter Try.func35, Try.ntmps35
  go_wp2_with fail
  refine bodyPost_ret (v := .tuple #[agg 0 0 ⟨#[]⟩, .int .i64 0]) (by simp [results, Try.results35, go_sem]) rfl ⟨rfl, ?_⟩
  exact (Below.refl _ _).alloc (Nat.le_refl _) _

theorem rd_null (b off len cap : Nat) (w : World) (hl : 1 ≤ len) (hm : cap ≤ 9223372036854775807) (hb : b < w.heap.size) (h0 : w.cell? ⟨b, off, none⟩ = some (.int .u8 0)) :
    Calls Try.prog 35 #[.slice (some ⟨b, off, none⟩) len cap] w (RPost w (nullV, 1)) := by
  have hd : ((len : Int) == 0) = false := by simp; omega
  have hne : ¬ b = w.heap.size := by omega
  have hl2 : (0 : Int) < len := by omega
  go_enter Try.func35, Try.ntmps35
  go_wp2_with fail
  refine bodyPost_ret (v := .tuple #[agg 0 0 ⟨#[]⟩, .int .i64 1]) (by simp [results, Try.results35, go_sem]) rfl ⟨rfl, ?_⟩
  exact ((Below.refl _ _).alloc (Nat.le_refl _) _).alloc (by simp) _

theorem rd_other (b off len cap y : Nat) (w : World) (hl : 1 ≤ len) (hm : cap ≤ 9223372036854775807) (hb : b < w.heap.size) (h0 : w.cell? ⟨b, off, none⟩ = some (.int .u8 y)) (hy : 5 ≤ y) (hy2 : y < 256) :
    Calls Try.prog 35 #[.slice (some ⟨b, off, none⟩) len cap] w (RPost w (nullV, 0)) := by
  have hd : ((len : Int) == 0) = false := by simp; omega
  have hne : ¬ b = w.heap.size := by omega
  have hl2 : (0 : Int) < len := by omega
  have d0 : ((y : Int) == 0) = false := by simp; omega
  have d1 : ((y : Int) == 1) = false := by simp; omega
  have d2 : ((y : Int) == 2) = false := by simp; omega
  have d3 : ((y : Int) == 3) = false := by simp; omega
  have d4 : ((y : Int) == 4) = false := by simp; omega
  go_enter Try.func35, Try.ntmps35
  go_wp2_with fail
  refine bodyPost_ret (v := .tuple #[agg 0 0 ⟨#[]⟩, .int .i64 0]) (by simp [results, Try.results35, go_sem]) rfl ⟨rfl, ?_⟩
  exact ((Below.refl _ _).alloc (Nat.le_refl _) _).alloc (by simp) _

theorem rd_bool (b off len cap y : Nat) (w : World) (hl : 2 ≤ len) (hm : cap ≤ 9223372036854775807) (hb : b < w.heap.size) (h0 : w.cell? ⟨b, off, none⟩ = some (.int .u8 1)) (h1 : w.cell? ⟨b, off + 1, none⟩ = some (.int .u8 y)) (hy2 : y < 256) :
    Calls Try.prog 35 #[.slice (some ⟨b, off, none⟩) len cap] w (RPost w (⟨1, y, ⟨#[]⟩⟩, 2)) := by
  have hd : ((len : Int) == 0) = false := by simp; omega
  have hne : ¬ b = w.heap.size := by omega
  have hne1 : ¬ b = w.heap.size + 1 := by omega
  have hl2 : (0 : Int) < len := by omega
  have hl3 : (1 : Int) < len := by omega
  have hl4 : (2 : Int) ≤ len := by omega
  go_enter Try.func35, Try.ntmps35
  go_wp2_with fail
  refine bodyPost_ret (v := .tuple #[agg 1 y ⟨#[]⟩, .int .i64 2]) (by simp [results, Try.results35, go_sem]) rfl ⟨rfl, ?_⟩
  exact ((Below.refl _ _).alloc (Nat.le_refl _) _).alloc (by simp) _

theorem rd_bool_short (b off len cap : Nat) (w : World) (hl : len = 1) (hm : cap ≤ 9223372036854775807) (hb : b < w.heap.size) (h0 : w.cell? ⟨b, off, none⟩ = some (.int .u8 1)) :
    Calls Try.prog 35 #[.slice (some ⟨b, off, none⟩) len cap] w (RPost w (nullV, 0)) := by
  subst hl
  have hne : ¬ b = w.heap.size := by omega
  have hne1 : ¬ b = w.heap.size + 1 := by omega
  go_enter Try.func35, Try.ntmps35
  go_wp2_with fail
  refine bodyPost_ret (v := .tuple #[agg 0 0 ⟨#[]⟩, .int .i64 0]) (by simp [results, Try.results35, go_sem]) rfl ⟨rfl, ?_⟩
  exact ((Below.refl _ _).alloc (Nat.le_refl _) _).alloc (by simp) _

theorem rd_num_short (k : Int) (hk : k = 2 ∨ k = 4) (b off len cap : Nat) (w : World) (hl : 1 ≤ len) (hs : len < 5) (hm : cap ≤ 9223372036854775807) (hb : b < w.heap.size) (h0 : w.cell? ⟨b, off, none⟩ = some (.int .u8 k)) :
    Calls Try.prog 35 #[.slice (some ⟨b, off, none⟩) len cap] w (RPost w (nullV, 0)) := by
  have hne : ¬ b = w.heap.size := by omega
  have hne1 : ¬ b = w.heap.size + 1 := by omega
  have hd : ((len : Int) == 0) = false := by simp; omega
  have hl2 : (0 : Int) < len := by omega
  have hl5 : ¬ (5 : Int) ≤ len := by omega
  rcases hk with rfl | rfl
  · go_enter Try.func35, Try.ntmps35
    go_wp2_with fail
    refine bodyPost_ret (v := .tuple #[agg 0 0 ⟨#[]⟩, .int .i64 0]) (by simp [results, Try.results35, go_sem]) rfl ⟨rfl, ?_⟩
    exact ((Below.refl _ _).alloc (Nat.le_refl _) _).alloc (by simp) _
  · go_enter Try.func35, Try.ntmps35
    go_wp2_with fail
    refine bodyPost_ret (v := .tuple #[agg 0 0 ⟨#[]⟩, .int .i64 0]) (by simp [results, Try.results35, go_sem]) rfl ⟨rfl, ?_⟩
    exact ((Below.refl _ _).alloc (Nat.le_refl _) _).alloc (by simp) _

theorem rd_text_short (b off len cap : Nat) (w : World) (hl : len = 1) (hm : cap ≤ 9223372036854775807) (hb : b < w.heap.size) (h0 : w.cell? ⟨b, off, none⟩ = some (.int .u8 3)) :
    Calls Try.prog 35 #[.slice (some ⟨b, off, none⟩) len cap] w (RPost w (nullV, 0)) := by
  subst hl
  have hne : ¬ b = w.heap.size := by omega
  have hne1 : ¬ b = w.heap.size + 1 := by omega
  go_enter Try.func35, Try.ntmps35
  go_wp2_with fail
  refine bodyPost_ret (v := .tuple #[agg 0 0 ⟨#[]⟩, .int .i64 0]) (by simp [results, Try.results35, go_sem]) rfl ⟨rfl, ?_⟩
  exact ((Below.refl _ _).alloc (Nat.le_refl _) _).alloc (by simp) _

theorem rd_text_no (b off len cap y : Nat) (w : World) (hl : 2 ≤ len) (hs : len < 2 + y) (hm : cap ≤ 9223372036854775807) (hb : b < w.heap.size) (h0 : w.cell? ⟨b, off, none⟩ = some (.int .u8 3)) (h1 : w.cell? ⟨b, off + 1, none⟩ = some (.int .u8 y)) (hy2 : y < 256) :
    Calls Try.prog 35 #[.slice (some ⟨b, off, none⟩) len cap] w (RPost w (nullV, 0)) := by
  have hne : ¬ b = w.heap.size := by omega
  have hne1 : ¬ b = w.heap.size + 1 := by omega
  have hd : ((len : Int) == 0) = false := by simp; omega
  have hl2 : (0 : Int) < len := by omega
  have hl3 : (1 : Int) < len := by omega
  have hl4 : (2 : Int) ≤ len := by omega
  have hl5 : ¬ (2 : Int) + y ≤ len := by omega
  go_enter Try.func35, Try.ntmps35
  go_wp2_with fail
  refine bodyPost_ret (v := .tuple #[agg 0 0 ⟨#[]⟩, .int .i64 0]) (by simp [results, Try.results35, go_sem]) rfl ⟨rfl, ?_⟩
  exact ((Below.refl _ _).alloc (Nat.le_refl _) _).alloc (by simp) _

theorem rd_int (b off len cap : Nat) (x0 x1 x2 x3 : UInt8) (w : World) (hl : 5 ≤ len) (hc : len ≤ cap) (hm : cap ≤ 9223372036854775807) (hb : b < w.heap.size) (h0 : w.cell? ⟨b, off, none⟩ = some (.int .u8 2))
    (h1 : w.cell? ⟨b, off + 1, none⟩ = some (B x0)) (h2 : w.cell? ⟨b, off + 1 + 1, none⟩ = some (B x1)) (h3 : w.cell? ⟨b, off + 1 + 2, none⟩ = some (B x2)) (h4 : w.cell? ⟨b, off + 1 + 3, none⟩ = some (B x3)) :
    Calls Try.prog 35 #[.slice (some ⟨b, off, none⟩) len cap] w (RPost w (⟨2, num4 x0 x1 x2 x3 - 1073741824, ⟨#[]⟩⟩, 5)) := by
  have hne : ¬ b = w.heap.size := by omega
  have hne1 : ¬ b = w.heap.size + 1 := by omega
  have hd : ((len : Int) == 0) = false := by simp; omega
  have hl2 : (0 : Int) < len := by omega
  have hl3 : (1 : Int) ≤ len := by omega
  have hl5 : (5 : Int) ≤ len := by omega
  have hcap : ¬ cap = 1 := by omega
  have N0 : 0 ≤ num4 x0 x1 x2 x3 := by unfold num4; omega
  have N1 : num4 x0 x1 x2 x3 < 4294967296 := by
    have := x0.toNat_lt
    have := x1.toNat_lt
    have := x2.toNat_lt
    have := x3.toNat_lt
    unfold num4
    omega
  have hN := fun W (hB : Below w.heap.size w W) => number_any b (off + 1) (len - 1) (cap - 1) x0 x1 x2 x3 W (by omega) (cell_later hB h1) (cell_later hB h2) (cell_later hB h3) (cell_later hB h4)
  generalize num4 x0 x1 x2 x3 = y at *
  have HN := Lib.hid hN
  clear hN h1 h2 h3 h4
  go_enter Try.func35, Try.ntmps35
  go_wp2_with fail
  have hB : ∀ o1 o2, Below w.heap.size w ((w.alloc o1).alloc o2) := fun o1 o2 => ((Below.refl _ _).alloc (Nat.le_refl _) o1).alloc (by simp) o2
  refine (HN.out _ (hB _ _)).mono ?_
  rintro e w1 ⟨rfl, hb1⟩
  obtain ⟨hc1, hf1⟩ := bcell hb1
  have hs1 : w.heap.size + 1 < w1.heap.size := by have := hb1.size; simp at this; omega
  have hB1 : Below w.heap.size w w1 := (hB _ _).trans (hb1.mono (by simp; omega))
  go_wp2_with fail
  have z0 : w1.cell? ⟨w.heap.size, 0, none⟩ = some (.int .i64 0) := cell_later hb1 (cell_of_row _ _ _ _ _ _ (old_block (heap_alloc_new w _)))
  have z1 : w1.cell? ⟨w.heap.size, 1, none⟩ = some (.int .i64 0) := cell_later hb1 (cell_of_row _ _ _ _ _ _ (old_block (heap_alloc_new w _)))
  have z2 : w1.cell? ⟨w.heap.size, 2, none⟩ = some (.string ⟨#[]⟩) := cell_later hb1 (cell_of_row _ _ _ _ _ _ (old_block (heap_alloc_new w _)))
  have yz : ∀ j v u, w1.cell? ⟨w.heap.size, j, none⟩ = some v → (w1.setCell ⟨w.heap.size + 1, 1, none⟩ u).cell? ⟨w.heap.size, j, none⟩ = some v := fun j v u h => (World.cell?_setCell_far _ _ _ _ (by simp)).trans h
  obtain ⟨f0, f1, f2⟩ := three_stores (k := .int .i64 2) (n := .int .i64 (y - 1073741824)) (s := .string ⟨#[]⟩) (yz 0 _ (.int .i64 (y - 1073741824)) z0) (yz 1 _ (.int .i64 (y - 1073741824)) z1) (yz 2 _ (.int .i64 (y - 1073741824)) z2)
  refine bodyPost_ret (v := .tuple #[agg 2 (y - 1073741824) ⟨#[]⟩, .int .i64 5]) (by simp [results, Try.results35, go_sem, f0, f1, f2]) rfl ⟨rfl, ?_⟩
  exact below_three (hB1.setCell (by simp) _) (Nat.le_refl _)

theorem rd_time (b off len cap : Nat) (x0 x1 x2 x3 : UInt8) (w : World) (hl : 5 ≤ len) (hc : len ≤ cap) (hm : cap ≤ 9223372036854775807) (hb : b < w.heap.size) (h0 : w.cell? ⟨b, off, none⟩ = some (.int .u8 4))
    (h1 : w.cell? ⟨b, off + 1, none⟩ = some (B x0)) (h2 : w.cell? ⟨b, off + 1 + 1, none⟩ = some (B x1)) (h3 : w.cell? ⟨b, off + 1 + 2, none⟩ = some (B x2)) (h4 : w.cell? ⟨b, off + 1 + 3, none⟩ = some (B x3)) :
    Calls Try.prog 35 #[.slice (some ⟨b, off, none⟩) len cap] w (RPost w (⟨4, num4 x0 x1 x2 x3, ⟨#[]⟩⟩, 5)) := by
  have hne : ¬ b = w.heap.size := by omega
  have hne1 : ¬ b = w.heap.size + 1 := by omega
  have hd : ((len : Int) == 0) = false := by simp; omega
  have hl2 : (0 : Int) < len := by omega
  have hl3 : (1 : Int) ≤ len := by omega
  have hl5 : (5 : Int) ≤ len := by omega
  have hcap : ¬ cap = 1 := by omega
  have N0 : 0 ≤ num4 x0 x1 x2 x3 := by unfold num4; omega
  have N1 : num4 x0 x1 x2 x3 < 4294967296 := by
    have := x0.toNat_lt
    have := x1.toNat_lt
    have := x2.toNat_lt
    have := x3.toNat_lt
    unfold num4
    omega
  have hN := fun W (hB : Below w.heap.size w W) => number_any b (off + 1) (len - 1) (cap - 1) x0 x1 x2 x3 W (by omega) (cell_later hB h1) (cell_later hB h2) (cell_later hB h3) (cell_later hB h4)
  generalize num4 x0 x1 x2 x3 = y at *
  have HN := Lib.hid hN
  clear hN h1 h2 h3 h4
  go_enter Try.func35, Try.ntmps35
  go_wp2_with fail
  have hB : ∀ o1 o2, Below w.heap.size w ((w.alloc o1).alloc o2) := fun o1 o2 => ((Below.refl _ _).alloc (Nat.le_refl _) o1).alloc (by simp) o2
  refine (HN.out _ (hB _ _)).mono ?_
  rintro e w1 ⟨rfl, hb1⟩
  obtain ⟨hc1, hf1⟩ := bcell hb1
  have hs1 : w.heap.size + 1 < w1.heap.size := by have := hb1.size; simp at this; omega
  have hB1 : Below w.heap.size w w1 := (hB _ _).trans (hb1.mono (by simp; omega))
  go_wp2_with fail
  have z0 : w1.cell? ⟨w.heap.size, 0, none⟩ = some (.int .i64 0) := cell_later hb1 (cell_of_row _ _ _ _ _ _ (old_block (heap_alloc_new w _)))
  have z1 : w1.cell? ⟨w.heap.size, 1, none⟩ = some (.int .i64 0) := cell_later hb1 (cell_of_row _ _ _ _ _ _ (old_block (heap_alloc_new w _)))
  have z2 : w1.cell? ⟨w.heap.size, 2, none⟩ = some (.string ⟨#[]⟩) := cell_later hb1 (cell_of_row _ _ _ _ _ _ (old_block (heap_alloc_new w _)))
  have yz : ∀ j v u, w1.cell? ⟨w.heap.size, j, none⟩ = some v → (w1.setCell ⟨w.heap.size + 1, 1, none⟩ u).cell? ⟨w.heap.size, j, none⟩ = some v := fun j v u h => (World.cell?_setCell_far _ _ _ _ (by simp)).trans h
  obtain ⟨f0, f1, f2⟩ := three_stores (k := .int .i64 4) (n := .int .i64 y) (s := .string ⟨#[]⟩) (yz 0 _ (.int .i64 y) z0) (yz 1 _ (.int .i64 y) z1) (yz 2 _ (.int .i64 y) z2)
  refine bodyPost_ret (v := .tuple #[agg 4 y ⟨#[]⟩, .int .i64 5]) (by simp [results, Try.results35, go_sem, f0, f1, f2]) rfl ⟨rfl, ?_⟩
  exact below_three (hB1.setCell (by simp) _) (Nat.le_refl _)

end Go.Proofs.Ytnmlbafhdnffgaa
