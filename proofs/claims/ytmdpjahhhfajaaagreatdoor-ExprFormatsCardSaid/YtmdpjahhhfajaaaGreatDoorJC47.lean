/-
  The reference: binary.
-/
import Derived.Test.YtmdpjahhhfajaaaGreatDoorJC46
import Derived.Test.YtmdpjahhhfajaaaGreatDoorJC30
set_option linter.unusedVariables false
set_option linter.unusedSimpArgs false
set_option maxRecDepth 100000
namespace Go.Proofs.YtmdpjahhhfajaaaGreatDoor
open Go.RowKit Go.Joins Wh
theorem keepRb {w W0 w1 w2 : World} {sx sy : ByteArray} {xl yl : Int} {xi yi : Bool} (h0 : w.heap.size + 2 < w1.heap.size) (h : w1.cell? ⟨w.heap.size, 0, none⟩ = some (.string sx) ∧ w1.cell? ⟨w.heap.size, 1, none⟩ = some (.int .i64 xl) ∧ w1.cell? ⟨w.heap.size, 2, none⟩ = some (.bool xi) ∧ w1.cell? ⟨w.heap.size + 1, 0, none⟩ = some (.string sy) ∧ w1.cell? ⟨w.heap.size + 1, 1, none⟩ = some (.int .i64 yl) ∧ w1.cell? ⟨w.heap.size + 1, 2, none⟩ = some (.bool yi) ∧ Below (w.heap.size + 2) W0 w1) (hb : Below w1.heap.size w1 w2) : w2.cell? ⟨w.heap.size, 0, none⟩ = some (.string sx) ∧ w2.cell? ⟨w.heap.size, 1, none⟩ = some (.int .i64 xl) ∧ w2.cell? ⟨w.heap.size, 2, none⟩ = some (.bool xi) ∧ w2.cell? ⟨w.heap.size + 1, 0, none⟩ = some (.string sy) ∧ w2.cell? ⟨w.heap.size + 1, 1, none⟩ = some (.int .i64 yl) ∧ w2.cell? ⟨w.heap.size + 1, 2, none⟩ = some (.bool yi) ∧ Below (w.heap.size + 2) W0 w2 := by
 obtain ⟨b0, b1, b2, c0, c1, c2, hB⟩ := h
 have e : ∀ B o, B < w1.heap.size → w2.cell? ⟨B, o, none⟩ = w1.cell? ⟨B, o, none⟩ := fun B o h => hb.cell (p := ⟨B, o, none⟩) h
 exact ⟨(e _ _ (by omega)).trans b0, (e _ _ (by omega)).trans b1, (e _ _ (by omega)).trans b2, (e _ _ (by omega)).trans c0, (e _ _ (by omega)).trans c1, (e _ _ (by omega)).trans c2, hB.trans (hb.mono (by omega))⟩
theorem keepRbSt {w W0 w1 : World} {sx sy : ByteArray} {xl yl : Int} {xi yi : Bool} {u0 u1 u2 : Value} (h : w1.cell? ⟨w.heap.size, 0, none⟩ = some (.string sx) ∧ w1.cell? ⟨w.heap.size, 1, none⟩ = some (.int .i64 xl) ∧ w1.cell? ⟨w.heap.size, 2, none⟩ = some (.bool xi) ∧ w1.cell? ⟨w.heap.size + 1, 0, none⟩ = some (.string sy) ∧ w1.cell? ⟨w.heap.size + 1, 1, none⟩ = some (.int .i64 yl) ∧ w1.cell? ⟨w.heap.size + 1, 2, none⟩ = some (.bool yi) ∧ Below (w.heap.size + 2) W0 w1) : (((w1.setCell ⟨w.heap.size + 2, 0, none⟩ u0).setCell ⟨w.heap.size + 2, 1, none⟩ u1).setCell ⟨w.heap.size + 2, 2, none⟩ u2).cell? ⟨w.heap.size, 0, none⟩ = some (.string sx) ∧ (((w1.setCell ⟨w.heap.size + 2, 0, none⟩ u0).setCell ⟨w.heap.size + 2, 1, none⟩ u1).setCell ⟨w.heap.size + 2, 2, none⟩ u2).cell? ⟨w.heap.size, 1, none⟩ = some (.int .i64 xl) ∧ (((w1.setCell ⟨w.heap.size + 2, 0, none⟩ u0).setCell ⟨w.heap.size + 2, 1, none⟩ u1).setCell ⟨w.heap.size + 2, 2, none⟩ u2).cell? ⟨w.heap.size, 2, none⟩ = some (.bool xi) ∧ (((w1.setCell ⟨w.heap.size + 2, 0, none⟩ u0).setCell ⟨w.heap.size + 2, 1, none⟩ u1).setCell ⟨w.heap.size + 2, 2, none⟩ u2).cell? ⟨w.heap.size + 1, 0, none⟩ = some (.string sy) ∧ (((w1.setCell ⟨w.heap.size + 2, 0, none⟩ u0).setCell ⟨w.heap.size + 2, 1, none⟩ u1).setCell ⟨w.heap.size + 2, 2, none⟩ u2).cell? ⟨w.heap.size + 1, 1, none⟩ = some (.int .i64 yl) ∧ (((w1.setCell ⟨w.heap.size + 2, 0, none⟩ u0).setCell ⟨w.heap.size + 2, 1, none⟩ u1).setCell ⟨w.heap.size + 2, 2, none⟩ u2).cell? ⟨w.heap.size + 1, 2, none⟩ = some (.bool yi) ∧ Below (w.heap.size + 2) W0 (((w1.setCell ⟨w.heap.size + 2, 0, none⟩ u0).setCell ⟨w.heap.size + 2, 1, none⟩ u1).setCell ⟨w.heap.size + 2, 2, none⟩ u2) := by
 obtain ⟨b0, b1, b2, c0, c1, c2, hB⟩ := h
 have hb : Below (w.heap.size + 2) w1 (((w1.setCell ⟨w.heap.size + 2, 0, none⟩ u0).setCell ⟨w.heap.size + 2, 1, none⟩ u1).setCell ⟨w.heap.size + 2, 2, none⟩ u2) := (((Below.refl (w.heap.size + 2) w1).setCell (p := ⟨w.heap.size + 2, 0, none⟩) (Nat.le_refl _) u0).setCell (p := ⟨w.heap.size + 2, 1, none⟩) (Nat.le_refl _) u1).setCell (p := ⟨w.heap.size + 2, 2, none⟩) (Nat.le_refl _) u2
 have e : ∀ B o, B < w.heap.size + 2 → (((w1.setCell ⟨w.heap.size + 2, 0, none⟩ u0).setCell ⟨w.heap.size + 2, 1, none⟩ u1).setCell ⟨w.heap.size + 2, 2, none⟩ u2).cell? ⟨B, o, none⟩ = w1.cell? ⟨B, o, none⟩ := fun B o h => hb.cell (p := ⟨B, o, none⟩) h
 exact ⟨(e _ _ (by omega)).trans b0, (e _ _ (by omega)).trans b1, (e _ _ (by omega)).trans b2, (e _ _ (by omega)).trans c0, (e _ _ (by omega)).trans c1, (e _ _ (by omega)).trans c2, hB.trans hb⟩
set_option maxHeartbeats 16000000 in
theorem rbinL_any (op : Int) (wd : ByteArray) (lv l1 l2 : Int) (hc : (op = 4 ∧ ⟨#[43]⟩ = wd ∧ lv = 5 ∧ l1 = 5 ∧ l2 = 6) ∨ (op = 5 ∧ ⟨#[45]⟩ = wd ∧ lv = 5 ∧ l1 = 5 ∧ l2 = 6) ∨ (op = 6 ∧ ⟨#[42]⟩ = wd ∧ lv = 6 ∧ l1 = 6 ∧ l2 = 7) ∨ (op = 7 ∧ ⟨#[47]⟩ = wd ∧ lv = 6 ∧ l1 = 6 ∧ l2 = 7) ∨ (op = 8 ∧ ⟨#[37]⟩ = wd ∧ lv = 6 ∧ l1 = 6 ∧ l2 = 7) ∨ (op = 9 ∧ ⟨#[43, 43]⟩ = wd ∧ lv = 4 ∧ l1 = 4 ∧ l2 = 5) ∨ (op = 10 ∧ ⟨#[61]⟩ = wd ∧ lv = 3 ∧ l1 = 4 ∧ l2 = 4) ∨ (op = 11 ∧ ⟨#[33, 61]⟩ = wd ∧ lv = 3 ∧ l1 = 4 ∧ l2 = 4) ∨ (op = 12 ∧ ⟨#[60]⟩ = wd ∧ lv = 3 ∧ l1 = 4 ∧ l2 = 4) ∨ (op = 13 ∧ ⟨#[60, 61]⟩ = wd ∧ lv = 3 ∧ l1 = 4 ∧ l2 = 4) ∨ (op = 14 ∧ ⟨#[97, 110, 100]⟩ = wd ∧ lv = 1 ∧ l1 = 1 ∧ l2 = 2) ∨ (op = 15 ∧ ⟨#[111, 114]⟩ = wd ∧ lv = 0 ∧ l1 = 0 ∧ l2 = 1)) (x y : Pc) (w : World) (hx : x.tx.length ≤ 1000000) (hy : y.tx.length ≤ 1000000) :
  Calls Tryz.prog 44 #[.int .i64 op, pcV x, pcV y] w fun e w' => e = .returned (pcV ⟨encL x l1 ++ 32 :: (bts wd ++ 32 :: encL y l2), lv, false⟩) ∧ Below w.heap.size w w' := by
 have hwd : wd.size ≤ 3 := by
  rcases hc with ⟨rfl, hwdd, rfl, rfl, rfl⟩ | ⟨rfl, hwdd, rfl, rfl, rfl⟩ | ⟨rfl, hwdd, rfl, rfl, rfl⟩ | ⟨rfl, hwdd, rfl, rfl, rfl⟩ | ⟨rfl, hwdd, rfl, rfl, rfl⟩ | ⟨rfl, hwdd, rfl, rfl, rfl⟩ | ⟨rfl, hwdd, rfl, rfl, rfl⟩ | ⟨rfl, hwdd, rfl, rfl, rfl⟩ | ⟨rfl, hwdd, rfl, rfl, rfl⟩ | ⟨rfl, hwdd, rfl, rfl, rfl⟩ | ⟨rfl, hwdd, rfl, rfl, rfl⟩ | ⟨rfl, hwdd, rfl, rfl, rfl⟩ <;> (rw [← hwdd]; decide)
 have esz : ∀ (z : Pc) l, z.tx.length ≤ 1000000 → (encS ⟨z.tx.toArray⟩ z.lv l).size ≤ 1000002 := fun z l h => by
  rw [encS_bts, size_mk]
  have := encL_len z l
  omega
 have hpc : pcV ⟨encL x l1 ++ 32 :: (bts wd ++ 32 :: encL y l2), lv, false⟩ = .agg #[.string ((((encS ⟨x.tx.toArray⟩ x.lv l1 ++ ⟨#[32]⟩) ++ wd) ++ ⟨#[32]⟩) ++ encS ⟨y.tx.toArray⟩ y.lv l2), .int .i64 lv, .bool false] := by
  have : ((((encS ⟨x.tx.toArray⟩ x.lv l1 ++ ⟨#[32]⟩) ++ wd) ++ ⟨#[32]⟩) ++ encS ⟨y.tx.toArray⟩ y.lv l2 : ByteArray) = ⟨(encL x l1 ++ 32 :: (bts wd ++ 32 :: encL y l2)).toArray⟩ := by
   apply ext_bts
   rw [encS_bts, encS_bts, bts_app, bts_app, bts_app, bts_app]
   show encL x l1 ++ [32] ++ bts wd ++ [32] ++ encL y l2 = encL x l1 ++ 32 :: (bts wd ++ 32 :: encL y l2)
   simp
  rw [this]
  rfl
 rw [hpc]
 have q1 := esz x l1 hx
 have q2 := esz y l2 hy
 have CX := Lib.hid (fun W => rat_any ⟨x.tx.toArray⟩ x.lv x.ig l1 W (by rw [size_mk]; exact hx))
 have CY := Lib.hid (fun W => rat_any ⟨y.tx.toArray⟩ y.lv y.ig l2 W (by rw [size_mk]; exact hy))
 unfold pcV
 obtain ⟨xt, xl, xi⟩ := x
 obtain ⟨yt, yl, yi⟩ := y
 simp only at CX CY q1 q2 ⊢
 obtain ⟨sx, hsx⟩ : ∃ s, (⟨xt.toArray⟩ : ByteArray) = s := ⟨_, rfl⟩
 obtain ⟨sy, hsy⟩ : ∃ s, (⟨yt.toArray⟩ : ByteArray) = s := ⟨_, rfl⟩
 rw [hsx] at CX q1 ⊢
 rw [hsy] at CY q2 ⊢
 obtain ⟨ex, hex⟩ : ∃ e, encS sx xl l1 = e := ⟨_, rfl⟩
 obtain ⟨ey, hey⟩ : ∃ e, encS sy yl l2 = e := ⟨_, rfl⟩
 rw [hex] at CX q1 ⊢
 rw [hey] at CY q2 ⊢
 have s1 : ¬ (9223372036854775807 < ex.size + (⟨#[32]⟩ : ByteArray).size) := by show ¬ (9223372036854775807 < ex.size + 1); omega
 have s2 : ¬ (9223372036854775807 < (ex ++ (⟨#[32]⟩ : ByteArray)).size + wd.size) := by
  rw [ByteArray.size_append]
  show ¬ (9223372036854775807 < ex.size + 1 + wd.size)
  omega
 have s3 : ¬ (9223372036854775807 < ((ex ++ (⟨#[32]⟩ : ByteArray)) ++ wd).size + (⟨#[32]⟩ : ByteArray).size) := by
  rw [ByteArray.size_append, ByteArray.size_append]
  show ¬ (9223372036854775807 < ex.size + 1 + wd.size + 1)
  omega
 have s4 : ¬ (9223372036854775807 < (((ex ++ (⟨#[32]⟩ : ByteArray)) ++ wd) ++ (⟨#[32]⟩ : ByteArray)).size + ey.size) := by
  rw [ByteArray.size_append, ByteArray.size_append, ByteArray.size_append]
  show ¬ (9223372036854775807 < ex.size + 1 + wd.size + 1 + ey.size)
  omega
 have r1 : ex.size + 1 ≤ 9223372036854775807 := by omega
 have r2 : ex.size + 1 + wd.size ≤ 9223372036854775807 := by omega
 have r3 : ex.size + 1 + wd.size + 1 ≤ 9223372036854775807 := by omega
 have r4 : ex.size + 1 + wd.size + 1 + ey.size ≤ 9223372036854775807 := by omega
 have t1 : ¬ (9223372036854775807 < ex.size + 1) := by omega
 have t2 : ¬ (9223372036854775807 < ex.size + 1 + wd.size) := by omega
 have t3 : ¬ (9223372036854775807 < ex.size + 1 + wd.size + 1) := by omega
 have t4 : ¬ (9223372036854775807 < ex.size + 1 + wd.size + 1 + ey.size) := by omega
 have g0 := heap_alloc_new w (.cells #[.string sx, .int .i64 xl, .bool xi] 55)
 have g1 := heap_alloc_new (w.alloc (.cells #[.string sx, .int .i64 xl, .bool xi] 55)) (.cells #[.string sy, .int .i64 yl, .bool yi] 55)
 have g2 := heap_alloc_new ((w.alloc (.cells #[.string sx, .int .i64 xl, .bool xi] 55)).alloc (.cells #[.string sy, .int .i64 yl, .bool yi] 55)) (.cells #[.string ⟨#[]⟩, .int .i64 0, .bool false] 55)
 simp only [World.size_alloc] at g1 g2
 have k0 : (((w.alloc (.cells #[.string sx, .int .i64 xl, .bool xi] 55)).alloc (.cells #[.string sy, .int .i64 yl, .bool yi] 55)).alloc (.cells #[.string ⟨#[]⟩, .int .i64 0, .bool false] 55)).heap[w.heap.size]? = some (.cells #[.string sx, .int .i64 xl, .bool xi] 55 (0, 0)) := by
  rw [Below.heap_alloc _ _ _ (by simp; omega), Below.heap_alloc _ _ _ (by simp)]
  exact g0
 have k1 : (((w.alloc (.cells #[.string sx, .int .i64 xl, .bool xi] 55)).alloc (.cells #[.string sy, .int .i64 yl, .bool yi] 55)).alloc (.cells #[.string ⟨#[]⟩, .int .i64 0, .bool false] 55)).heap[w.heap.size + 1]? = some (.cells #[.string sy, .int .i64 yl, .bool yi] 55 (0, 0)) := by
  rw [Below.heap_alloc _ _ _ (by simp)]
  exact g1
 have k3 : (((w.alloc (.cells #[.string sx, .int .i64 xl, .bool xi] 55)).alloc (.cells #[.string sy, .int .i64 yl, .bool yi] 55)).alloc (.cells #[.string ⟨#[]⟩, .int .i64 0, .bool false] 55)).heap[w.heap.size + 2]? = some (.cells #[.string ⟨#[]⟩, .int .i64 0, .bool false] 55 (0, 0)) := g2
 have HBEL := Lib.hid (show Below w.heap.size w (((w.alloc (.cells #[.string sx, .int .i64 xl, .bool xi] 55)).alloc (.cells #[.string sy, .int .i64 yl, .bool yi] 55)).alloc (.cells #[.string ⟨#[]⟩, .int .i64 0, .bool false] 55)) from (((Below.refl _ _).alloc (Nat.le_refl _) _).alloc (by simp) _).alloc (by simp; omega) _)
 have HS := Lib.hid (show ((((w.alloc (.cells #[.string sx, .int .i64 xl, .bool xi] 55)).alloc (.cells #[.string sy, .int .i64 yl, .bool yi] 55)).alloc (.cells #[.string ⟨#[]⟩, .int .i64 0, .bool false] 55)).drew.cell? ⟨w.heap.size, 0, none⟩ = some (.string sx) ∧ (((w.alloc (.cells #[.string sx, .int .i64 xl, .bool xi] 55)).alloc (.cells #[.string sy, .int .i64 yl, .bool yi] 55)).alloc (.cells #[.string ⟨#[]⟩, .int .i64 0, .bool false] 55)).drew.cell? ⟨w.heap.size, 1, none⟩ = some (.int .i64 xl) ∧ (((w.alloc (.cells #[.string sx, .int .i64 xl, .bool xi] 55)).alloc (.cells #[.string sy, .int .i64 yl, .bool yi] 55)).alloc (.cells #[.string ⟨#[]⟩, .int .i64 0, .bool false] 55)).drew.cell? ⟨w.heap.size, 2, none⟩ = some (.bool xi) ∧ (((w.alloc (.cells #[.string sx, .int .i64 xl, .bool xi] 55)).alloc (.cells #[.string sy, .int .i64 yl, .bool yi] 55)).alloc (.cells #[.string ⟨#[]⟩, .int .i64 0, .bool false] 55)).drew.cell? ⟨w.heap.size + 1, 0, none⟩ = some (.string sy) ∧ (((w.alloc (.cells #[.string sx, .int .i64 xl, .bool xi] 55)).alloc (.cells #[.string sy, .int .i64 yl, .bool yi] 55)).alloc (.cells #[.string ⟨#[]⟩, .int .i64 0, .bool false] 55)).drew.cell? ⟨w.heap.size + 1, 1, none⟩ = some (.int .i64 yl) ∧ (((w.alloc (.cells #[.string sx, .int .i64 xl, .bool xi] 55)).alloc (.cells #[.string sy, .int .i64 yl, .bool yi] 55)).alloc (.cells #[.string ⟨#[]⟩, .int .i64 0, .bool false] 55)).drew.cell? ⟨w.heap.size + 1, 2, none⟩ = some (.bool yi) ∧ Below (w.heap.size + 2) (((w.alloc (.cells #[.string sx, .int .i64 xl, .bool xi] 55)).alloc (.cells #[.string sy, .int .i64 yl, .bool yi] 55)).alloc (.cells #[.string ⟨#[]⟩, .int .i64 0, .bool false] 55)) (((w.alloc (.cells #[.string sx, .int .i64 xl, .bool xi] 55)).alloc (.cells #[.string sy, .int .i64 yl, .bool yi] 55)).alloc (.cells #[.string ⟨#[]⟩, .int .i64 0, .bool false] 55)).drew) ∧ w.heap.size + 2 < (((w.alloc (.cells #[.string sx, .int .i64 xl, .bool xi] 55)).alloc (.cells #[.string sy, .int .i64 yl, .bool yi] 55)).alloc (.cells #[.string ⟨#[]⟩, .int .i64 0, .bool false] 55)).heap.size from ⟨⟨(cell_of_row _ _ 0 _ _ _ k0).trans rfl, (cell_of_row _ _ 1 _ _ _ k0).trans rfl, (cell_of_row _ _ 2 _ _ _ k0).trans rfl, (cell_of_row _ _ 0 _ _ _ k1).trans rfl, (cell_of_row _ _ 1 _ _ _ k1).trans rfl, (cell_of_row _ _ 2 _ _ _ k1).trans rfl, (Below.refl _ _).drew⟩, by simp⟩)
 have HZB := Lib.hid (show Box3 (((w.alloc (.cells #[.string sx, .int .i64 xl, .bool xi] 55)).alloc (.cells #[.string sy, .int .i64 yl, .bool yi] 55)).alloc (.cells #[.string ⟨#[]⟩, .int .i64 0, .bool false] 55)).drew (w.heap.size + 2) (.string ⟨#[]⟩) (.int .i64 0) (.bool false) 55 from ⟨k3⟩)
 clear hpc hsx hsy hex hey g0 g1 g2 k0 k1 k3 q1 q2 esz hx hy
 rcases hc with ⟨rfl, hwdd, rfl, rfl, rfl⟩ | ⟨rfl, hwdd, rfl, rfl, rfl⟩ | ⟨rfl, hwdd, rfl, rfl, rfl⟩ | ⟨rfl, hwdd, rfl, rfl, rfl⟩ | ⟨rfl, hwdd, rfl, rfl, rfl⟩ | ⟨rfl, hwdd, rfl, rfl, rfl⟩ | ⟨rfl, hwdd, rfl, rfl, rfl⟩ | ⟨rfl, hwdd, rfl, rfl, rfl⟩ | ⟨rfl, hwdd, rfl, rfl, rfl⟩ | ⟨rfl, hwdd, rfl, rfl, rfl⟩ | ⟨rfl, hwdd, rfl, rfl, rfl⟩ | ⟨rfl, hwdd, rfl, rfl, rfl⟩
 all_goals
  go_enter Tryz.func44, Tryz.ntmps44
  go_wp2_with fail
  rw [hwdd]
  generalize hW0 : (((w.alloc (.cells #[.string sx, .int .i64 xl, .bool xi] 55)).alloc (.cells #[.string sy, .int .i64 yl, .bool yi] 55)).alloc (.cells #[.string ⟨#[]⟩, .int .i64 0, .bool false] 55)) = W0 at *
  have hsz : w.heap.size + 2 < W0.drew.heap.size := HS.out.2
  have hS0 := HS.out.1
  have hzb := HZB.out
  have z0 := hzb.c0
  have z1 := hzb.c1
  have z2 := hzb.c2
  have zf := hzb.free
  clear HS HZB hW0
  go_region_held3 (fun w' => w'.cell? ⟨w.heap.size, 0, none⟩ = some (.string sx) ∧ w'.cell? ⟨w.heap.size, 1, none⟩ = some (.int .i64 xl) ∧ w'.cell? ⟨w.heap.size, 2, none⟩ = some (.bool xi) ∧ w'.cell? ⟨w.heap.size + 1, 0, none⟩ = some (.string sy) ∧ w'.cell? ⟨w.heap.size + 1, 1, none⟩ = some (.int .i64 yl) ∧ w'.cell? ⟨w.heap.size + 1, 2, none⟩ = some (.bool yi) ∧ Below (w.heap.size + 2) W0 w')
   (first | with_reducible exact hS0 | exact keepRb (by assumption) (by assumption) hcall | exact keepRbSt (by assumption))
   (first
    | (go_at_call_of 43 (Value.agg #[Value.string sx, Value.int IntKind.i64 xl, Value.bool xi]); refine (CX.out _).mono ?_; rintro e w' ⟨rfl, hcall⟩; have hsz := Nat.lt_of_lt_of_le hsz hcall.size; have hzb := Box3.keep (by assumption) hcall; have z0 := hzb.c0; have z1 := hzb.c1; have z2 := hzb.c2; have zf := hzb.free)
    | (go_at_call_of 43 (Value.agg #[Value.string sy, Value.int IntKind.i64 yl, Value.bool yi]); refine (CY.out _).mono ?_; rintro e w' ⟨rfl, hcall⟩; have hsz := Nat.lt_of_lt_of_le hsz hcall.size; have hzb := Box3.keep (by assumption) hcall; have z0 := hzb.c0; have z1 := hzb.c1; have z2 := hzb.c2; have zf := hzb.free))
  all_goals
   obtain ⟨_, _, _, _, _, _, hB⟩ := ‹_ ∧ _ ∧ _ ∧ _ ∧ _ ∧ _ ∧ Below _ _ _›
   have HF := Lib.hid (HBEL.out.trans (hB.mono (by omega)))
   have hld := fun y' => box_pr (Box3.store (x' := .string ((((ex ++ ⟨#[32]⟩) ++ wd) ++ ⟨#[32]⟩) ++ ey)) (y' := y') (z' := .bool false) hzb).block
   clear hB
   go_wp2_with fail
   exact bodyPost_ret (v := .agg #[.string ((((ex ++ ⟨#[32]⟩) ++ wd) ++ ⟨#[32]⟩) ++ ey), .int .i64 _, .bool false]) (by simp [results, Tryz.results44, Act.put, asAddr, hld]) rfl ⟨rfl, HF.out⟩
theorem rbinary_any (op : Int) (hop : 4 ≤ op ∧ op ≤ 15) (x y : Pc) (w : World) (hx : x.tx.length ≤ 1000000) (hy : y.tx.length ≤ 1000000) :
  Calls Tryz.prog 44 #[.int .i64 op, pcV x, pcV y] w fun e w' => e = .returned (pcV ⟨encL x (binP op).2.2.1 ++ 32 :: (bts (binP op).1 ++ 32 :: encL y (binP op).2.2.2), (binP op).2.1, false⟩) ∧ Below w.heap.size w w' := by
 have hc : op = 4 ∨ op = 5 ∨ op = 6 ∨ op = 7 ∨ op = 8 ∨ op = 9 ∨ op = 10 ∨ op = 11 ∨ op = 12 ∨ op = 13 ∨ op = 14 ∨ op = 15 := by omega
 rcases hc with rfl | rfl | rfl | rfl | rfl | rfl | rfl | rfl | rfl | rfl | rfl | rfl
 ·exact rbinL_any 4 ⟨#[43]⟩ 5 5 6 (.inl ⟨rfl, rfl, rfl, rfl, rfl⟩) x y w hx hy
 ·exact rbinL_any 5 ⟨#[45]⟩ 5 5 6 (.inr (.inl ⟨rfl, rfl, rfl, rfl, rfl⟩)) x y w hx hy
 ·exact rbinL_any 6 ⟨#[42]⟩ 6 6 7 (.inr (.inr (.inl ⟨rfl, rfl, rfl, rfl, rfl⟩))) x y w hx hy
 ·exact rbinL_any 7 ⟨#[47]⟩ 6 6 7 (.inr (.inr (.inr (.inl ⟨rfl, rfl, rfl, rfl, rfl⟩)))) x y w hx hy
 ·exact rbinL_any 8 ⟨#[37]⟩ 6 6 7 (.inr (.inr (.inr (.inr (.inl ⟨rfl, rfl, rfl, rfl, rfl⟩))))) x y w hx hy
 ·exact rbinL_any 9 ⟨#[43, 43]⟩ 4 4 5 (.inr (.inr (.inr (.inr (.inr (.inl ⟨rfl, rfl, rfl, rfl, rfl⟩)))))) x y w hx hy
 ·exact rbinL_any 10 ⟨#[61]⟩ 3 4 4 (.inr (.inr (.inr (.inr (.inr (.inr (.inl ⟨rfl, rfl, rfl, rfl, rfl⟩))))))) x y w hx hy
 ·exact rbinL_any 11 ⟨#[33, 61]⟩ 3 4 4 (.inr (.inr (.inr (.inr (.inr (.inr (.inr (.inl ⟨rfl, rfl, rfl, rfl, rfl⟩)))))))) x y w hx hy
 ·exact rbinL_any 12 ⟨#[60]⟩ 3 4 4 (.inr (.inr (.inr (.inr (.inr (.inr (.inr (.inr (.inl ⟨rfl, rfl, rfl, rfl, rfl⟩))))))))) x y w hx hy
 ·exact rbinL_any 13 ⟨#[60, 61]⟩ 3 4 4 (.inr (.inr (.inr (.inr (.inr (.inr (.inr (.inr (.inr (.inl ⟨rfl, rfl, rfl, rfl, rfl⟩)))))))))) x y w hx hy
 ·exact rbinL_any 14 ⟨#[97, 110, 100]⟩ 1 1 2 (.inr (.inr (.inr (.inr (.inr (.inr (.inr (.inr (.inr (.inr (.inl ⟨rfl, rfl, rfl, rfl, rfl⟩))))))))))) x y w hx hy
 ·exact rbinL_any 15 ⟨#[111, 114]⟩ 0 0 1 (.inr (.inr (.inr (.inr (.inr (.inr (.inr (.inr (.inr (.inr (.inr (⟨rfl, rfl, rfl, rfl, rfl⟩)))))))))))) x y w hx hy
end Go.Proofs.YtmdpjahhhfajaaaGreatDoor
