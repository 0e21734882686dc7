/-
  The program: writeInfix.
-/
import Derived.Test.YtmdpjahhhfajaaaGreatDoorJC29
import Derived.Deep.RegionHeld3
set_option linter.unusedVariables false
set_option linter.unusedSimpArgs false
set_option maxRecDepth 100000
namespace Go.Proofs.YtmdpjahhhfajaaaGreatDoor
open Go.RowKit Go.Joins Wh
theorem Box3.keep {w w' : World} {b : Nat} {x y z : Value} {t : TypeId} (h : Box3 w b x y z t) (hb : Below w.heap.size w w') : Box3 w' b x y z t := ⟨by rw [hb.block b h.lt]; exact h.block⟩
theorem Box3.store {w : World} {b : Nat} {x y z x' y' z' : Value} {t : TypeId} (h : Box3 w b x y z t) :
  Box3 (((w.setCell ⟨b, 0, none⟩ x').setCell ⟨b, 1, none⟩ y').setCell ⟨b, 2, none⟩ z') b x' y' z' t := by
 refine ⟨?_⟩
 have hb := h.block
 simp only [World.setCell, Array.getElem?_modify, if_pos]
 rw [hb]
 rfl
theorem keepInf {w W0 w1 w2 : World} {wd sx sy : ByteArray} {lv xl yl : Int} {xi yi : Bool} (h0 : w.heap.size + 3 < w1.heap.size) (h : w1.cell? ⟨w.heap.size, 0, none⟩ = some (.string wd) ∧ w1.cell? ⟨w.heap.size, 1, none⟩ = some (.int .i64 lv) ∧ w1.cell? ⟨w.heap.size + 1, 0, none⟩ = some (.string sx) ∧ w1.cell? ⟨w.heap.size + 1, 1, none⟩ = some (.int .i64 xl) ∧ w1.cell? ⟨w.heap.size + 1, 2, none⟩ = some (.bool xi) ∧ w1.cell? ⟨w.heap.size + 2, 0, none⟩ = some (.string sy) ∧ w1.cell? ⟨w.heap.size + 2, 1, none⟩ = some (.int .i64 yl) ∧ w1.cell? ⟨w.heap.size + 2, 2, none⟩ = some (.bool yi) ∧ Below (w.heap.size + 3) W0 w1) (hb : Below w1.heap.size w1 w2) :
  w2.cell? ⟨w.heap.size, 0, none⟩ = some (.string wd) ∧ w2.cell? ⟨w.heap.size, 1, none⟩ = some (.int .i64 lv) ∧ w2.cell? ⟨w.heap.size + 1, 0, none⟩ = some (.string sx) ∧ w2.cell? ⟨w.heap.size + 1, 1, none⟩ = some (.int .i64 xl) ∧ w2.cell? ⟨w.heap.size + 1, 2, none⟩ = some (.bool xi) ∧ w2.cell? ⟨w.heap.size + 2, 0, none⟩ = some (.string sy) ∧ w2.cell? ⟨w.heap.size + 2, 1, none⟩ = some (.int .i64 yl) ∧ w2.cell? ⟨w.heap.size + 2, 2, none⟩ = some (.bool yi) ∧ Below (w.heap.size + 3) W0 w2 := by
 obtain ⟨a0, a1, b0, b1, b2, c0, c1, c2, hB⟩ := h
 have e : ∀ B o, B < w1.heap.size → w2.cell? ⟨B, o, none⟩ = w1.cell? ⟨B, o, none⟩ := fun B o h => hb.cell (p := ⟨B, o, none⟩) h
 exact ⟨(e _ _ (by omega)).trans a0, (e _ _ (by omega)).trans a1, (e _ _ (by omega)).trans b0, (e _ _ (by omega)).trans b1, (e _ _ (by omega)).trans b2, (e _ _ (by omega)).trans c0, (e _ _ (by omega)).trans c1, (e _ _ (by omega)).trans c2, hB.trans (hb.mono (Nat.le_of_lt h0))⟩
theorem keepInfSt {w W0 w1 : World} {wd sx sy : ByteArray} {lv xl yl : Int} {xi yi : Bool} {u0 u1 u2 : Value} (h0 : w.heap.size + 3 < w1.heap.size) (h : w1.cell? ⟨w.heap.size, 0, none⟩ = some (.string wd) ∧ w1.cell? ⟨w.heap.size, 1, none⟩ = some (.int .i64 lv) ∧ w1.cell? ⟨w.heap.size + 1, 0, none⟩ = some (.string sx) ∧ w1.cell? ⟨w.heap.size + 1, 1, none⟩ = some (.int .i64 xl) ∧ w1.cell? ⟨w.heap.size + 1, 2, none⟩ = some (.bool xi) ∧ w1.cell? ⟨w.heap.size + 2, 0, none⟩ = some (.string sy) ∧ w1.cell? ⟨w.heap.size + 2, 1, none⟩ = some (.int .i64 yl) ∧ w1.cell? ⟨w.heap.size + 2, 2, none⟩ = some (.bool yi) ∧ Below (w.heap.size + 3) W0 w1) :
  (((w1.setCell ⟨w.heap.size + 3, 0, none⟩ u0).setCell ⟨w.heap.size + 3, 1, none⟩ u1).setCell ⟨w.heap.size + 3, 2, none⟩ u2).cell? ⟨w.heap.size, 0, none⟩ = some (.string wd) ∧ (((w1.setCell ⟨w.heap.size + 3, 0, none⟩ u0).setCell ⟨w.heap.size + 3, 1, none⟩ u1).setCell ⟨w.heap.size + 3, 2, none⟩ u2).cell? ⟨w.heap.size, 1, none⟩ = some (.int .i64 lv) ∧ (((w1.setCell ⟨w.heap.size + 3, 0, none⟩ u0).setCell ⟨w.heap.size + 3, 1, none⟩ u1).setCell ⟨w.heap.size + 3, 2, none⟩ u2).cell? ⟨w.heap.size + 1, 0, none⟩ = some (.string sx) ∧ (((w1.setCell ⟨w.heap.size + 3, 0, none⟩ u0).setCell ⟨w.heap.size + 3, 1, none⟩ u1).setCell ⟨w.heap.size + 3, 2, none⟩ u2).cell? ⟨w.heap.size + 1, 1, none⟩ = some (.int .i64 xl) ∧ (((w1.setCell ⟨w.heap.size + 3, 0, none⟩ u0).setCell ⟨w.heap.size + 3, 1, none⟩ u1).setCell ⟨w.heap.size + 3, 2, none⟩ u2).cell? ⟨w.heap.size + 1, 2, none⟩ = some (.bool xi) ∧ (((w1.setCell ⟨w.heap.size + 3, 0, none⟩ u0).setCell ⟨w.heap.size + 3, 1, none⟩ u1).setCell ⟨w.heap.size + 3, 2, none⟩ u2).cell? ⟨w.heap.size + 2, 0, none⟩ = some (.string sy) ∧ (((w1.setCell ⟨w.heap.size + 3, 0, none⟩ u0).setCell ⟨w.heap.size + 3, 1, none⟩ u1).setCell ⟨w.heap.size + 3, 2, none⟩ u2).cell? ⟨w.heap.size + 2, 1, none⟩ = some (.int .i64 yl) ∧ (((w1.setCell ⟨w.heap.size + 3, 0, none⟩ u0).setCell ⟨w.heap.size + 3, 1, none⟩ u1).setCell ⟨w.heap.size + 3, 2, none⟩ u2).cell? ⟨w.heap.size + 2, 2, none⟩ = some (.bool yi) ∧ Below (w.heap.size + 3) W0 (((w1.setCell ⟨w.heap.size + 3, 0, none⟩ u0).setCell ⟨w.heap.size + 3, 1, none⟩ u1).setCell ⟨w.heap.size + 3, 2, none⟩ u2) := by
 obtain ⟨a0, a1, b0, b1, b2, c0, c1, c2, hB⟩ := h
 have hb : Below (w.heap.size + 3) w1 (((w1.setCell ⟨w.heap.size + 3, 0, none⟩ u0).setCell ⟨w.heap.size + 3, 1, none⟩ u1).setCell ⟨w.heap.size + 3, 2, none⟩ u2) := (((Below.refl (w.heap.size + 3) w1).setCell (p := ⟨w.heap.size + 3, 0, none⟩) (Nat.le_refl _) u0).setCell (p := ⟨w.heap.size + 3, 1, none⟩) (Nat.le_refl _) u1).setCell (p := ⟨w.heap.size + 3, 2, none⟩) (Nat.le_refl _) u2
 have e : ∀ B o, B < w.heap.size + 3 → (((w1.setCell ⟨w.heap.size + 3, 0, none⟩ u0).setCell ⟨w.heap.size + 3, 1, none⟩ u1).setCell ⟨w.heap.size + 3, 2, none⟩ u2).cell? ⟨B, o, none⟩ = w1.cell? ⟨B, o, none⟩ := fun B o h => hb.cell (p := ⟨B, o, none⟩) h
 exact ⟨(e _ _ (by omega)).trans a0, (e _ _ (by omega)).trans a1, (e _ _ (by omega)).trans b0, (e _ _ (by omega)).trans b1, (e _ _ (by omega)).trans b2, (e _ _ (by omega)).trans c0, (e _ _ (by omega)).trans c1, (e _ _ (by omega)).trans c2, hB.trans hb⟩
set_option maxHeartbeats 8000000 in
theorem pwinf_any (wd : ByteArray) (lv op : Int) (sw : Bool) (x y : Pc) (w : World) (hx : x.tx.length ≤ 1000000) (hy : y.tx.length ≤ 1000000) (hwd : wd.size ≤ 3) (hlv : 0 ≤ lv ∧ lv ≤ 8) :
  Calls Tryz.prog 71 #[.agg #[.string wd, .int .i64 lv, .int .i64 op, .bool sw], pcV x, pcV y] w fun e w' => e = .returned (pcV ⟨encL x (if lv = 3 then 4 else lv) ++ 32 :: (bts wd ++ 32 :: encL y (lv + 1)), lv, false⟩) ∧ Below w.heap.size w w' := by
 have esz : ∀ (z : Pc) l, z.tx.length ≤ 1000000 → (encS ⟨z.tx.toArray⟩ z.lv l).size ≤ 1000002 := fun z l h => by
  rw [encS_bts, size_mk]
  have := encL_len z l
  omega
 obtain ⟨l1, hl1⟩ : ∃ l1, (if lv = 3 then 4 else lv) = l1 := ⟨_, rfl⟩
 rw [hl1]
 have hpc : pcV ⟨encL x l1 ++ 32 :: (bts wd ++ 32 :: encL y (lv + 1)), lv, false⟩ = .agg #[.string ((((encS ⟨x.tx.toArray⟩ x.lv l1 ++ ⟨#[32]⟩) ++ wd) ++ ⟨#[32]⟩) ++ encS ⟨y.tx.toArray⟩ y.lv (lv + 1)), .int .i64 lv, .bool false] := by
  have : ((((encS ⟨x.tx.toArray⟩ x.lv l1 ++ ⟨#[32]⟩) ++ wd) ++ ⟨#[32]⟩) ++ encS ⟨y.tx.toArray⟩ y.lv (lv + 1) : ByteArray) = ⟨(encL x l1 ++ 32 :: (bts wd ++ 32 :: encL y (lv + 1))).toArray⟩ := by
   apply ext_bts
   rw [encS_bts, encS_bts, bts_app, bts_app, bts_app, bts_app]
   show encL x l1 ++ [32] ++ bts wd ++ [32] ++ encL y (lv + 1) = encL x l1 ++ 32 :: (bts wd ++ 32 :: encL y (lv + 1))
   simp
  rw [this]
  rfl
 rw [hpc]
 have q1 := esz x l1 hx
 have q2 := esz y (lv + 1) hy
 have CX := Lib.hid (fun W => penclose_any ⟨x.tx.toArray⟩ x.lv x.ig l1 W (by rw [size_mk]; exact hx))
 have CY := Lib.hid (fun W => penclose_any ⟨y.tx.toArray⟩ y.lv y.ig (lv + 1) W (by rw [size_mk]; exact hy))
 unfold pcV
 obtain ⟨xt, xl, xi⟩ := x
 obtain ⟨yt, yl, yi⟩ := y
 simp only at CX CY q1 q2 ⊢
 obtain ⟨sx, hsx⟩ : ∃ s, (⟨xt.toArray⟩ : ByteArray) = s := ⟨_, rfl⟩
 obtain ⟨sy, hsy⟩ : ∃ s, (⟨yt.toArray⟩ : ByteArray) = s := ⟨_, rfl⟩
 rw [hsx] at CX q1 ⊢
 rw [hsy] at CY q2 ⊢
 obtain ⟨ex, hex⟩ : ∃ e, encS sx xl l1 = e := ⟨_, rfl⟩
 obtain ⟨ey, hey⟩ : ∃ e, encS sy yl (lv + 1) = e := ⟨_, rfl⟩
 rw [hex] at CX q1 ⊢
 rw [hey] at CY q2 ⊢
 have s1 : ¬ (9223372036854775807 < ex.size + (⟨#[32]⟩ : ByteArray).size) := by show ¬ (9223372036854775807 < ex.size + 1); omega
 have s2 : ¬ (9223372036854775807 < (ex ++ (⟨#[32]⟩ : ByteArray)).size + wd.size) := by
  rw [ByteArray.size_append]
  show ¬ (9223372036854775807 < ex.size + 1 + wd.size)
  omega
 have s3 : ¬ (9223372036854775807 < ((ex ++ (⟨#[32]⟩ : ByteArray)) ++ wd).size + (⟨#[32]⟩ : ByteArray).size) := by
  rw [ByteArray.size_append, ByteArray.size_append]
  show ¬ (9223372036854775807 < ex.size + 1 + wd.size + 1)
  omega
 have s4 : ¬ (9223372036854775807 < (((ex ++ (⟨#[32]⟩ : ByteArray)) ++ wd) ++ (⟨#[32]⟩ : ByteArray)).size + ey.size) := by
  rw [ByteArray.size_append, ByteArray.size_append, ByteArray.size_append]
  show ¬ (9223372036854775807 < ex.size + 1 + wd.size + 1 + ey.size)
  omega
 have r1 : ex.size + 1 ≤ 9223372036854775807 := by omega
 have r2 : ex.size + 1 + wd.size ≤ 9223372036854775807 := by omega
 have r3 : ex.size + 1 + wd.size + 1 ≤ 9223372036854775807 := by omega
 have r4 : ex.size + 1 + wd.size + 1 + ey.size ≤ 9223372036854775807 := by omega
 have t1 : ¬ (9223372036854775807 < ex.size + 1) := by omega
 have t2 : ¬ (9223372036854775807 < ex.size + 1 + wd.size) := by omega
 have t3 : ¬ (9223372036854775807 < ex.size + 1 + wd.size + 1) := by omega
 have t4 : ¬ (9223372036854775807 < ex.size + 1 + wd.size + 1 + ey.size) := by omega
 have g0 := heap_alloc_new w (.cells #[.string wd, .int .i64 lv, .int .i64 op, .bool sw] 109)
 have g1 := heap_alloc_new (w.alloc (.cells #[.string wd, .int .i64 lv, .int .i64 op, .bool sw] 109)) (.cells #[.string sx, .int .i64 xl, .bool xi] 76)
 have g2 := heap_alloc_new ((w.alloc (.cells #[.string wd, .int .i64 lv, .int .i64 op, .bool sw] 109)).alloc (.cells #[.string sx, .int .i64 xl, .bool xi] 76)) (.cells #[.string sy, .int .i64 yl, .bool yi] 76)
 have g3 := heap_alloc_new (((w.alloc (.cells #[.string wd, .int .i64 lv, .int .i64 op, .bool sw] 109)).alloc (.cells #[.string sx, .int .i64 xl, .bool xi] 76)).alloc (.cells #[.string sy, .int .i64 yl, .bool yi] 76)) (.cells #[.string ⟨#[]⟩, .int .i64 0, .bool false] 76)
 simp only [World.size_alloc] at g1 g2 g3
 have k0 : ((((w.alloc (.cells #[.string wd, .int .i64 lv, .int .i64 op, .bool sw] 109)).alloc (.cells #[.string sx, .int .i64 xl, .bool xi] 76)).alloc (.cells #[.string sy, .int .i64 yl, .bool yi] 76)).alloc (.cells #[.string ⟨#[]⟩, .int .i64 0, .bool false] 76)).heap[w.heap.size]? = some (.cells #[.string wd, .int .i64 lv, .int .i64 op, .bool sw] 109 (0, 0)) := by
  rw [Below.heap_alloc _ _ _ (by simp; omega), Below.heap_alloc _ _ _ (by simp; omega), Below.heap_alloc _ _ _ (by simp)]
  exact g0
 have k1 : ((((w.alloc (.cells #[.string wd, .int .i64 lv, .int .i64 op, .bool sw] 109)).alloc (.cells #[.string sx, .int .i64 xl, .bool xi] 76)).alloc (.cells #[.string sy, .int .i64 yl, .bool yi] 76)).alloc (.cells #[.string ⟨#[]⟩, .int .i64 0, .bool false] 76)).heap[w.heap.size + 1]? = some (.cells #[.string sx, .int .i64 xl, .bool xi] 76 (0, 0)) := by
  rw [Below.heap_alloc _ _ _ (by simp), Below.heap_alloc _ _ _ (by simp)]
  exact g1
 have k2 : ((((w.alloc (.cells #[.string wd, .int .i64 lv, .int .i64 op, .bool sw] 109)).alloc (.cells #[.string sx, .int .i64 xl, .bool xi] 76)).alloc (.cells #[.string sy, .int .i64 yl, .bool yi] 76)).alloc (.cells #[.string ⟨#[]⟩, .int .i64 0, .bool false] 76)).heap[w.heap.size + 2]? = some (.cells #[.string sy, .int .i64 yl, .bool yi] 76 (0, 0)) := by
  rw [Below.heap_alloc _ _ _ (by simp)]
  exact g2
 have k3 : ((((w.alloc (.cells #[.string wd, .int .i64 lv, .int .i64 op, .bool sw] 109)).alloc (.cells #[.string sx, .int .i64 xl, .bool xi] 76)).alloc (.cells #[.string sy, .int .i64 yl, .bool yi] 76)).alloc (.cells #[.string ⟨#[]⟩, .int .i64 0, .bool false] 76)).heap[w.heap.size + 3]? = some (.cells #[.string ⟨#[]⟩, .int .i64 0, .bool false] 76 (0, 0)) := g3
 have hbel : Below w.heap.size w ((((w.alloc (.cells #[.string wd, .int .i64 lv, .int .i64 op, .bool sw] 109)).alloc (.cells #[.string sx, .int .i64 xl, .bool xi] 76)).alloc (.cells #[.string sy, .int .i64 yl, .bool yi] 76)).alloc (.cells #[.string ⟨#[]⟩, .int .i64 0, .bool false] 76)) := ((((Below.refl _ _).alloc (Nat.le_refl _) _).alloc (by simp) _).alloc (by simp; omega) _).alloc (by simp; omega) _
 have hsz : w.heap.size + 3 < ((((w.alloc (.cells #[.string wd, .int .i64 lv, .int .i64 op, .bool sw] 109)).alloc (.cells #[.string sx, .int .i64 xl, .bool xi] 76)).alloc (.cells #[.string sy, .int .i64 yl, .bool yi] 76)).alloc (.cells #[.string ⟨#[]⟩, .int .i64 0, .bool false] 76)).heap.size := by simp
 have hS : ((((w.alloc (.cells #[.string wd, .int .i64 lv, .int .i64 op, .bool sw] 109)).alloc (.cells #[.string sx, .int .i64 xl, .bool xi] 76)).alloc (.cells #[.string sy, .int .i64 yl, .bool yi] 76)).alloc (.cells #[.string ⟨#[]⟩, .int .i64 0, .bool false] 76)).drew.cell? ⟨w.heap.size, 0, none⟩ = some (.string wd) ∧ ((((w.alloc (.cells #[.string wd, .int .i64 lv, .int .i64 op, .bool sw] 109)).alloc (.cells #[.string sx, .int .i64 xl, .bool xi] 76)).alloc (.cells #[.string sy, .int .i64 yl, .bool yi] 76)).alloc (.cells #[.string ⟨#[]⟩, .int .i64 0, .bool false] 76)).drew.cell? ⟨w.heap.size, 1, none⟩ = some (.int .i64 lv) ∧ ((((w.alloc (.cells #[.string wd, .int .i64 lv, .int .i64 op, .bool sw] 109)).alloc (.cells #[.string sx, .int .i64 xl, .bool xi] 76)).alloc (.cells #[.string sy, .int .i64 yl, .bool yi] 76)).alloc (.cells #[.string ⟨#[]⟩, .int .i64 0, .bool false] 76)).drew.cell? ⟨w.heap.size + 1, 0, none⟩ = some (.string sx) ∧ ((((w.alloc (.cells #[.string wd, .int .i64 lv, .int .i64 op, .bool sw] 109)).alloc (.cells #[.string sx, .int .i64 xl, .bool xi] 76)).alloc (.cells #[.string sy, .int .i64 yl, .bool yi] 76)).alloc (.cells #[.string ⟨#[]⟩, .int .i64 0, .bool false] 76)).drew.cell? ⟨w.heap.size + 1, 1, none⟩ = some (.int .i64 xl) ∧ ((((w.alloc (.cells #[.string wd, .int .i64 lv, .int .i64 op, .bool sw] 109)).alloc (.cells #[.string sx, .int .i64 xl, .bool xi] 76)).alloc (.cells #[.string sy, .int .i64 yl, .bool yi] 76)).alloc (.cells #[.string ⟨#[]⟩, .int .i64 0, .bool false] 76)).drew.cell? ⟨w.heap.size + 1, 2, none⟩ = some (.bool xi) ∧ ((((w.alloc (.cells #[.string wd, .int .i64 lv, .int .i64 op, .bool sw] 109)).alloc (.cells #[.string sx, .int .i64 xl, .bool xi] 76)).alloc (.cells #[.string sy, .int .i64 yl, .bool yi] 76)).alloc (.cells #[.string ⟨#[]⟩, .int .i64 0, .bool false] 76)).drew.cell? ⟨w.heap.size + 2, 0, none⟩ = some (.string sy) ∧ ((((w.alloc (.cells #[.string wd, .int .i64 lv, .int .i64 op, .bool sw] 109)).alloc (.cells #[.string sx, .int .i64 xl, .bool xi] 76)).alloc (.cells #[.string sy, .int .i64 yl, .bool yi] 76)).alloc (.cells #[.string ⟨#[]⟩, .int .i64 0, .bool false] 76)).drew.cell? ⟨w.heap.size + 2, 1, none⟩ = some (.int .i64 yl) ∧ ((((w.alloc (.cells #[.string wd, .int .i64 lv, .int .i64 op, .bool sw] 109)).alloc (.cells #[.string sx, .int .i64 xl, .bool xi] 76)).alloc (.cells #[.string sy, .int .i64 yl, .bool yi] 76)).alloc (.cells #[.string ⟨#[]⟩, .int .i64 0, .bool false] 76)).drew.cell? ⟨w.heap.size + 2, 2, none⟩ = some (.bool yi) ∧ Below (w.heap.size + 3) ((((w.alloc (.cells #[.string wd, .int .i64 lv, .int .i64 op, .bool sw] 109)).alloc (.cells #[.string sx, .int .i64 xl, .bool xi] 76)).alloc (.cells #[.string sy, .int .i64 yl, .bool yi] 76)).alloc (.cells #[.string ⟨#[]⟩, .int .i64 0, .bool false] 76)) ((((w.alloc (.cells #[.string wd, .int .i64 lv, .int .i64 op, .bool sw] 109)).alloc (.cells #[.string sx, .int .i64 xl, .bool xi] 76)).alloc (.cells #[.string sy, .int .i64 yl, .bool yi] 76)).alloc (.cells #[.string ⟨#[]⟩, .int .i64 0, .bool false] 76)).drew :=
  ⟨(cell_of_row _ _ 0 _ _ _ k0).trans rfl, (cell_of_row _ _ 1 _ _ _ k0).trans rfl, (cell_of_row _ _ 0 _ _ _ k1).trans rfl, (cell_of_row _ _ 1 _ _ _ k1).trans rfl, (cell_of_row _ _ 2 _ _ _ k1).trans rfl, (cell_of_row _ _ 0 _ _ _ k2).trans rfl, (cell_of_row _ _ 1 _ _ _ k2).trans rfl, (cell_of_row _ _ 2 _ _ _ k2).trans rfl, (Below.refl _ _).drew⟩
 have hzb : Box3 ((((w.alloc (.cells #[.string wd, .int .i64 lv, .int .i64 op, .bool sw] 109)).alloc (.cells #[.string sx, .int .i64 xl, .bool xi] 76)).alloc (.cells #[.string sy, .int .i64 yl, .bool yi] 76)).alloc (.cells #[.string ⟨#[]⟩, .int .i64 0, .bool false] 76)).drew (w.heap.size + 3) (.string ⟨#[]⟩) (.int .i64 0) (.bool false) 76 := ⟨k3⟩
 have HBEL := Lib.hid hbel
 clear hpc hsx hsy hex hey g0 g1 g2 g3 k0 k1 k2 k3 hbel q1 q2 esz hx hy hwd
 have HS := Lib.hid (And.intro hS hsz)
 have HZB := Lib.hid hzb
 clear hS hzb hsz
 by_cases h3 : lv = 3
 ·subst h3
  rw [if_pos rfl] at hl1
  subst hl1
  go_enter Tryz.func71, Tryz.ntmps71
  go_wp2_with fail
  generalize hW0 : ((((w.alloc (.cells #[.string wd, .int .i64 3, .int .i64 op, .bool sw] 109)).alloc (.cells #[.string sx, .int .i64 xl, .bool xi] 76)).alloc (.cells #[.string sy, .int .i64 yl, .bool yi] 76)).alloc (.cells #[.string ⟨#[]⟩, .int .i64 0, .bool false] 76)) = W0 at *
  have hsz : w.heap.size + 3 < W0.drew.heap.size := HS.out.2
  have hS0 := HS.out.1
  have hzb := HZB.out
  have z0 := hzb.c0
  have z1 := hzb.c1
  have z2 := hzb.c2
  have zf := hzb.free
  clear HS HZB hW0
  go_region_held3 (fun w' => w'.cell? ⟨w.heap.size, 0, none⟩ = some (.string wd) ∧ w'.cell? ⟨w.heap.size, 1, none⟩ = some (.int .i64 3) ∧ w'.cell? ⟨w.heap.size + 1, 0, none⟩ = some (.string sx) ∧ w'.cell? ⟨w.heap.size + 1, 1, none⟩ = some (.int .i64 xl) ∧ w'.cell? ⟨w.heap.size + 1, 2, none⟩ = some (.bool xi) ∧ w'.cell? ⟨w.heap.size + 2, 0, none⟩ = some (.string sy) ∧ w'.cell? ⟨w.heap.size + 2, 1, none⟩ = some (.int .i64 yl) ∧ w'.cell? ⟨w.heap.size + 2, 2, none⟩ = some (.bool yi) ∧ Below (w.heap.size + 3) W0 w')
   (first | with_reducible exact hS0 | exact keepInf (by assumption) (by assumption) hcall | exact keepInfSt (by assumption) (by assumption))
   (first
    | (go_at_call_of 68 (Value.agg #[Value.string sx, Value.int IntKind.i64 xl, Value.bool xi]); refine (CX.out _).mono ?_; rintro e w' ⟨rfl, hcall⟩; have hsz := Nat.lt_of_lt_of_le hsz hcall.size; have hzb := Box3.keep (by assumption) hcall; have z0 := hzb.c0; have z1 := hzb.c1; have z2 := hzb.c2; have zf := hzb.free)
    | (go_at_call_of 68 (Value.agg #[Value.string sy, Value.int IntKind.i64 yl, Value.bool yi]); refine (CY.out _).mono ?_; rintro e w' ⟨rfl, hcall⟩; have hsz := Nat.lt_of_lt_of_le hsz hcall.size; have hzb := Box3.keep (by assumption) hcall; have z0 := hzb.c0; have z1 := hzb.c1; have z2 := hzb.c2; have zf := hzb.free))
  all_goals
   obtain ⟨_, _, _, _, _, _, _, _, hB⟩ := ‹_ ∧ _›
   have HF := Lib.hid (HBEL.out.trans (hB.mono (by omega)))
   have hld := box_pc (Box3.store (x' := .string ((((ex ++ ⟨#[32]⟩) ++ wd) ++ ⟨#[32]⟩) ++ ey)) (y' := .int .i64 3) (z' := .bool false) hzb).block
   clear hB
   go_wp2_with fail
   exact bodyPost_ret (v := .agg #[.string ((((ex ++ ⟨#[32]⟩) ++ wd) ++ ⟨#[32]⟩) ++ ey), .int .i64 3, .bool false]) (by simp [results, Tryz.results71, Act.put, asAddr, hld]) rfl ⟨rfl, HF.out⟩
 ·rw [if_neg h3] at hl1
  subst hl1
  have h3b : (lv == 3) = false := by simpa using h3
  obtain ⟨hlv1, hlv2⟩ := hlv
  have hwr : IntKind.i64.wrap (lv + 1) = lv + 1 := by rw [IntKind.wrap_i64]; omega
  go_enter Tryz.func71, Tryz.ntmps71
  go_wp2_with fail
  generalize hW0 : ((((w.alloc (.cells #[.string wd, .int .i64 lv, .int .i64 op, .bool sw] 109)).alloc (.cells #[.string sx, .int .i64 xl, .bool xi] 76)).alloc (.cells #[.string sy, .int .i64 yl, .bool yi] 76)).alloc (.cells #[.string ⟨#[]⟩, .int .i64 0, .bool false] 76)) = W0 at *
  have hsz : w.heap.size + 3 < W0.drew.heap.size := HS.out.2
  have hS0 := HS.out.1
  have hzb := HZB.out
  have z0 := hzb.c0
  have z1 := hzb.c1
  have z2 := hzb.c2
  have zf := hzb.free
  clear HS HZB hW0
  go_region_held3 (fun w' => w'.cell? ⟨w.heap.size, 0, none⟩ = some (.string wd) ∧ w'.cell? ⟨w.heap.size, 1, none⟩ = some (.int .i64 lv) ∧ w'.cell? ⟨w.heap.size + 1, 0, none⟩ = some (.string sx) ∧ w'.cell? ⟨w.heap.size + 1, 1, none⟩ = some (.int .i64 xl) ∧ w'.cell? ⟨w.heap.size + 1, 2, none⟩ = some (.bool xi) ∧ w'.cell? ⟨w.heap.size + 2, 0, none⟩ = some (.string sy) ∧ w'.cell? ⟨w.heap.size + 2, 1, none⟩ = some (.int .i64 yl) ∧ w'.cell? ⟨w.heap.size + 2, 2, none⟩ = some (.bool yi) ∧ Below (w.heap.size + 3) W0 w')
   (first | with_reducible exact hS0 | exact keepInf (by assumption) (by assumption) hcall | exact keepInfSt (by assumption) (by assumption))
   (first
    | (go_at_call_of 68 (Value.agg #[Value.string sx, Value.int IntKind.i64 xl, Value.bool xi]); refine (CX.out _).mono ?_; rintro e w' ⟨rfl, hcall⟩; have hsz := Nat.lt_of_lt_of_le hsz hcall.size; have hzb := Box3.keep (by assumption) hcall; have z0 := hzb.c0; have z1 := hzb.c1; have z2 := hzb.c2; have zf := hzb.free)
    | (go_at_call_of 68 (Value.agg #[Value.string sy, Value.int IntKind.i64 yl, Value.bool yi]); refine (CY.out _).mono ?_; rintro e w' ⟨rfl, hcall⟩; have hsz := Nat.lt_of_lt_of_le hsz hcall.size; have hzb := Box3.keep (by assumption) hcall; have z0 := hzb.c0; have z1 := hzb.c1; have z2 := hzb.c2; have zf := hzb.free))
  all_goals
   obtain ⟨_, _, _, _, _, _, _, _, hB⟩ := ‹_ ∧ _›
   have HF := Lib.hid (HBEL.out.trans (hB.mono (by omega)))
   have hld := box_pc (Box3.store (x' := .string ((((ex ++ ⟨#[32]⟩) ++ wd) ++ ⟨#[32]⟩) ++ ey)) (y' := .int .i64 lv) (z' := .bool false) hzb).block
   clear hB
   go_wp2_with fail
   exact bodyPost_ret (v := .agg #[.string ((((ex ++ ⟨#[32]⟩) ++ wd) ++ ⟨#[32]⟩) ++ ey), .int .i64 lv, .bool false]) (by simp [results, Tryz.results71, Act.put, asAddr, hld]) rfl ⟨rfl, HF.out⟩
end Go.Proofs.YtmdpjahhhfajaaaGreatDoor
