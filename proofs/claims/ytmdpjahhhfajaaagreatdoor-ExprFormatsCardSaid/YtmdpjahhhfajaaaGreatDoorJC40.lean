/-
  The reference's type of a node: if (5). · The reference's type of a node: if (6). · The reference's type of a node: if. · The reference's Type of an expression over the laws' columns and zones
-/
import Derived.Test.YtmdpjahhhfajaaaGreatDoorJC38
import Derived.Deep.RegionWith
import Derived.Test.YtmdpjahhhfajaaaGreatDoorJC39
import Derived.Test.YtmdpjahhhfajaaaGreatDoorJC22
import Derived.Test.YtmdpjahhhfajaaaGreatDoorJC14
import Derived.Deep.RegionLawGrows
set_option linter.unusedVariables false
set_option linter.unusedSimpArgs false
set_option maxRecDepth 100000
namespace Go.Proofs.YtmdpjahhhfajaaaGreatDoor
open Go.RowKit Wh
set_option maxHeartbeats 8000000 in
theorem rndI5 (vk vn : Int) (vs nm : ByteArray) (ar : Int) (b off cap : Nat) (x0k x1k x2k k1 : Int) (x0n x2n : Bool) (x2 x3 : Value) (w : World) (hb : b < w.heap.size) (h0 : w.cell? ⟨b, off, none⟩ = some (.int .i64 x0k)) (h1 : w.cell? ⟨b, off + 1, none⟩ = some (.bool x0n)) (h2 : w.cell? ⟨b, off + 2, none⟩ = some (.int .i64 x1k)) (h3 : w.cell? ⟨b, off + 3, none⟩ = some (.bool false)) (h4 : w.cell? ⟨b, off + 4, none⟩ = some (.int .i64 x2k)) (h5 : w.cell? ⟨b, off + 5, none⟩ = some (.bool x2n))
  (CC0 : ∀ W, Calls Tryz.prog 154 #[ktV (x1k, false), ktV (x2k, x2n)] W fun e w' => e = .returned (.tuple #[.int .i64 k1, .bool true]) ∧ Below W.heap.size W w') (CF0 : ∀ W, Calls Tryz.prog 155 #[ktV (x0k, x0n), .int .i64 1] W fun e w' => e = .returned (.bool true) ∧ Below W.heap.size W w') :
  Calls Tryz.prog 124 #[ndV ⟨17, ⟨vk, vn, vs⟩, nm, ar⟩, .slice (some ⟨b, off, none⟩) 3 cap, x2, x3] w fun e w' => e = .returned (.tuple #[ktV (k1, x2n), .int .i64 0]) ∧ Below w.heap.size w w' := by
 have HN := Lib.hid (NdW.start w ⟨17, ⟨vk, vn, vs⟩, nm, ar⟩)
 have CC := Lib.hid CC0
 have CF := Lib.hid CF0
 clear CC0 CF0
 unfold ndV
 simp only at HN ⊢
 obtain ⟨W0, hW0⟩ : ∃ W0, (((w.alloc (.cells #[.int .i64 17, .int .i64 vk, .int .i64 vn, .string vs, .string nm, .int .i64 ar] 53)).alloc (.cells #[.int .i64 0, .bool false] 146)).alloc (.cells #[.int .i64 0, .bool false] 146)) = W0 := ⟨_, rfl⟩
 rw [hW0] at HN
 have e00' : W0.drew.cell? ⟨b, off, none⟩ = _ := (HN.out.bel.cell (p := ⟨b, off, none⟩) hb).trans h0
 have e01' : W0.drew.cell? ⟨b, off + 1, none⟩ = _ := (HN.out.bel.cell (p := ⟨b, off + 1, none⟩) hb).trans h1
 have e10' : W0.drew.cell? ⟨b, off + 2, none⟩ = _ := (HN.out.bel.cell (p := ⟨b, off + 2, none⟩) hb).trans h2
 have e11' : W0.drew.cell? ⟨b, off + 3, none⟩ = _ := (HN.out.bel.cell (p := ⟨b, off + 3, none⟩) hb).trans h3
 have e20' : W0.drew.cell? ⟨b, off + 4, none⟩ = _ := (HN.out.bel.cell (p := ⟨b, off + 4, none⟩) hb).trans h4
 have e21' : W0.drew.cell? ⟨b, off + 5, none⟩ = _ := (HN.out.bel.cell (p := ⟨b, off + 5, none⟩) hb).trans h5
 have c0' := HN.out.cells.1
 clear h0 h1 h2 h3 h4 h5
 have HW0 := Lib.hid hW0
 clear hW0
 go_enter Tryz.func124, Tryz.ntmps124
 go_wp2_with fail
 rw [HW0.out]
 clear c0'
 have HND := Lib.hid HN.out.drew
 have hN := HN.out.drew
 have hS0 : W0.drew.cell? ⟨w.heap.size, 0, none⟩ = some (.int .i64 17) ∧ W0.drew.cell? ⟨b, off, none⟩ = some (.int .i64 x0k) ∧ W0.drew.cell? ⟨b, off + 1, none⟩ = some (.bool x0n) ∧ W0.drew.cell? ⟨b, off + 2, none⟩ = some (.int .i64 x1k) ∧ W0.drew.cell? ⟨b, off + 3, none⟩ = some (.bool false) ∧ W0.drew.cell? ⟨b, off + 4, none⟩ = some (.int .i64 x2k) ∧ W0.drew.cell? ⟨b, off + 5, none⟩ = some (.bool x2n) ∧ Below (w.heap.size + 1 + 1) W0 W0.drew := ⟨hN.cells.1, e00', e01', e10', e11', e20', e21', (Below.refl _ _).drew⟩
 have hsz := hN.sz
 have hzb : Box2 W0.drew (w.heap.size + 1 + 1) (.int .i64 0) (.bool false) 146 := ⟨hN.h10⟩
 have z0 := hzb.c0
 have z1 := hzb.c1
 have zf := hzb.free
 clear HW0 e00' e01' e10' e11' e20' e21' hN
 go_region_held3 (fun w' => w'.cell? ⟨w.heap.size, 0, none⟩ = some (.int .i64 17) ∧ w'.cell? ⟨b, off, none⟩ = some (.int .i64 x0k) ∧ w'.cell? ⟨b, off + 1, none⟩ = some (.bool x0n) ∧ w'.cell? ⟨b, off + 2, none⟩ = some (.int .i64 x1k) ∧ w'.cell? ⟨b, off + 3, none⟩ = some (.bool false) ∧ w'.cell? ⟨b, off + 4, none⟩ = some (.int .i64 x2k) ∧ w'.cell? ⟨b, off + 5, none⟩ = some (.bool x2n) ∧ Below (w.heap.size + 1 + 1) W0 w')
  (first | with_reducible exact hS0 | exact ndKeep3 hb (by assumption) (hcall.mono (by omega)) | exact ndStore3 hb (by assumption))
  (first | (go_at_call 154; refine (CC.out _).mono ?_; rintro e w' ⟨rfl, hcall⟩; have hsz := Nat.lt_of_lt_of_le hsz hcall.size; have hzb := Box2.keep hzb hcall hzb.lt; have z0 := hzb.c0; have z1 := hzb.c1; have zf := hzb.free))
 all_goals
  obtain ⟨a0, a1, a2, a3, a4, a5, a6, hBB⟩ := ‹_ ∧ _ ∧ _ ∧ _ ∧ _ ∧ _ ∧ _ ∧ Below _ _ _›
  clear hS0
  go_wp2_with fail
  have hS0 : w'.drew.cell? ⟨w.heap.size, 0, none⟩ = some (.int .i64 17) ∧ w'.drew.cell? ⟨b, off, none⟩ = some (.int .i64 x0k) ∧ w'.drew.cell? ⟨b, off + 1, none⟩ = some (.bool x0n) ∧ w'.drew.cell? ⟨b, off + 2, none⟩ = some (.int .i64 x1k) ∧ w'.drew.cell? ⟨b, off + 3, none⟩ = some (.bool false) ∧ w'.drew.cell? ⟨b, off + 4, none⟩ = some (.int .i64 x2k) ∧ w'.drew.cell? ⟨b, off + 5, none⟩ = some (.bool x2n) ∧ Below (w.heap.size + 1 + 1) W0 w'.drew := ⟨a0, a1, a2, a3, a4, a5, a6, hBB.drew⟩
  have hsz : w.heap.size + 1 + 1 < w'.drew.heap.size := hsz
  have hzb : Box2 w'.drew (w.heap.size + 1 + 1) (.int .i64 0) (.bool false) 146 := ⟨hzb.block⟩
  have z0 := hzb.c0
  have z1 := hzb.c1
  have zf := hzb.free
  clear a0 a1 a2 a3 a4 a5 a6 hBB hcall CC
  go_region_held3 (fun w' => w'.cell? ⟨w.heap.size, 0, none⟩ = some (.int .i64 17) ∧ w'.cell? ⟨b, off, none⟩ = some (.int .i64 x0k) ∧ w'.cell? ⟨b, off + 1, none⟩ = some (.bool x0n) ∧ w'.cell? ⟨b, off + 2, none⟩ = some (.int .i64 x1k) ∧ w'.cell? ⟨b, off + 3, none⟩ = some (.bool false) ∧ w'.cell? ⟨b, off + 4, none⟩ = some (.int .i64 x2k) ∧ w'.cell? ⟨b, off + 5, none⟩ = some (.bool x2n) ∧ Below (w.heap.size + 1 + 1) W0 w')
   (first | with_reducible exact hS0 | exact ndKeep3 hb (by assumption) (hcall.mono (by omega)) | exact ndStore3 hb (by assumption))
   (first | (go_at_call 155; refine (CF.out _).mono ?_; rintro e w' ⟨rfl, hcall⟩; have hsz := Nat.lt_of_lt_of_le hsz hcall.size; have hzb := Box2.keep hzb hcall hzb.lt; have z0 := hzb.c0; have z1 := hzb.c1; have zf := hzb.free))
  all_goals
   have hx10 := (Box2.store (x' := .int .i64 k1) (y' := .bool x2n) hzb).block
   obtain ⟨_, _, _, _, _, _, _, hBB⟩ := ‹_ ∧ _ ∧ _ ∧ _ ∧ _ ∧ _ ∧ _ ∧ Below _ _ _›
   obtain ⟨hx8, e0, e1, hbl⟩ := HN.out.held hBB hx10
   have HX8 := Lib.hid hx8
   have HBL := Lib.hid hbl
   clear hx8 hbl HN hx10 hBB
   go_wp2_with (with_reducible refine wpList_store_row (o := Oper.mk none (Op.store 146 (.tmp 8) (.tmp 132)) _ _ _ none) rfl 146 (.tmp 8) (.tmp 132) rfl (w.heap.size + 1) #[.int .i64 k1, .bool x2n] ?ri5bqx ?ri5bqy 146 _ HX8.out ?ri5bqi ?ri5bqo ?ri5bq1 ?ri5bqk)
   case ri5bqx => rfl
   case ri5bqy => rfl
   case ri5bqi => kernel_rfl
   case ri5bqo => rfl
   case ri5bq1 => simp [Value.oneCell']
   go_wp2_with fail
   have hld := box_kt (setRow_heap _ _ _ #[.int .i64 k1, .bool x2n] _ _ HX8.out)
   exact bodyPost_ret (v := .tuple #[.agg #[.int .i64 k1, .bool x2n], .int .i64 0]) (by simp [results, Tryz.results124, Act.put, asAddr, hld]) rfl ⟨rfl, HBL.out.grown (grown_rowT _ _ _) HBL.out.size (fun z hz => by cases hz; omega)⟩
end Go.Proofs.YtmdpjahhhfajaaaGreatDoor
namespace Go.Proofs.YtmdpjahhhfajaaaGreatDoor
open Go.RowKit Wh
set_option maxHeartbeats 8000000 in
theorem rndI6 (vk vn : Int) (vs nm : ByteArray) (ar : Int) (b off cap : Nat) (x0k x1k x2k k1 : Int) (x0n x2n : Bool) (x2 x3 : Value) (w : World) (hb : b < w.heap.size) (h0 : w.cell? ⟨b, off, none⟩ = some (.int .i64 x0k)) (h1 : w.cell? ⟨b, off + 1, none⟩ = some (.bool x0n)) (h2 : w.cell? ⟨b, off + 2, none⟩ = some (.int .i64 x1k)) (h3 : w.cell? ⟨b, off + 3, none⟩ = some (.bool true)) (h4 : w.cell? ⟨b, off + 4, none⟩ = some (.int .i64 x2k)) (h5 : w.cell? ⟨b, off + 5, none⟩ = some (.bool x2n))
  (CC0 : ∀ W, Calls Tryz.prog 154 #[ktV (x1k, true), ktV (x2k, x2n)] W fun e w' => e = .returned (.tuple #[.int .i64 k1, .bool true]) ∧ Below W.heap.size W w') (CF0 : ∀ W, Calls Tryz.prog 155 #[ktV (x0k, x0n), .int .i64 1] W fun e w' => e = .returned (.bool true) ∧ Below W.heap.size W w') :
  Calls Tryz.prog 124 #[ndV ⟨17, ⟨vk, vn, vs⟩, nm, ar⟩, .slice (some ⟨b, off, none⟩) 3 cap, x2, x3] w fun e w' => e = .returned (.tuple #[ktV (k1, true), .int .i64 0]) ∧ Below w.heap.size w w' := by
 have HN := Lib.hid (NdW.start w ⟨17, ⟨vk, vn, vs⟩, nm, ar⟩)
 have CC := Lib.hid CC0
 have CF := Lib.hid CF0
 clear CC0 CF0
 unfold ndV
 simp only at HN ⊢
 obtain ⟨W0, hW0⟩ : ∃ W0, (((w.alloc (.cells #[.int .i64 17, .int .i64 vk, .int .i64 vn, .string vs, .string nm, .int .i64 ar] 53)).alloc (.cells #[.int .i64 0, .bool false] 146)).alloc (.cells #[.int .i64 0, .bool false] 146)) = W0 := ⟨_, rfl⟩
 rw [hW0] at HN
 have e00' : W0.drew.cell? ⟨b, off, none⟩ = _ := (HN.out.bel.cell (p := ⟨b, off, none⟩) hb).trans h0
 have e01' : W0.drew.cell? ⟨b, off + 1, none⟩ = _ := (HN.out.bel.cell (p := ⟨b, off + 1, none⟩) hb).trans h1
 have e10' : W0.drew.cell? ⟨b, off + 2, none⟩ = _ := (HN.out.bel.cell (p := ⟨b, off + 2, none⟩) hb).trans h2
 have e11' : W0.drew.cell? ⟨b, off + 3, none⟩ = _ := (HN.out.bel.cell (p := ⟨b, off + 3, none⟩) hb).trans h3
 have e20' : W0.drew.cell? ⟨b, off + 4, none⟩ = _ := (HN.out.bel.cell (p := ⟨b, off + 4, none⟩) hb).trans h4
 have e21' : W0.drew.cell? ⟨b, off + 5, none⟩ = _ := (HN.out.bel.cell (p := ⟨b, off + 5, none⟩) hb).trans h5
 have c0' := HN.out.cells.1
 clear h0 h1 h2 h3 h4 h5
 have HW0 := Lib.hid hW0
 clear hW0
 go_enter Tryz.func124, Tryz.ntmps124
 go_wp2_with fail
 rw [HW0.out]
 clear c0'
 have HND := Lib.hid HN.out.drew
 have hN := HN.out.drew
 have hS0 : W0.drew.cell? ⟨w.heap.size, 0, none⟩ = some (.int .i64 17) ∧ W0.drew.cell? ⟨b, off, none⟩ = some (.int .i64 x0k) ∧ W0.drew.cell? ⟨b, off + 1, none⟩ = some (.bool x0n) ∧ W0.drew.cell? ⟨b, off + 2, none⟩ = some (.int .i64 x1k) ∧ W0.drew.cell? ⟨b, off + 3, none⟩ = some (.bool true) ∧ W0.drew.cell? ⟨b, off + 4, none⟩ = some (.int .i64 x2k) ∧ W0.drew.cell? ⟨b, off + 5, none⟩ = some (.bool x2n) ∧ Below (w.heap.size + 1 + 1) W0 W0.drew := ⟨hN.cells.1, e00', e01', e10', e11', e20', e21', (Below.refl _ _).drew⟩
 have hsz := hN.sz
 have hzb : Box2 W0.drew (w.heap.size + 1 + 1) (.int .i64 0) (.bool false) 146 := ⟨hN.h10⟩
 have z0 := hzb.c0
 have z1 := hzb.c1
 have zf := hzb.free
 clear HW0 e00' e01' e10' e11' e20' e21' hN
 go_region_held3 (fun w' => w'.cell? ⟨w.heap.size, 0, none⟩ = some (.int .i64 17) ∧ w'.cell? ⟨b, off, none⟩ = some (.int .i64 x0k) ∧ w'.cell? ⟨b, off + 1, none⟩ = some (.bool x0n) ∧ w'.cell? ⟨b, off + 2, none⟩ = some (.int .i64 x1k) ∧ w'.cell? ⟨b, off + 3, none⟩ = some (.bool true) ∧ w'.cell? ⟨b, off + 4, none⟩ = some (.int .i64 x2k) ∧ w'.cell? ⟨b, off + 5, none⟩ = some (.bool x2n) ∧ Below (w.heap.size + 1 + 1) W0 w')
  (first | with_reducible exact hS0 | exact ndKeep3 hb (by assumption) (hcall.mono (by omega)) | exact ndStore3 hb (by assumption))
  (first | (go_at_call 154; refine (CC.out _).mono ?_; rintro e w' ⟨rfl, hcall⟩; have hsz := Nat.lt_of_lt_of_le hsz hcall.size; have hzb := Box2.keep hzb hcall hzb.lt; have z0 := hzb.c0; have z1 := hzb.c1; have zf := hzb.free))
 all_goals
  obtain ⟨a0, a1, a2, a3, a4, a5, a6, hBB⟩ := ‹_ ∧ _ ∧ _ ∧ _ ∧ _ ∧ _ ∧ _ ∧ Below _ _ _›
  clear hS0
  go_wp2_with fail
  have hS0 : w'.drew.cell? ⟨w.heap.size, 0, none⟩ = some (.int .i64 17) ∧ w'.drew.cell? ⟨b, off, none⟩ = some (.int .i64 x0k) ∧ w'.drew.cell? ⟨b, off + 1, none⟩ = some (.bool x0n) ∧ w'.drew.cell? ⟨b, off + 2, none⟩ = some (.int .i64 x1k) ∧ w'.drew.cell? ⟨b, off + 3, none⟩ = some (.bool true) ∧ w'.drew.cell? ⟨b, off + 4, none⟩ = some (.int .i64 x2k) ∧ w'.drew.cell? ⟨b, off + 5, none⟩ = some (.bool x2n) ∧ Below (w.heap.size + 1 + 1) W0 w'.drew := ⟨a0, a1, a2, a3, a4, a5, a6, hBB.drew⟩
  have hsz : w.heap.size + 1 + 1 < w'.drew.heap.size := hsz
  have hzb : Box2 w'.drew (w.heap.size + 1 + 1) (.int .i64 0) (.bool false) 146 := ⟨hzb.block⟩
  have z0 := hzb.c0
  have z1 := hzb.c1
  have zf := hzb.free
  clear a0 a1 a2 a3 a4 a5 a6 hBB hcall CC
  refine wp_region_held_drew (S := fun w' => w'.cell? ⟨w.heap.size, 0, none⟩ = some (.int .i64 17) ∧ w'.cell? ⟨b, off, none⟩ = some (.int .i64 x0k) ∧ w'.cell? ⟨b, off + 1, none⟩ = some (.bool x0n) ∧ w'.cell? ⟨b, off + 2, none⟩ = some (.int .i64 x1k) ∧ w'.cell? ⟨b, off + 3, none⟩ = some (.bool true) ∧ w'.cell? ⟨b, off + 4, none⟩ = some (.int .i64 x2k) ∧ w'.cell? ⟨b, off + 5, none⟩ = some (.bool x2n) ∧ Below (w.heap.size + 1 + 1) W0 w') (by kernel_rfl) hS0 (fun hHeld => ?_)
  refine wpAnyH_take (i := 0) (v := ?v0ri6) rfl (by kernel_rfl) (by kernel_rfl) (by kernel_rfl) (fun _ _ _ h => h) (Or.inl ⟨by kernel_rfl, ?hy0ri6⟩) hHeld ?rest0ri6
  case hy0ri6 => (intro w hSw; (try dsimp only at hSw); go_simp; try rfl)
  (try simp only [Act.put, List.setIfInBounds_toArray, List.set_cons_zero, List.set_cons_succ])
  refine wpAnyH_take (i := 1) (v := ?v1ri6) rfl (by kernel_rfl) (by kernel_rfl) (by kernel_rfl) (fun _ _ _ h => h) (Or.inl ⟨by kernel_rfl, ?hy1ri6⟩) hHeld ?rest1ri6
  case hy1ri6 => (intro w hSw; (try dsimp only at hSw); go_simp; try rfl)
  (try simp only [Act.put, List.setIfInBounds_toArray, List.set_cons_zero, List.set_cons_succ])
  refine wpAnyH_take (i := 2) (v := ?v2ri6) rfl (by kernel_rfl) (by kernel_rfl) (by kernel_rfl) (fun _ _ _ h => h) (Or.inl ⟨by kernel_rfl, ?hy2ri6⟩) hHeld ?rest2ri6
  case hy2ri6 => (intro w hSw; (try dsimp only at hSw); go_simp; try rfl)
  (try simp only [Act.put, List.setIfInBounds_toArray, List.set_cons_zero, List.set_cons_succ])
  refine wpAnyH_take (i := 3) (v := ?v3ri6) rfl (by kernel_rfl) (by kernel_rfl) (by kernel_rfl) (fun _ _ _ h => h) (Or.inl ⟨by kernel_rfl, ?hy3ri6⟩) hHeld ?rest3ri6
  case hy3ri6 => (intro w hSw; (try dsimp only at hSw); go_simp; try rfl)
  (try simp only [Act.put, List.setIfInBounds_toArray, List.set_cons_zero, List.set_cons_succ])
  refine wpAnyH_take (i := 4) (v := ?v4ri6) rfl (by kernel_rfl) (by kernel_rfl) (by kernel_rfl) (fun _ _ _ h => h) (Or.inl ⟨by kernel_rfl, ?hy4ri6⟩) hHeld ?rest4ri6
  case hy4ri6 => (intro w hSw; (try dsimp only at hSw); go_simp; try rfl)
  (try simp only [Act.put, List.setIfInBounds_toArray, List.set_cons_zero, List.set_cons_succ])
  refine wpAnyH_take (i := 5) (v := ?v5ri6) rfl (by kernel_rfl) (by kernel_rfl) (by kernel_rfl) (fun _ _ _ h => h) (Or.inl ⟨by kernel_rfl, ?hy5ri6⟩) hHeld ?rest5ri6
  case hy5ri6 => (intro w hSw; (try dsimp only at hSw); go_simp; try rfl)
  (try simp only [Act.put, List.setIfInBounds_toArray, List.set_cons_zero, List.set_cons_succ])
  refine wpAnyH_take (i := 6) (v := undef) rfl (by kernel_rfl) (by kernel_rfl) (by kernel_rfl) (fun _ _ _ h => h) (Or.inr ⟨by kernel_rfl, rfl⟩) hHeld ?_
  (try simp only [Act.put, List.setIfInBounds_toArray, List.set_cons_zero, List.set_cons_succ])
  refine wpAnyH_take (i := 7) (v := undef) rfl (by kernel_rfl) (by kernel_rfl) (by kernel_rfl) (fun _ _ _ h => h) (Or.inr ⟨by kernel_rfl, rfl⟩) hHeld ?_
  (try simp only [Act.put, List.setIfInBounds_toArray, List.set_cons_zero, List.set_cons_succ])
  refine wpAnyH_take (i := 8) (v := undef) rfl (by kernel_rfl) (by kernel_rfl) (by kernel_rfl) (fun _ _ _ h => h) (Or.inr ⟨by kernel_rfl, rfl⟩) hHeld ?_
  (try simp only [Act.put, List.setIfInBounds_toArray, List.set_cons_zero, List.set_cons_succ])
  refine wpAnyH_take (i := 9) (v := undef) rfl (by kernel_rfl) (by kernel_rfl) (by kernel_rfl) (fun _ _ _ h => h) (Or.inr ⟨by kernel_rfl, rfl⟩) hHeld ?_
  (try simp only [Act.put, List.setIfInBounds_toArray, List.set_cons_zero, List.set_cons_succ])
  refine wpAnyH_take (i := 10) (v := ?v10ri6) rfl (by kernel_rfl) (by kernel_rfl) (by kernel_rfl) (fun _ _ _ h => h) (Or.inl ⟨by kernel_rfl, ?hy10ri6⟩) hHeld ?rest10ri6
  case hy10ri6 => (intro w hSw; (try dsimp only at hSw); go_simp; try rfl)
  (try simp only [Act.put, List.setIfInBounds_toArray, List.set_cons_zero, List.set_cons_succ])
  refine wpAnyH_take (i := 11) (v := ?v11ri6) rfl (by kernel_rfl) (by kernel_rfl) (by kernel_rfl) (fun _ _ _ h => h) (Or.inl ⟨by kernel_rfl, ?hy11ri6⟩) hHeld ?rest11ri6
  case hy11ri6 => (intro w hSw; (try dsimp only at hSw); go_simp; try rfl)
  (try simp only [Act.put, List.setIfInBounds_toArray, List.set_cons_zero, List.set_cons_succ])
  refine wpAnyH_take (i := 12) (v := ?v12ri6) rfl (by kernel_rfl) (by kernel_rfl) (by kernel_rfl) (fun _ _ _ h => h) (Or.inl ⟨by kernel_rfl, ?hy12ri6⟩) hHeld ?rest12ri6
  case hy12ri6 => (intro w hSw; (try dsimp only at hSw); go_simp; try rfl)
  (try simp only [Act.put, List.setIfInBounds_toArray, List.set_cons_zero, List.set_cons_succ])
  refine wpAnyH_take (i := 13) (v := ?v13ri6) rfl (by kernel_rfl) (by kernel_rfl) (by kernel_rfl) (fun _ _ _ h => h) (Or.inl ⟨by kernel_rfl, ?hy13ri6⟩) hHeld ?rest13ri6
  case hy13ri6 => (intro w hSw; (try dsimp only at hSw); go_simp; try rfl)
  (try simp only [Act.put, List.setIfInBounds_toArray, List.set_cons_zero, List.set_cons_succ])
  refine wpAnyH_take (i := 14) (v := ?v14ri6) rfl (by kernel_rfl) (by kernel_rfl) (by kernel_rfl) (fun _ _ _ h => h) (Or.inl ⟨by kernel_rfl, ?hy14ri6⟩) hHeld ?rest14ri6
  case hy14ri6 => (intro w hSw; (try dsimp only at hSw); go_simp; try rfl)
  (try simp only [Act.put, List.setIfInBounds_toArray, List.set_cons_zero, List.set_cons_succ])
  refine wpAnyH_take (i := 15) (v := ?v15ri6) rfl (by kernel_rfl) (by kernel_rfl) (by kernel_rfl) (fun _ _ _ h => h) (Or.inl ⟨by kernel_rfl, ?hy15ri6⟩) hHeld ?rest15ri6
  case hy15ri6 => (intro w hSw; (try dsimp only at hSw); go_simp; try rfl)
  (try simp only [Act.put, List.setIfInBounds_toArray, List.set_cons_zero, List.set_cons_succ])
  refine wpAnyH_take (i := 16) (v := ?v16ri6) rfl (by kernel_rfl) (by kernel_rfl) (by kernel_rfl) (fun _ _ _ h => h) (Or.inl ⟨by kernel_rfl, ?hy16ri6⟩) hHeld ?rest16ri6
  case hy16ri6 => (intro w hSw; (try dsimp only at hSw); go_simp; try rfl)
  (try simp only [Act.put, List.setIfInBounds_toArray, List.set_cons_zero, List.set_cons_succ])
  refine wpAnyH_ready (rs := [17]) (by kernel_rfl) (by simp) ?_
  refine AllReadyH.cons (o := _) rfl (fun K hK => ?_) AllReadyH.nil
  go_simp
  go_at_call 155
  refine (CF.out _).mono ?_
  rintro e w' ⟨rfl, hcall⟩
  have hKS := ndKeep3 hb hHeld (hcall.mono (by omega))
  have hsz := Nat.lt_of_lt_of_le hsz hcall.size; have hzb := Box2.keep hzb hcall hzb.lt; have z0 := hzb.c0; have z1 := hzb.c1; have zf := hzb.free
  go_wp2_with fail
  refine hK.out _ _ hKS (fun hHeld => ?_)
  clear hK K
  (try simp only [Act.put, List.setIfInBounds_toArray, List.set_cons_zero, List.set_cons_succ])
  refine wpAnyH_take (i := 18) (v := ?v18ri6) rfl (by kernel_rfl) (by kernel_rfl) (by kernel_rfl) (fun _ _ _ h => h) (Or.inl ⟨by kernel_rfl, ?hy18ri6⟩) hHeld ?rest18ri6
  case hy18ri6 => (intro w hSw; (try dsimp only at hSw); go_simp; try rfl)
  (try simp only [Act.put, List.setIfInBounds_toArray, List.set_cons_zero, List.set_cons_succ])
  refine wpAnyH_ready (rs := [19]) (by kernel_rfl) (by simp) ?_
  refine AllReadyH.cons (o := _) rfl (fun K hK => ?_) AllReadyH.nil
  go_simp
  refine hK.out _ _ (ndStore3 hb hHeld) (fun hHeld => ?_)
  clear hK K
  (try simp only [Act.put, List.setIfInBounds_toArray, List.set_cons_zero, List.set_cons_succ])
  refine wpAnyH_take (i := 20) (v := ?v20ri6) rfl (by kernel_rfl) (by kernel_rfl) (by kernel_rfl) (fun _ _ _ h => h) (Or.inl ⟨by kernel_rfl, ?hy20ri6⟩) hHeld ?rest20ri6
  case hy20ri6 => (intro w hSw; (try dsimp only at hSw); go_simp; try rfl)
  (try simp only [Act.put, List.setIfInBounds_toArray, List.set_cons_zero, List.set_cons_succ])
  refine wpAnyH_done (by kernel_rfl) ?_ _
  all_goals
   have hx10 := (Box2.store (x' := .int .i64 k1) (y' := .bool true) hzb).block
   obtain ⟨_, _, _, _, _, _, _, hBB⟩ := ‹_ ∧ _ ∧ _ ∧ _ ∧ _ ∧ _ ∧ _ ∧ Below _ _ _›
   obtain ⟨hx8, e0, e1, hbl⟩ := HN.out.held hBB hx10
   have HX8 := Lib.hid hx8
   have HBL := Lib.hid hbl
   clear hx8 hbl HN hx10 hBB
   go_wp2_with (with_reducible refine wpList_store_row (o := Oper.mk none (Op.store 146 (.tmp 8) (.tmp 132)) _ _ _ none) rfl 146 (.tmp 8) (.tmp 132) rfl (w.heap.size + 1) #[.int .i64 k1, .bool true] ?ri6bqx ?ri6bqy 146 _ HX8.out ?ri6bqi ?ri6bqo ?ri6bq1 ?ri6bqk)
   case ri6bqx => rfl
   case ri6bqy => rfl
   case ri6bqi => kernel_rfl
   case ri6bqo => rfl
   case ri6bq1 => simp [Value.oneCell']
   go_wp2_with fail
   have hld := box_kt (setRow_heap _ _ _ #[.int .i64 k1, .bool true] _ _ HX8.out)
   exact bodyPost_ret (v := .tuple #[.agg #[.int .i64 k1, .bool true], .int .i64 0]) (by simp [results, Tryz.results124, Act.put, asAddr, hld]) rfl ⟨rfl, HBL.out.grown (grown_rowT _ _ _) HBL.out.size (fun z hz => by cases hz; omega)⟩
end Go.Proofs.YtmdpjahhhfajaaaGreatDoor
namespace Go.Proofs.YtmdpjahhhfajaaaGreatDoor
open Go.RowKit Wh
theorem rndI (t : Nd) (b off cap : Nat) (x y z : KT) (x2 x3 : Value) (w : World) (h : t.op = 17) (hb : b < w.heap.size) (h0 : w.cell? ⟨b, off, none⟩ = some (.int .i64 x.1)) (h1 : w.cell? ⟨b, off + 1, none⟩ = some (.bool x.2)) (h2 : w.cell? ⟨b, off + 2, none⟩ = some (.int .i64 y.1)) (h3 : w.cell? ⟨b, off + 3, none⟩ = some (.bool y.2)) (h4 : w.cell? ⟨b, off + 4, none⟩ = some (.int .i64 z.1)) (h5 : w.cell? ⟨b, off + 5, none⟩ = some (.bool z.2)) : Calls Tryz.prog 124 #[ndV t, .slice (some ⟨b, off, none⟩) 3 cap, x2, x3] w fun e w' => e = .returned (if ((comT y z).2 && fitB x 1) then .tuple #[ktV ((comT y z).1, y.2 || z.2), .int .i64 0] else .tuple #[ktV (0, false), .int .i64 7]) ∧ Below w.heap.size w w' := by
 have CC := fun W => common_any y z W
 have CF := fun W => fits_any x 1 W
 obtain ⟨op, ⟨vk, vn, vs⟩, nm, ar⟩ := t
 generalize comT y z = D at *
 generalize fitB x 1 = q at *
 obtain ⟨x0k, x0n⟩ := x
 obtain ⟨x1k, x1n⟩ := y
 obtain ⟨x2k, x2n⟩ := z
 obtain ⟨k1, cok⟩ := D
 simp only at h CC h0 h1 h2 h3 h4 h5 ⊢
 subst h
 cases cok
 ·cases x1n
  ·cases q
   ·exact rndI1 vk vn vs nm ar b off cap x0k x1k x2k k1 x0n x2n x2 x3 w hb h0 h1 h2 h3 h4 h5 CC
   ·exact rndI1 vk vn vs nm ar b off cap x0k x1k x2k k1 x0n x2n x2 x3 w hb h0 h1 h2 h3 h4 h5 CC
  ·cases q
   ·exact rndI2 vk vn vs nm ar b off cap x0k x1k x2k k1 x0n x2n x2 x3 w hb h0 h1 h2 h3 h4 h5 CC
   ·exact rndI2 vk vn vs nm ar b off cap x0k x1k x2k k1 x0n x2n x2 x3 w hb h0 h1 h2 h3 h4 h5 CC
 ·cases q
  ·cases x1n
   ·exact rndI3 vk vn vs nm ar b off cap x0k x1k x2k k1 x0n x2n x2 x3 w hb h0 h1 h2 h3 h4 h5 CC CF
   ·exact rndI4 vk vn vs nm ar b off cap x0k x1k x2k k1 x0n x2n x2 x3 w hb h0 h1 h2 h3 h4 h5 CC CF
  ·cases x1n
   ·exact rndI5 vk vn vs nm ar b off cap x0k x1k x2k k1 x0n x2n x2 x3 w hb h0 h1 h2 h3 h4 h5 CC CF
   ·exact rndI6 vk vn vs nm ar b off cap x0k x1k x2k k1 x0n x2n x2 x3 w hb h0 h1 h2 h3 h4 h5 CC CF
end Go.Proofs.YtmdpjahhhfajaaaGreatDoor
namespace Wh
open Go Go.Proofs.YtmdpjahhhfajaaaGreatDoor
def gk (x : List KT) (i : Nat) : KT := x.getD i (0, false)
def nodT (t : Nd) (x : List KT) : KT × Bool :=
 if t.op = 0 then ((t.v.k, decide (t.v.k = 0)), true)
 else if t.op = 1 then ((cKd (idxC colsX t.nm).toNat, cNl (idxC colsX t.nm).toNat), true)
 else if t.op = 17 then (((comT (gk x 1) (gk x 2)).1, (gk x 1).2 || (gk x 2).2), (comT (gk x 1) (gk x 2)).2 && fitB (gk x 0) 1)
 else if arN t = 1 then unaT t.op (gk x 0)
 else binT t.op (gk x 0) (gk x 1)
def GdT (t : Nd) : Prop := t.op = 0 ∨ (t.op = 1 ∧ ∃ i, i < 4 ∧ t.nm = cNm i) ∨ (t.op = 2 ∨ t.op = 3 ∨ t.op = 16 ∨ t.op = 19) ∨ ((4 ≤ t.op ∧ t.op ≤ 15) ∨ t.op = 18) ∨ t.op = 17 ∨ (t.op = 20 ∧ ∃ i, i < 3 ∧ t.nm = zNm i)
def typS : List Nd → List KT → Option KT
 | [], st => some (gk st 0)
 | t :: l, st => if (nodT t (st.drop (st.length - (arN t).toNat))).2 then typS l (st.take (st.length - (arN t).toNat) ++ [(nodT t (st.drop (st.length - (arN t).toNat))).1]) else none
def typR (o : Option KT) : KT × Int := match o with
 | some T => (T, 0)
 | none => ((0, false), 7)
def ktsL (l : List KT) : List Value := l.flatMap fun t => [.int .i64 t.1, .bool t.2]
theorem ktsL_length (l : List KT) : (ktsL l).length = l.length * 2 := by
 induction l with
 | nil => rfl
 | cons t l ih => unfold ktsL at *; rw [List.flatMap_cons, List.length_append, ih]; simp; omega
theorem ktsL_at : ∀ (l : List KT) (i : Nat) (t : KT), l[i]? = some t → (ktsL l)[i * 2]? = some (.int .i64 t.1) ∧ (ktsL l)[i * 2 + 1]? = some (.bool t.2)
 | [], i, t, h => by simp at h
 | s :: l, 0, t, h => by
  simp at h
  subst h
  exact ⟨rfl, rfl⟩
 | s :: l, i + 1, t, h => by
  have := ktsL_at l i t (by simpa using h)
  rw [show (i + 1) * 2 = i * 2 + 2 by omega]
  exact this
theorem ktsL_push (l : List KT) (t : KT) : ktsL l ++ [.int .i64 t.1, .bool t.2] = ktsL (l ++ [t]) := by unfold ktsL; simp
theorem ktsL_take (l : List KT) (k : Nat) : (ktsL l).take (k * 2) = ktsL (l.take k) := by
 induction l generalizing k with
 | nil => simp [ktsL]
 | cons t l ih =>
  cases k with
  | zero => simp [ktsL]
  | succ k =>
   rw [show (k + 1) * 2 = k * 2 + 2 by omega]
   have := ih k
   unfold ktsL at *
   simp [this]
def shL (i : Nat) : List (Int × Int) := if i = 0 then [] else if i = 1 then [(145000, -240), (147000, -300)] else [(145450, 0)]
end Wh
namespace Go.Proofs.YtmdpjahhhfajaaaGreatDoor
open Go.RowKit Wh
theorem ZonesX.sh {w : World} {zb s1 s2 i : Nat} (h : ZonesX w zb s1 s2) (hi : i < 3) : ∃ a len cap, zSh s1 s2 i = .slice a len cap ∧ IsShifts w a len (shL i) ∧ len ≤ 2 ∧ zoneE (zOf i) (shL i) = 0 := by
 have : i = 0 ∨ i = 1 ∨ i = 2 := by omega
 rcases this with rfl | rfl | rfl
 ·exact ⟨none, 0, 0, rfl, ⟨rfl, .inl rfl⟩, by omega, by decide +kernel⟩
 ·refine ⟨_, 2, 2, rfl, ⟨rfl, .inr ⟨s1, 0, rfl, h.l1, fun i s hs => ?_⟩⟩, by omega, by decide +kernel⟩
  have hi2 : i < 2 := (List.getElem?_eq_some_iff.1 hs).1
  have : i = 0 ∨ i = 1 := by omega
  rcases this with rfl | rfl
  ·cases hs; exact ⟨h.c1 0 _ rfl, h.c1 1 _ rfl⟩
  ·cases hs; exact ⟨h.c1 2 _ rfl, h.c1 3 _ rfl⟩
 ·refine ⟨_, 1, 1, rfl, ⟨rfl, .inr ⟨s2, 0, rfl, h.l2, fun i s hs => ?_⟩⟩, by omega, by decide +kernel⟩
  have hi2 : i < 1 := (List.getElem?_eq_some_iff.1 hs).1
  obtain rfl : i = 0 := by omega
  cases hs; exact ⟨h.c2 0 _ rfl, h.c2 1 _ rfl⟩
def IsKTs (w : World) (a : Option Addr) (len : Nat) (l : List KT) : Prop :=
 l.length = len ∧ (l = [] ∨ ∃ b off, a = some ⟨b, off, none⟩ ∧ b < w.heap.size ∧ ∀ i t, l[i]? = some t → w.cell? ⟨b, off + i * 2, none⟩ = some (.int .i64 t.1) ∧ w.cell? ⟨b, off + i * 2 + 1, none⟩ = some (.bool t.2))
theorem IsKTs.below {w w' : World} {a : Option Addr} {len B : Nat} {l : List KT} (h : IsKTs w a len l) (hb : Below B w w') (hB : w.heap.size ≤ B) : IsKTs w' a len l := by
 obtain ⟨h1, h2⟩ := h
 refine ⟨h1, ?_⟩
 rcases h2 with h2 | ⟨b, off, ha, hlt, hc⟩
 ·exact .inl h2
 ·have e : ∀ o, w'.cell? ⟨b, o, none⟩ = w.cell? ⟨b, o, none⟩ := fun o => hb.cell (p := ⟨b, o, none⟩) (by show b < B; omega)
  refine .inr ⟨b, off, ha, by have := hb.size; omega, fun i s hs => ?_⟩
  rw [e, e]
  exact hc i s hs
theorem IsKTs.at {w : World} {b off len : Nat} {l : List KT} (h : IsKTs w (some ⟨b, off, none⟩) len l) {i : Nat} (hi : i < len) : w.cell? ⟨b, off + i * 2, none⟩ = some (.int .i64 (gk l i).1) ∧ w.cell? ⟨b, off + i * 2 + 1, none⟩ = some (.bool (gk l i).2) := by
 obtain ⟨h1, h2⟩ := h
 obtain ⟨t, ht⟩ : ∃ t, l[i]? = some t := ⟨_, List.getElem?_eq_getElem (by omega)⟩
 have hg : gk l i = t := by unfold gk; rw [List.getD_eq_getElem?_getD, ht]; rfl
 rw [hg]
 rcases h2 with rfl | ⟨b', off', ha, hlt, hc⟩
 ·simp at ht
 ·cases ha
  exact hc i t ht
theorem rnode_any (t : Nd) (a : Option Addr) (p cap cb zb s1 s2 : Nat) (x : List KT) (w : World) (hg : GdT t) (hp : arN t = (p : Int)) (hx : IsKTs w a p x) (hC : ColsX w cb) (hZ : ZonesX w zb s1 s2) :
  Calls Tryz.prog 124 #[ndV t, .slice a p cap, .slice (some ⟨cb, 0, none⟩) 4 4, .slice (some ⟨zb, 0, none⟩) 3 3] w fun e w' => e = .returned (.tuple #[ktV (if (nodT t x).2 then (nodT t x).1 else (0, false)), .int .i64 (if (nodT t x).2 then 0 else 7)]) ∧ Below w.heap.size w w' := by
 have spl : ∀ {D : KT × Bool} {e : Ending}, e = .returned (if D.2 then .tuple #[ktV D.1, .int .i64 0] else .tuple #[ktV (0, false), .int .i64 7]) → e = .returned (.tuple #[ktV (if D.2 then D.1 else (0, false)), .int .i64 (if D.2 then 0 else 7)]) := fun {D e} h => by
  rw [h]
  cases D.2 <;> rfl
 have n0 : ∀ {q : Nat}, arN t = (q : Int) → 0 < q → ∃ b off, a = some ⟨b, off, none⟩ ∧ b < w.heap.size := fun {q} h h1 => by
  have hq : p = q := by omega
  rcases hx.2 with h0 | ⟨b, off, ha, hlt, _⟩
  ·have := hx.1
   rw [h0] at this
   simp at this
   omega
  ·exact ⟨b, off, ha, hlt⟩
 rcases hg with h | ⟨h, i, hi, hnm⟩ | h | h | h | ⟨h, i, hi, hnm⟩
 ·refine (rnd0_any t _ _ _ w h).mono ?_
  rintro e w' ⟨rfl, hb⟩
  refine ⟨?_, hb⟩
  unfold nodT
  rw [if_pos h]
  rfl
 ·refine (rnd1_any t cb i _ _ w h hi hnm hC).mono ?_
  rintro e w' ⟨rfl, hb⟩
  have hn : nodT t x = ((cKd i, cNl i), true) := by
   unfold nodT
   rw [if_neg (by omega), if_pos h, hnm, colsX_idx hi]
   rfl
  rw [hn]
  exact ⟨rfl, hb⟩
 ·have ha1 : arN t = ((1 : Nat) : Int) := by unfold arN; rw [if_neg (by omega), if_neg (by omega), if_pos (by omega)]; rfl
  obtain rfl : p = 1 := by omega
  obtain ⟨b, off, rfl, hb⟩ := n0 ha1 (by omega)
  have h0 := hx.at (i := 0) (by omega)
  have hn : nodT t x = unaT t.op (gk x 0) := by unfold nodT; rw [if_neg (by omega), if_neg (by omega), if_neg (by omega), if_pos (by omega)]
  rw [hn]
  refine (rndU t b off cap (gk x 0) _ _ w h hb (by simpa using h0.1) (by simpa using h0.2)).mono ?_
  rintro e w' ⟨he, hb⟩
  exact ⟨spl he, hb⟩
 ·have ha1 : arN t = ((2 : Nat) : Int) := by unfold arN; rw [if_neg (by omega), if_neg (by omega), if_neg (by omega), if_neg (by omega), if_pos (by omega)]; rfl
  obtain rfl : p = 2 := by omega
  obtain ⟨b, off, rfl, hb⟩ := n0 ha1 (by omega)
  have h0 := hx.at (i := 0) (by omega)
  have h1 := hx.at (i := 1) (by omega)
  have hn : nodT t x = binT t.op (gk x 0) (gk x 1) := by unfold nodT; rw [if_neg (by omega), if_neg (by omega), if_neg (by omega), if_neg (by omega)]
  rw [hn]
  refine (rndB t b off cap (gk x 0) (gk x 1) _ _ w h hb (by simpa using h0.1) (by simpa using h0.2) (by simpa using h1.1) (by simpa using h1.2)).mono ?_
  rintro e w' ⟨he, hb⟩
  exact ⟨spl he, hb⟩
 ·have ha1 : arN t = ((3 : Nat) : Int) := by unfold arN; rw [if_neg (by omega), if_neg (by omega), if_neg (by omega), if_pos (by omega)]; rfl
  obtain rfl : p = 3 := by omega
  obtain ⟨b, off, rfl, hb⟩ := n0 ha1 (by omega)
  have h0 := hx.at (i := 0) (by omega)
  have h1 := hx.at (i := 1) (by omega)
  have h2 := hx.at (i := 2) (by omega)
  have hn : nodT t x = (((comT (gk x 1) (gk x 2)).1, (gk x 1).2 || (gk x 2).2), (comT (gk x 1) (gk x 2)).2 && fitB (gk x 0) 1) := by unfold nodT; rw [if_neg (by omega), if_neg (by omega), if_pos (by omega)]
  rw [hn]
  refine (rndI t b off cap (gk x 0) (gk x 1) (gk x 2) _ _ w h hb (by simpa using h0.1) (by simpa using h0.2) (by simpa using h1.1) (by simpa using h1.2) (by simpa using h2.1) (by simpa using h2.2)).mono ?_
  rintro e w' ⟨he, hb⟩
  exact ⟨spl (D := (((comT (gk x 1) (gk x 2)).1, (gk x 1).2 || (gk x 2).2), (comT (gk x 1) (gk x 2)).2 && fitB (gk x 0) 1)) he, hb⟩
 ·have ha1 : arN t = ((1 : Nat) : Int) := by unfold arN; rw [if_neg (by omega), if_neg (by omega), if_pos (by omega)]; rfl
  obtain rfl : p = 1 := by omega
  obtain ⟨b, off, rfl, hb⟩ := n0 ha1 (by omega)
  have h0 := hx.at (i := 0) (by omega)
  have hn : nodT t x = unaT t.op (gk x 0) := by unfold nodT; rw [if_neg (by omega), if_neg (by omega), if_neg (by omega), if_pos (by omega)]
  rw [hn]
  refine (rndD t b off cap zb s1 s2 i (gk x 0) _ w h hi hnm hZ hb (by simpa using h0.1) (by simpa using h0.2)).mono ?_
  rintro e w' ⟨he, hb⟩
  exact ⟨spl he, hb⟩
end Go.Proofs.YtmdpjahhhfajaaaGreatDoor
