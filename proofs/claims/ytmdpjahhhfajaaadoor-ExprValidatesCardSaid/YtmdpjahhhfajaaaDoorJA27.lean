/-
  The reference's type of a node: if (5).
-/
import Derived.Test.YtmdpjahhhfajaaaDoorJA22
import Derived.Deep.RegionWith
set_option linter.unusedVariables false
set_option linter.unusedSimpArgs false
set_option maxRecDepth 100000
namespace Go.Proofs.YtmdpjahhhfajaaaDoor
open Go.RowKit Wh
set_option maxHeartbeats 8000000 in
theorem rndI5 (vk vn : Int) (vs nm : ByteArray) (ar : Int) (b off cap : Nat) (x0k x1k x2k k1 : Int) (x0n x2n : Bool) (x2 x3 : Value) (w : World) (hb : b < w.heap.size) (h0 : w.cell? ⟨b, off, none⟩ = some (.int .i64 x0k)) (h1 : w.cell? ⟨b, off + 1, none⟩ = some (.bool x0n)) (h2 : w.cell? ⟨b, off + 2, none⟩ = some (.int .i64 x1k)) (h3 : w.cell? ⟨b, off + 3, none⟩ = some (.bool false)) (h4 : w.cell? ⟨b, off + 4, none⟩ = some (.int .i64 x2k)) (h5 : w.cell? ⟨b, off + 5, none⟩ = some (.bool x2n))
    (CC0 : ∀ W, Calls Tryd.prog 85 #[ktV (x1k, false), ktV (x2k, x2n)] W fun e w' => e = .returned (.tuple #[.int .i64 k1, .bool true]) ∧ Below W.heap.size W w') (CF0 : ∀ W, Calls Tryd.prog 86 #[ktV (x0k, x0n), .int .i64 1] W fun e w' => e = .returned (.bool true) ∧ Below W.heap.size W w') :
    Calls Tryd.prog 72 #[ndV ⟨17, ⟨vk, vn, vs⟩, nm, ar⟩, .slice (some ⟨b, off, none⟩) 3 cap, x2, x3] w fun e w' => e = .returned (.tuple #[ktV (k1, x2n), .int .i64 0]) ∧ Below w.heap.size w w' := by
  have HN := Lib.hid (NdW.start w ⟨17, ⟨vk, vn, vs⟩, nm, ar⟩)
  have CC := Lib.hid CC0
  have CF := Lib.hid CF0
  clear CC0 CF0
  unfold ndV
  simp only at HN ⊢
  obtain ⟨W0, hW0⟩ : ∃ W0, (((w.alloc (.cells #[.int .i64 17, .int .i64 vk, .int .i64 vn, .string vs, .string nm, .int .i64 ar] 26)).alloc (.cells #[.int .i64 0, .bool false] 97)).alloc (.cells #[.int .i64 0, .bool false] 97)) = W0 := ⟨_, rfl⟩
  rw [hW0] at HN
  have e00' : W0.drew.cell? ⟨b, off, none⟩ = _ := (HN.out.bel.cell (p := ⟨b, off, none⟩) hb).trans h0
  have e01' : W0.drew.cell? ⟨b, off + 1, none⟩ = _ := (HN.out.bel.cell (p := ⟨b, off + 1, none⟩) hb).trans h1
  have e10' : W0.drew.cell? ⟨b, off + 2, none⟩ = _ := (HN.out.bel.cell (p := ⟨b, off + 2, none⟩) hb).trans h2
  have e11' : W0.drew.cell? ⟨b, off + 3, none⟩ = _ := (HN.out.bel.cell (p := ⟨b, off + 3, none⟩) hb).trans h3
  have e20' : W0.drew.cell? ⟨b, off + 4, none⟩ = _ := (HN.out.bel.cell (p := ⟨b, off + 4, none⟩) hb).trans h4
  have e21' : W0.drew.cell? ⟨b, off + 5, none⟩ = _ := (HN.out.bel.cell (p := ⟨b, off + 5, none⟩) hb).trans h5
  have c0' := HN.out.cells.1
  clear h0 h1 h2 h3 h4 h5
  have HW0 := Lib.hid hW0
  clear hW0
  go_enter Tryd.func72, Tryd.ntmps72
  go_wp2_with fail
  rw [HW0.out]
  clear c0'
  have HND := Lib.hid HN.out.drew
  have hN := HN.out.drew
  have hS0 : W0.drew.cell? ⟨w.heap.size, 0, none⟩ = some (.int .i64 17) ∧ W0.drew.cell? ⟨b, off, none⟩ = some (.int .i64 x0k) ∧ W0.drew.cell? ⟨b, off + 1, none⟩ = some (.bool x0n) ∧ W0.drew.cell? ⟨b, off + 2, none⟩ = some (.int .i64 x1k) ∧ W0.drew.cell? ⟨b, off + 3, none⟩ = some (.bool false) ∧ W0.drew.cell? ⟨b, off + 4, none⟩ = some (.int .i64 x2k) ∧ W0.drew.cell? ⟨b, off + 5, none⟩ = some (.bool x2n) ∧ Below (w.heap.size + 1 + 1) W0 W0.drew := ⟨hN.cells.1, e00', e01', e10', e11', e20', e21', (Below.refl _ _).drew⟩
  have hsz := hN.sz
  have hzb : Box2 W0.drew (w.heap.size + 1 + 1) (.int .i64 0) (.bool false) 97 := ⟨hN.h10⟩
  have z0 := hzb.c0
  have z1 := hzb.c1
  have zf := hzb.free
  clear HW0 e00' e01' e10' e11' e20' e21' hN
  go_region_held3 (fun w' => w'.cell? ⟨w.heap.size, 0, none⟩ = some (.int .i64 17) ∧ w'.cell? ⟨b, off, none⟩ = some (.int .i64 x0k) ∧ w'.cell? ⟨b, off + 1, none⟩ = some (.bool x0n) ∧ w'.cell? ⟨b, off + 2, none⟩ = some (.int .i64 x1k) ∧ w'.cell? ⟨b, off + 3, none⟩ = some (.bool false) ∧ w'.cell? ⟨b, off + 4, none⟩ = some (.int .i64 x2k) ∧ w'.cell? ⟨b, off + 5, none⟩ = some (.bool x2n) ∧ Below (w.heap.size + 1 + 1) W0 w')
    (first | with_reducible exact hS0 | exact ndKeep3 hb (by assumption) (hcall.mono (by omega)) | exact ndStore3 hb (by assumption))
    (first | (go_at_call 85; refine (CC.out _).mono ?_; rintro e w' ⟨rfl, hcall⟩; have hsz := Nat.lt_of_lt_of_le hsz hcall.size; have hzb := Box2.keep hzb hcall hzb.lt; have z0 := hzb.c0; have z1 := hzb.c1; have zf := hzb.free))
  all_goals
    obtain ⟨a0, a1, a2, a3, a4, a5, a6, hBB⟩ := ‹_ ∧ _ ∧ _ ∧ _ ∧ _ ∧ _ ∧ _ ∧ Below _ _ _›
    clear hS0
    go_wp2_with fail
    have hS0 : w'.drew.cell? ⟨w.heap.size, 0, none⟩ = some (.int .i64 17) ∧ w'.drew.cell? ⟨b, off, none⟩ = some (.int .i64 x0k) ∧ w'.drew.cell? ⟨b, off + 1, none⟩ = some (.bool x0n) ∧ w'.drew.cell? ⟨b, off + 2, none⟩ = some (.int .i64 x1k) ∧ w'.drew.cell? ⟨b, off + 3, none⟩ = some (.bool false) ∧ w'.drew.cell? ⟨b, off + 4, none⟩ = some (.int .i64 x2k) ∧ w'.drew.cell? ⟨b, off + 5, none⟩ = some (.bool x2n) ∧ Below (w.heap.size + 1 + 1) W0 w'.drew := ⟨a0, a1, a2, a3, a4, a5, a6, hBB.drew⟩
    have hsz : w.heap.size + 1 + 1 < w'.drew.heap.size := hsz
    have hzb : Box2 w'.drew (w.heap.size + 1 + 1) (.int .i64 0) (.bool false) 97 := ⟨hzb.block⟩
    have z0 := hzb.c0
    have z1 := hzb.c1
    have zf := hzb.free
    clear a0 a1 a2 a3 a4 a5 a6 hBB hcall CC
    go_region_held3 (fun w' => w'.cell? ⟨w.heap.size, 0, none⟩ = some (.int .i64 17) ∧ w'.cell? ⟨b, off, none⟩ = some (.int .i64 x0k) ∧ w'.cell? ⟨b, off + 1, none⟩ = some (.bool x0n) ∧ w'.cell? ⟨b, off + 2, none⟩ = some (.int .i64 x1k) ∧ w'.cell? ⟨b, off + 3, none⟩ = some (.bool false) ∧ w'.cell? ⟨b, off + 4, none⟩ = some (.int .i64 x2k) ∧ w'.cell? ⟨b, off + 5, none⟩ = some (.bool x2n) ∧ Below (w.heap.size + 1 + 1) W0 w')
      (first | with_reducible exact hS0 | exact ndKeep3 hb (by assumption) (hcall.mono (by omega)) | exact ndStore3 hb (by assumption))
      (first | (go_at_call 86; refine (CF.out _).mono ?_; rintro e w' ⟨rfl, hcall⟩; have hsz := Nat.lt_of_lt_of_le hsz hcall.size; have hzb := Box2.keep hzb hcall hzb.lt; have z0 := hzb.c0; have z1 := hzb.c1; have zf := hzb.free))
    all_goals
      have hx10 := (Box2.store (x' := .int .i64 k1) (y' := .bool x2n) hzb).block
      obtain ⟨_, _, _, _, _, _, _, hBB⟩ := ‹_ ∧ _ ∧ _ ∧ _ ∧ _ ∧ _ ∧ _ ∧ Below _ _ _›
      obtain ⟨hx8, e0, e1, hbl⟩ := HN.out.held hBB hx10
      have HX8 := Lib.hid hx8
      have HBL := Lib.hid hbl
      clear hx8 hbl HN hx10 hBB
      go_wp2_with (with_reducible refine wpList_store_row (o := Oper.mk none (Op.store 97 (.tmp 8) (.tmp 132)) _ _ _ none) rfl 97 (.tmp 8) (.tmp 132) rfl (w.heap.size + 1) #[.int .i64 k1, .bool x2n] ?ri5bqx ?ri5bqy 97 _ HX8.out ?ri5bqi ?ri5bqo ?ri5bq1 ?ri5bqk)
      case ri5bqx => rfl
      case ri5bqy => rfl
      case ri5bqi => kernel_rfl
      case ri5bqo => rfl
      case ri5bq1 => simp [Value.oneCell']
      go_wp2_with fail
      have hld := box_kt (setRow_heap _ _ _ #[.int .i64 k1, .bool x2n] _ _ HX8.out)
      exact bodyPost_ret (v := .tuple #[.agg #[.int .i64 k1, .bool x2n], .int .i64 0]) (by simp [results, Tryd.results72, Act.put, asAddr, hld]) rfl ⟨rfl, HBL.out.grown (grown_rowT _ _ _) HBL.out.size (fun z hz => by cases hz; omega)⟩
end Go.Proofs.YtmdpjahhhfajaaaDoor
