/-
  The reference's type of a node: if (6). · The reference's type of a node: if.
-/
import Derived.Test.YtmdpjahhhfajaaaDoorJA22
import Derived.Deep.RegionWith
import Derived.Test.YtmdpjahhhfajaaaDoorJA23
import Derived.Test.YtmdpjahhhfajaaaDoorJA24
import Derived.Test.YtmdpjahhhfajaaaDoorJA25
import Derived.Test.YtmdpjahhhfajaaaDoorJA26
import Derived.Test.YtmdpjahhhfajaaaDoorJA27
set_option linter.unusedVariables false
set_option linter.unusedSimpArgs false
set_option maxRecDepth 100000
namespace Go.Proofs.YtmdpjahhhfajaaaDoor
open Go.RowKit Wh
set_option maxHeartbeats 8000000 in
theorem rndI6 (vk vn : Int) (vs nm : ByteArray) (ar : Int) (b off cap : Nat) (x0k x1k x2k k1 : Int) (x0n x2n : Bool) (x2 x3 : Value) (w : World) (hb : b < w.heap.size) (h0 : w.cell? ⟨b, off, none⟩ = some (.int .i64 x0k)) (h1 : w.cell? ⟨b, off + 1, none⟩ = some (.bool x0n)) (h2 : w.cell? ⟨b, off + 2, none⟩ = some (.int .i64 x1k)) (h3 : w.cell? ⟨b, off + 3, none⟩ = some (.bool true)) (h4 : w.cell? ⟨b, off + 4, none⟩ = some (.int .i64 x2k)) (h5 : w.cell? ⟨b, off + 5, none⟩ = some (.bool x2n))
    (CC0 : ∀ W, Calls Tryd.prog 85 #[ktV (x1k, true), ktV (x2k, x2n)] W fun e w' => e = .returned (.tuple #[.int .i64 k1, .bool true]) ∧ Below W.heap.size W w') (CF0 : ∀ W, Calls Tryd.prog 86 #[ktV (x0k, x0n), .int .i64 1] W fun e w' => e = .returned (.bool true) ∧ Below W.heap.size W w') :
    Calls Tryd.prog 72 #[ndV ⟨17, ⟨vk, vn, vs⟩, nm, ar⟩, .slice (some ⟨b, off, none⟩) 3 cap, x2, x3] w fun e w' => e = .returned (.tuple #[ktV (k1, true), .int .i64 0]) ∧ Below w.heap.size w w' := by
  have HN := Lib.hid (NdW.start w ⟨17, ⟨vk, vn, vs⟩, nm, ar⟩)
  have CC := Lib.hid CC0
  have CF := Lib.hid CF0
  clear CC0 CF0
  unfold ndV
  simp only at HN ⊢
  obtain ⟨W0, hW0⟩ : ∃ W0, (((w.alloc (.cells #[.int .i64 17, .int .i64 vk, .int .i64 vn, .string vs, .string nm, .int .i64 ar] 26)).alloc (.cells #[.int .i64 0, .bool false] 97)).alloc (.cells #[.int .i64 0, .bool false] 97)) = W0 := ⟨_, rfl⟩
  rw [hW0] at HN
  have e00' : W0.drew.cell? ⟨b, off, none⟩ = _ := (HN.out.bel.cell (p := ⟨b, off, none⟩) hb).trans h0
  have e01' : W0.drew.cell? ⟨b, off + 1, none⟩ = _ := (HN.out.bel.cell (p := ⟨b, off + 1, none⟩) hb).trans h1
  have e10' : W0.drew.cell? ⟨b, off + 2, none⟩ = _ := (HN.out.bel.cell (p := ⟨b, off + 2, none⟩) hb).trans h2
  have e11' : W0.drew.cell? ⟨b, off + 3, none⟩ = _ := (HN.out.bel.cell (p := ⟨b, off + 3, none⟩) hb).trans h3
  have e20' : W0.drew.cell? ⟨b, off + 4, none⟩ = _ := (HN.out.bel.cell (p := ⟨b, off + 4, none⟩) hb).trans h4
  have e21' : W0.drew.cell? ⟨b, off + 5, none⟩ = _ := (HN.out.bel.cell (p := ⟨b, off + 5, none⟩) hb).trans h5
  have c0' := HN.out.cells.1
  clear h0 h1 h2 h3 h4 h5
  have HW0 := Lib.hid hW0
  clear hW0
  go_enter Tryd.func72, Tryd.ntmps72
  go_wp2_with fail
  rw [HW0.out]
  clear c0'
  have HND := Lib.hid HN.out.drew
  have hN := HN.out.drew
  have hS0 : W0.drew.cell? ⟨w.heap.size, 0, none⟩ = some (.int .i64 17) ∧ W0.drew.cell? ⟨b, off, none⟩ = some (.int .i64 x0k) ∧ W0.drew.cell? ⟨b, off + 1, none⟩ = some (.bool x0n) ∧ W0.drew.cell? ⟨b, off + 2, none⟩ = some (.int .i64 x1k) ∧ W0.drew.cell? ⟨b, off + 3, none⟩ = some (.bool true) ∧ W0.drew.cell? ⟨b, off + 4, none⟩ = some (.int .i64 x2k) ∧ W0.drew.cell? ⟨b, off + 5, none⟩ = some (.bool x2n) ∧ Below (w.heap.size + 1 + 1) W0 W0.drew := ⟨hN.cells.1, e00', e01', e10', e11', e20', e21', (Below.refl _ _).drew⟩
  have hsz := hN.sz
  have hzb : Box2 W0.drew (w.heap.size + 1 + 1) (.int .i64 0) (.bool false) 97 := ⟨hN.h10⟩
  have z0 := hzb.c0
  have z1 := hzb.c1
  have zf := hzb.free
  clear HW0 e00' e01' e10' e11' e20' e21' hN
  go_region_held3 (fun w' => w'.cell? ⟨w.heap.size, 0, none⟩ = some (.int .i64 17) ∧ w'.cell? ⟨b, off, none⟩ = some (.int .i64 x0k) ∧ w'.cell? ⟨b, off + 1, none⟩ = some (.bool x0n) ∧ w'.cell? ⟨b, off + 2, none⟩ = some (.int .i64 x1k) ∧ w'.cell? ⟨b, off + 3, none⟩ = some (.bool true) ∧ w'.cell? ⟨b, off + 4, none⟩ = some (.int .i64 x2k) ∧ w'.cell? ⟨b, off + 5, none⟩ = some (.bool x2n) ∧ Below (w.heap.size + 1 + 1) W0 w')
    (first | with_reducible exact hS0 | exact ndKeep3 hb (by assumption) (hcall.mono (by omega)) | exact ndStore3 hb (by assumption))
    (first | (go_at_call 85; refine (CC.out _).mono ?_; rintro e w' ⟨rfl, hcall⟩; have hsz := Nat.lt_of_lt_of_le hsz hcall.size; have hzb := Box2.keep hzb hcall hzb.lt; have z0 := hzb.c0; have z1 := hzb.c1; have zf := hzb.free))
  all_goals
    obtain ⟨a0, a1, a2, a3, a4, a5, a6, hBB⟩ := ‹_ ∧ _ ∧ _ ∧ _ ∧ _ ∧ _ ∧ _ ∧ Below _ _ _›
    clear hS0
    go_wp2_with fail
    have hS0 : w'.drew.cell? ⟨w.heap.size, 0, none⟩ = some (.int .i64 17) ∧ w'.drew.cell? ⟨b, off, none⟩ = some (.int .i64 x0k) ∧ w'.drew.cell? ⟨b, off + 1, none⟩ = some (.bool x0n) ∧ w'.drew.cell? ⟨b, off + 2, none⟩ = some (.int .i64 x1k) ∧ w'.drew.cell? ⟨b, off + 3, none⟩ = some (.bool true) ∧ w'.drew.cell? ⟨b, off + 4, none⟩ = some (.int .i64 x2k) ∧ w'.drew.cell? ⟨b, off + 5, none⟩ = some (.bool x2n) ∧ Below (w.heap.size + 1 + 1) W0 w'.drew := ⟨a0, a1, a2, a3, a4, a5, a6, hBB.drew⟩
    have hsz : w.heap.size + 1 + 1 < w'.drew.heap.size := hsz
    have hzb : Box2 w'.drew (w.heap.size + 1 + 1) (.int .i64 0) (.bool false) 97 := ⟨hzb.block⟩
    have z0 := hzb.c0
    have z1 := hzb.c1
    have zf := hzb.free
    clear a0 a1 a2 a3 a4 a5 a6 hBB hcall CC
    refine wp_region_held_drew (S := fun w' => w'.cell? ⟨w.heap.size, 0, none⟩ = some (.int .i64 17) ∧ w'.cell? ⟨b, off, none⟩ = some (.int .i64 x0k) ∧ w'.cell? ⟨b, off + 1, none⟩ = some (.bool x0n) ∧ w'.cell? ⟨b, off + 2, none⟩ = some (.int .i64 x1k) ∧ w'.cell? ⟨b, off + 3, none⟩ = some (.bool true) ∧ w'.cell? ⟨b, off + 4, none⟩ = some (.int .i64 x2k) ∧ w'.cell? ⟨b, off + 5, none⟩ = some (.bool x2n) ∧ Below (w.heap.size + 1 + 1) W0 w') (by kernel_rfl) hS0 (fun hHeld => ?_)
    refine wpAnyH_take (i := 0) (v := ?v0ri6) rfl (by kernel_rfl) (by kernel_rfl) (by kernel_rfl) (fun _ _ _ h => h) (Or.inl ⟨by kernel_rfl, ?hy0ri6⟩) hHeld ?rest0ri6
    case hy0ri6 => (intro w hSw; (try dsimp only at hSw); go_simp; try rfl)
    (try simp only [Act.put, List.setIfInBounds_toArray, List.set_cons_zero, List.set_cons_succ])
    refine wpAnyH_take (i := 1) (v := ?v1ri6) rfl (by kernel_rfl) (by kernel_rfl) (by kernel_rfl) (fun _ _ _ h => h) (Or.inl ⟨by kernel_rfl, ?hy1ri6⟩) hHeld ?rest1ri6
    case hy1ri6 => (intro w hSw; (try dsimp only at hSw); go_simp; try rfl)
    (try simp only [Act.put, List.setIfInBounds_toArray, List.set_cons_zero, List.set_cons_succ])
    refine wpAnyH_take (i := 2) (v := ?v2ri6) rfl (by kernel_rfl) (by kernel_rfl) (by kernel_rfl) (fun _ _ _ h => h) (Or.inl ⟨by kernel_rfl, ?hy2ri6⟩) hHeld ?rest2ri6
    case hy2ri6 => (intro w hSw; (try dsimp only at hSw); go_simp; try rfl)
    (try simp only [Act.put, List.setIfInBounds_toArray, List.set_cons_zero, List.set_cons_succ])
    refine wpAnyH_take (i := 3) (v := ?v3ri6) rfl (by kernel_rfl) (by kernel_rfl) (by kernel_rfl) (fun _ _ _ h => h) (Or.inl ⟨by kernel_rfl, ?hy3ri6⟩) hHeld ?rest3ri6
    case hy3ri6 => (intro w hSw; (try dsimp only at hSw); go_simp; try rfl)
    (try simp only [Act.put, List.setIfInBounds_toArray, List.set_cons_zero, List.set_cons_succ])
    refine wpAnyH_take (i := 4) (v := ?v4ri6) rfl (by kernel_rfl) (by kernel_rfl) (by kernel_rfl) (fun _ _ _ h => h) (Or.inl ⟨by kernel_rfl, ?hy4ri6⟩) hHeld ?rest4ri6
    case hy4ri6 => (intro w hSw; (try dsimp only at hSw); go_simp; try rfl)
    (try simp only [Act.put, List.setIfInBounds_toArray, List.set_cons_zero, List.set_cons_succ])
    refine wpAnyH_take (i := 5) (v := ?v5ri6) rfl (by kernel_rfl) (by kernel_rfl) (by kernel_rfl) (fun _ _ _ h => h) (Or.inl ⟨by kernel_rfl, ?hy5ri6⟩) hHeld ?rest5ri6
    case hy5ri6 => (intro w hSw; (try dsimp only at hSw); go_simp; try rfl)
    (try simp only [Act.put, List.setIfInBounds_toArray, List.set_cons_zero, List.set_cons_succ])
    refine wpAnyH_take (i := 6) (v := undef) rfl (by kernel_rfl) (by kernel_rfl) (by kernel_rfl) (fun _ _ _ h => h) (Or.inr ⟨by kernel_rfl, rfl⟩) hHeld ?_
    (try simp only [Act.put, List.setIfInBounds_toArray, List.set_cons_zero, List.set_cons_succ])
    refine wpAnyH_take (i := 7) (v := undef) rfl (by kernel_rfl) (by kernel_rfl) (by kernel_rfl) (fun _ _ _ h => h) (Or.inr ⟨by kernel_rfl, rfl⟩) hHeld ?_
    (try simp only [Act.put, List.setIfInBounds_toArray, List.set_cons_zero, List.set_cons_succ])
    refine wpAnyH_take (i := 8) (v := undef) rfl (by kernel_rfl) (by kernel_rfl) (by kernel_rfl) (fun _ _ _ h => h) (Or.inr ⟨by kernel_rfl, rfl⟩) hHeld ?_
    (try simp only [Act.put, List.setIfInBounds_toArray, List.set_cons_zero, List.set_cons_succ])
    refine wpAnyH_take (i := 9) (v := undef) rfl (by kernel_rfl) (by kernel_rfl) (by kernel_rfl) (fun _ _ _ h => h) (Or.inr ⟨by kernel_rfl, rfl⟩) hHeld ?_
    (try simp only [Act.put, List.setIfInBounds_toArray, List.set_cons_zero, List.set_cons_succ])
    refine wpAnyH_take (i := 10) (v := ?v10ri6) rfl (by kernel_rfl) (by kernel_rfl) (by kernel_rfl) (fun _ _ _ h => h) (Or.inl ⟨by kernel_rfl, ?hy10ri6⟩) hHeld ?rest10ri6
    case hy10ri6 => (intro w hSw; (try dsimp only at hSw); go_simp; try rfl)
    (try simp only [Act.put, List.setIfInBounds_toArray, List.set_cons_zero, List.set_cons_succ])
    refine wpAnyH_take (i := 11) (v := ?v11ri6) rfl (by kernel_rfl) (by kernel_rfl) (by kernel_rfl) (fun _ _ _ h => h) (Or.inl ⟨by kernel_rfl, ?hy11ri6⟩) hHeld ?rest11ri6
    case hy11ri6 => (intro w hSw; (try dsimp only at hSw); go_simp; try rfl)
    (try simp only [Act.put, List.setIfInBounds_toArray, List.set_cons_zero, List.set_cons_succ])
    refine wpAnyH_take (i := 12) (v := ?v12ri6) rfl (by kernel_rfl) (by kernel_rfl) (by kernel_rfl) (fun _ _ _ h => h) (Or.inl ⟨by kernel_rfl, ?hy12ri6⟩) hHeld ?rest12ri6
    case hy12ri6 => (intro w hSw; (try dsimp only at hSw); go_simp; try rfl)
    (try simp only [Act.put, List.setIfInBounds_toArray, List.set_cons_zero, List.set_cons_succ])
    refine wpAnyH_take (i := 13) (v := ?v13ri6) rfl (by kernel_rfl) (by kernel_rfl) (by kernel_rfl) (fun _ _ _ h => h) (Or.inl ⟨by kernel_rfl, ?hy13ri6⟩) hHeld ?rest13ri6
    case hy13ri6 => (intro w hSw; (try dsimp only at hSw); go_simp; try rfl)
    (try simp only [Act.put, List.setIfInBounds_toArray, List.set_cons_zero, List.set_cons_succ])
    refine wpAnyH_take (i := 14) (v := ?v14ri6) rfl (by kernel_rfl) (by kernel_rfl) (by kernel_rfl) (fun _ _ _ h => h) (Or.inl ⟨by kernel_rfl, ?hy14ri6⟩) hHeld ?rest14ri6
    case hy14ri6 => (intro w hSw; (try dsimp only at hSw); go_simp; try rfl)
    (try simp only [Act.put, List.setIfInBounds_toArray, List.set_cons_zero, List.set_cons_succ])
    refine wpAnyH_take (i := 15) (v := ?v15ri6) rfl (by kernel_rfl) (by kernel_rfl) (by kernel_rfl) (fun _ _ _ h => h) (Or.inl ⟨by kernel_rfl, ?hy15ri6⟩) hHeld ?rest15ri6
    case hy15ri6 => (intro w hSw; (try dsimp only at hSw); go_simp; try rfl)
    (try simp only [Act.put, List.setIfInBounds_toArray, List.set_cons_zero, List.set_cons_succ])
    refine wpAnyH_take (i := 16) (v := ?v16ri6) rfl (by kernel_rfl) (by kernel_rfl) (by kernel_rfl) (fun _ _ _ h => h) (Or.inl ⟨by kernel_rfl, ?hy16ri6⟩) hHeld ?rest16ri6
    case hy16ri6 => (intro w hSw; (try dsimp only at hSw); go_simp; try rfl)
    (try simp only [Act.put, List.setIfInBounds_toArray, List.set_cons_zero, List.set_cons_succ])
    refine wpAnyH_ready (rs := [17]) (by kernel_rfl) (by simp) ?_
    refine AllReadyH.cons (o := _) rfl (fun K hK => ?_) AllReadyH.nil
    go_simp
    go_at_call 86
    refine (CF.out _).mono ?_
    rintro e w' ⟨rfl, hcall⟩
    have hKS := ndKeep3 hb hHeld (hcall.mono (by omega))
    have hsz := Nat.lt_of_lt_of_le hsz hcall.size; have hzb := Box2.keep hzb hcall hzb.lt; have z0 := hzb.c0; have z1 := hzb.c1; have zf := hzb.free
    go_wp2_with fail
    refine hK.out _ _ hKS (fun hHeld => ?_)
    clear hK K
    (try simp only [Act.put, List.setIfInBounds_toArray, List.set_cons_zero, List.set_cons_succ])
    refine wpAnyH_take (i := 18) (v := ?v18ri6) rfl (by kernel_rfl) (by kernel_rfl) (by kernel_rfl) (fun _ _ _ h => h) (Or.inl ⟨by kernel_rfl, ?hy18ri6⟩) hHeld ?rest18ri6
    case hy18ri6 => (intro w hSw; (try dsimp only at hSw); go_simp; try rfl)
    (try simp only [Act.put, List.setIfInBounds_toArray, List.set_cons_zero, List.set_cons_succ])
    refine wpAnyH_ready (rs := [19]) (by kernel_rfl) (by simp) ?_
    refine AllReadyH.cons (o := _) rfl (fun K hK => ?_) AllReadyH.nil
    go_simp
    refine hK.out _ _ (ndStore3 hb hHeld) (fun hHeld => ?_)
    clear hK K
    (try simp only [Act.put, List.setIfInBounds_toArray, List.set_cons_zero, List.set_cons_succ])
    refine wpAnyH_take (i := 20) (v := ?v20ri6) rfl (by kernel_rfl) (by kernel_rfl) (by kernel_rfl) (fun _ _ _ h => h) (Or.inl ⟨by kernel_rfl, ?hy20ri6⟩) hHeld ?rest20ri6
    case hy20ri6 => (intro w hSw; (try dsimp only at hSw); go_simp; try rfl)
    (try simp only [Act.put, List.setIfInBounds_toArray, List.set_cons_zero, List.set_cons_succ])
    refine wpAnyH_done (by kernel_rfl) ?_ _
    all_goals
      have hx10 := (Box2.store (x' := .int .i64 k1) (y' := .bool true) hzb).block
      obtain ⟨_, _, _, _, _, _, _, hBB⟩ := ‹_ ∧ _ ∧ _ ∧ _ ∧ _ ∧ _ ∧ _ ∧ Below _ _ _›
      obtain ⟨hx8, e0, e1, hbl⟩ := HN.out.held hBB hx10
      have HX8 := Lib.hid hx8
      have HBL := Lib.hid hbl
      clear hx8 hbl HN hx10 hBB
      go_wp2_with (with_reducible refine wpList_store_row (o := Oper.mk none (Op.store 97 (.tmp 8) (.tmp 132)) _ _ _ none) rfl 97 (.tmp 8) (.tmp 132) rfl (w.heap.size + 1) #[.int .i64 k1, .bool true] ?ri6bqx ?ri6bqy 97 _ HX8.out ?ri6bqi ?ri6bqo ?ri6bq1 ?ri6bqk)
      case ri6bqx => rfl
      case ri6bqy => rfl
      case ri6bqi => kernel_rfl
      case ri6bqo => rfl
      case ri6bq1 => simp [Value.oneCell']
      go_wp2_with fail
      have hld := box_kt (setRow_heap _ _ _ #[.int .i64 k1, .bool true] _ _ HX8.out)
      exact bodyPost_ret (v := .tuple #[.agg #[.int .i64 k1, .bool true], .int .i64 0]) (by simp [results, Tryd.results72, Act.put, asAddr, hld]) rfl ⟨rfl, HBL.out.grown (grown_rowT _ _ _) HBL.out.size (fun z hz => by cases hz; omega)⟩
end Go.Proofs.YtmdpjahhhfajaaaDoor
namespace Go.Proofs.YtmdpjahhhfajaaaDoor
open Go.RowKit Wh
theorem rndI (t : Nd) (b off cap : Nat) (x y z : KT) (x2 x3 : Value) (w : World) (h : t.op = 17) (hb : b < w.heap.size) (h0 : w.cell? ⟨b, off, none⟩ = some (.int .i64 x.1)) (h1 : w.cell? ⟨b, off + 1, none⟩ = some (.bool x.2)) (h2 : w.cell? ⟨b, off + 2, none⟩ = some (.int .i64 y.1)) (h3 : w.cell? ⟨b, off + 3, none⟩ = some (.bool y.2)) (h4 : w.cell? ⟨b, off + 4, none⟩ = some (.int .i64 z.1)) (h5 : w.cell? ⟨b, off + 5, none⟩ = some (.bool z.2)) : Calls Tryd.prog 72 #[ndV t, .slice (some ⟨b, off, none⟩) 3 cap, x2, x3] w fun e w' => e = .returned (if ((comT y z).2 && fitB x 1) then .tuple #[ktV ((comT y z).1, y.2 || z.2), .int .i64 0] else .tuple #[ktV (0, false), .int .i64 7]) ∧ Below w.heap.size w w' := by
  have CC := fun W => common_any y z W
  have CF := fun W => fits_any x 1 W
  obtain ⟨op, ⟨vk, vn, vs⟩, nm, ar⟩ := t
  generalize comT y z = D at *
  generalize fitB x 1 = q at *
  obtain ⟨x0k, x0n⟩ := x
  obtain ⟨x1k, x1n⟩ := y
  obtain ⟨x2k, x2n⟩ := z
  obtain ⟨k1, cok⟩ := D
  simp only at h CC h0 h1 h2 h3 h4 h5 ⊢
  subst h
  cases cok
  · cases x1n
    · cases q
      · exact rndI1 vk vn vs nm ar b off cap x0k x1k x2k k1 x0n x2n x2 x3 w hb h0 h1 h2 h3 h4 h5 CC
      · exact rndI1 vk vn vs nm ar b off cap x0k x1k x2k k1 x0n x2n x2 x3 w hb h0 h1 h2 h3 h4 h5 CC
    · cases q
      · exact rndI2 vk vn vs nm ar b off cap x0k x1k x2k k1 x0n x2n x2 x3 w hb h0 h1 h2 h3 h4 h5 CC
      · exact rndI2 vk vn vs nm ar b off cap x0k x1k x2k k1 x0n x2n x2 x3 w hb h0 h1 h2 h3 h4 h5 CC
  · cases q
    · cases x1n
      · exact rndI3 vk vn vs nm ar b off cap x0k x1k x2k k1 x0n x2n x2 x3 w hb h0 h1 h2 h3 h4 h5 CC CF
      · exact rndI4 vk vn vs nm ar b off cap x0k x1k x2k k1 x0n x2n x2 x3 w hb h0 h1 h2 h3 h4 h5 CC CF
    · cases x1n
      · exact rndI5 vk vn vs nm ar b off cap x0k x1k x2k k1 x0n x2n x2 x3 w hb h0 h1 h2 h3 h4 h5 CC CF
      · exact rndI6 vk vn vs nm ar b off cap x0k x1k x2k k1 x0n x2n x2 x3 w hb h0 h1 h2 h3 h4 h5 CC CF
end Go.Proofs.YtmdpjahhhfajaaaDoor
