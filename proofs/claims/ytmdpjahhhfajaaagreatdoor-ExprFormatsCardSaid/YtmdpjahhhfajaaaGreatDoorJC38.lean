/-
  The reference's type of a node: day, if. · The reference's type of a node: if (1).
-/
import Derived.Test.YtmdpjahhhfajaaaGreatDoorJC37
import Derived.Deep.RegionWith
set_option linter.unusedVariables false
set_option linter.unusedSimpArgs false
set_option maxRecDepth 100000
namespace Go.Proofs.YtmdpjahhhfajaaaGreatDoor
open Go.RowKit Wh
set_option maxHeartbeats 4000000 in
theorem rndD (t : Nd) (b off cap zb s1 s2 i : Nat) (x : KT) (x2 : Value) (w : World) (h : t.op = 20) (hi : i < 3) (hnm : t.nm = zNm i) (hZ : ZonesX w zb s1 s2) (hb : b < w.heap.size) (h0 : w.cell? ⟨b, off, none⟩ = some (.int .i64 x.1)) (h1 : w.cell? ⟨b, off + 1, none⟩ = some (.bool x.2)) : Calls Tryz.prog 124 #[ndV t, .slice (some ⟨b, off, none⟩) 1 cap, x2, .slice (some ⟨zb, 0, none⟩) 3 3] w fun e w' => e = .returned (if (unaT t.op x).2 then .tuple #[ktV (unaT t.op x).1, .int .i64 0] else .tuple #[ktV (0, false), .int .i64 7]) ∧ Below w.heap.size w w' := by
 have HN := Lib.hid (NdW.start w t)
 have CU := Lib.hid (fun W => unary_any t.op x W)
 have CZ := Lib.hid (fun W (h : ZonesX W zb s1 s2) => rzone_any zb s1 s2 i hi W h)
 obtain ⟨op, ⟨vk, vn, vs⟩, nm, ar⟩ := t
 obtain ⟨x0k, x0n⟩ := x
 unfold ndV
 simp only at h hnm HN CU h0 h1 ⊢
 subst h
 subst hnm
 generalize unaT 20 (x0k, x0n) = D at *
 obtain ⟨⟨k1, n1⟩, q⟩ := D
 simp only at CU ⊢
 obtain ⟨sa, sl, sc, hsh⟩ : ∃ sa sl sc, zSh s1 s2 i = .slice sa sl sc := by
  unfold zSh
  repeat' split
  all_goals exact ⟨_, _, _, rfl⟩
 rw [hsh] at CZ
 clear hsh hi
 generalize zOf i = zo at *
 generalize zNm i = nm at *
 cases q
 ·simp only [Bool.false_eq_true, if_false, if_true]
  obtain ⟨W0, hW0⟩ : ∃ W0, (((w.alloc (.cells #[.int .i64 20, .int .i64 vk, .int .i64 vn, .string vs, .string nm, .int .i64 ar] 53)).alloc (.cells #[.int .i64 0, .bool false] 146)).alloc (.cells #[.int .i64 0, .bool false] 146)) = W0 := ⟨_, rfl⟩
  rw [hW0] at HN
  have hZW := Lib.hid (hZ.below HN.out.bel (Nat.le_refl _))
  have e00' : W0.cell? ⟨b, off, none⟩ = _ := (HN.out.bel.cell (p := ⟨b, off, none⟩) hb).trans h0
  have e01' : W0.cell? ⟨b, off + 1, none⟩ = _ := (HN.out.bel.cell (p := ⟨b, off + 1, none⟩) hb).trans h1
  have HE0 := Lib.hid e00'
  have HE1 := Lib.hid e01'
  have c4' := HN.out.cells.2
  clear h0 h1 hZ e00' e01'
  have HW0 := Lib.hid hW0
  clear hW0
  go_enter Tryz.func124, Tryz.ntmps124
  go_wp2_with fail
  rw [HW0.out]
  refine (CZ.out _ hZW.out).mono ?_
  rintro e v1 ⟨rfl, hb1⟩
  have hv0 := HN.out.sz
  have hv1 := hb1.size
  have HNA := Lib.hid ((HN.out.keep hb1).keep ((Below.refl _ _).alloc (Nat.le_refl _) (.cells #[.string nm, .int .i64 zo, .slice sa sl sc] 143)))
  have c0' := HNA.out.cells.1
  have e00' : (v1.alloc (.cells #[.string nm, .int .i64 zo, .slice sa sl sc] 143)).cell? ⟨b, off, none⟩ = some (.int .i64 x0k) := by
   rw [((Below.refl v1.heap.size v1).alloc (Nat.le_refl _) _).cell (p := ⟨b, off, none⟩) (by show b < _; omega), hb1.cell (p := ⟨b, off, none⟩) (by show b < _; omega)]
   exact HE0.out
  have e01' : (v1.alloc (.cells #[.string nm, .int .i64 zo, .slice sa sl sc] 143)).cell? ⟨b, off + 1, none⟩ = some (.bool x0n) := by
   rw [((Below.refl v1.heap.size v1).alloc (Nat.le_refl _) _).cell (p := ⟨b, off + 1, none⟩) (by show b < _; omega), hb1.cell (p := ⟨b, off + 1, none⟩) (by show b < _; omega)]
   exact HE1.out
  have HE0 := Lib.hid e00'
  have HE1 := Lib.hid e01'
  obtain ⟨W0', hW0'⟩ : ∃ W0', (v1.alloc (.cells #[.string nm, .int .i64 zo, .slice sa sl sc] 143)) = W0' := ⟨_, rfl⟩
  rw [hW0'] at HNA HE0 HE1
  have HW0' := Lib.hid hW0'
  clear CZ hZW HW0 hb1 HN c4' e00' e01' hW0' c0'
  go_wp2_with fail
  rw [HW0'.out]
  clear HW0'
  have HN := HNA
  have HW0 := HN
  have e00' : W0'.drew.cell? ⟨b, off, none⟩ = _ := HE0.out
  have e01' : W0'.drew.cell? ⟨b, off + 1, none⟩ = _ := HE1.out
  have HND := Lib.hid HN.out.drew
  have hN := HN.out.drew
  have hS0 : W0'.drew.cell? ⟨w.heap.size, 0, none⟩ = some (.int .i64 20) ∧ W0'.drew.cell? ⟨b, off, none⟩ = some (.int .i64 x0k) ∧ W0'.drew.cell? ⟨b, off + 1, none⟩ = some (.bool x0n) ∧ Below (w.heap.size + 1 + 1) W0' W0'.drew := ⟨hN.cells.1, e00', e01', (Below.refl _ _).drew⟩
  have hsz := hN.sz
  have hzb : Box2 W0'.drew (w.heap.size + 1 + 1) (.int .i64 0) (.bool false) 146 := ⟨hN.h10⟩
  have z0 := hzb.c0
  have z1 := hzb.c1
  have zf := hzb.free
  clear HW0 e00' e01' hN
  go_region_held3 (fun w' => w'.cell? ⟨w.heap.size, 0, none⟩ = some (.int .i64 20) ∧ w'.cell? ⟨b, off, none⟩ = some (.int .i64 x0k) ∧ w'.cell? ⟨b, off + 1, none⟩ = some (.bool x0n) ∧ Below (w.heap.size + 1 + 1) W0' w')
   (first | with_reducible exact hS0 | exact ndKeep1 hb (by assumption) (hcall.mono (by omega)) | exact ndStore1 hb (by assumption))
   (first | (go_at_call 157; refine (CU.out _).mono ?_; rintro e w' ⟨rfl, hcall⟩; have hsz := Nat.lt_of_lt_of_le hsz hcall.size; have hzb := Box2.keep hzb hcall hzb.lt; have z0 := hzb.c0; have z1 := hzb.c1; have zf := hzb.free))
  all_goals
   have hx10 := (Box2.store (x' := .int .i64 k1) (y' := .bool n1) hzb).block
   obtain ⟨_, _, _, hBB⟩ := ‹_ ∧ _ ∧ _ ∧ Below _ _ _›
   obtain ⟨hx8, e0, e1, hbl⟩ := HN.out.held hBB hx10
   have HX8 := Lib.hid hx8
   have HBL := Lib.hid hbl
   clear hx8 hbl HN hx10 hBB
   go_wp2_with (with_reducible refine wpList_store_row (o := Oper.mk none (Op.store 146 (.tmp 8) (.tmp 131)) _ _ _ none) rfl 146 (.tmp 8) (.tmp 131) rfl (w.heap.size + 1) #[.int .i64 0, .bool false] ?rndDfbqx ?rndDfbqy 146 _ HX8.out ?rndDfbqi ?rndDfbqo ?rndDfbq1 ?rndDfbqk)
   case rndDfbqx => rfl
   case rndDfbqy => rfl
   case rndDfbqi => kernel_rfl
   case rndDfbqo => rfl
   case rndDfbq1 => simp [Value.oneCell']
   go_wp2_with fail
   have hld := box_kt (setRow_heap _ _ _ #[.int .i64 0, .bool false] _ _ HX8.out)
   exact bodyPost_ret (v := .tuple #[.agg #[.int .i64 0, .bool false], .int .i64 7]) (by simp [results, Tryz.results124, Act.put, asAddr, hld]) rfl ⟨rfl, HBL.out.grown (grown_rowT _ _ _) HBL.out.size (fun z hz => by cases hz; omega)⟩
 ·simp only [Bool.false_eq_true, if_false, if_true]
  obtain ⟨W0, hW0⟩ : ∃ W0, (((w.alloc (.cells #[.int .i64 20, .int .i64 vk, .int .i64 vn, .string vs, .string nm, .int .i64 ar] 53)).alloc (.cells #[.int .i64 0, .bool false] 146)).alloc (.cells #[.int .i64 0, .bool false] 146)) = W0 := ⟨_, rfl⟩
  rw [hW0] at HN
  have hZW := Lib.hid (hZ.below HN.out.bel (Nat.le_refl _))
  have e00' : W0.cell? ⟨b, off, none⟩ = _ := (HN.out.bel.cell (p := ⟨b, off, none⟩) hb).trans h0
  have e01' : W0.cell? ⟨b, off + 1, none⟩ = _ := (HN.out.bel.cell (p := ⟨b, off + 1, none⟩) hb).trans h1
  have HE0 := Lib.hid e00'
  have HE1 := Lib.hid e01'
  have c4' := HN.out.cells.2
  clear h0 h1 hZ e00' e01'
  have HW0 := Lib.hid hW0
  clear hW0
  go_enter Tryz.func124, Tryz.ntmps124
  go_wp2_with fail
  rw [HW0.out]
  refine (CZ.out _ hZW.out).mono ?_
  rintro e v1 ⟨rfl, hb1⟩
  have hv0 := HN.out.sz
  have hv1 := hb1.size
  have HNA := Lib.hid ((HN.out.keep hb1).keep ((Below.refl _ _).alloc (Nat.le_refl _) (.cells #[.string nm, .int .i64 zo, .slice sa sl sc] 143)))
  have c0' := HNA.out.cells.1
  have e00' : (v1.alloc (.cells #[.string nm, .int .i64 zo, .slice sa sl sc] 143)).cell? ⟨b, off, none⟩ = some (.int .i64 x0k) := by
   rw [((Below.refl v1.heap.size v1).alloc (Nat.le_refl _) _).cell (p := ⟨b, off, none⟩) (by show b < _; omega), hb1.cell (p := ⟨b, off, none⟩) (by show b < _; omega)]
   exact HE0.out
  have e01' : (v1.alloc (.cells #[.string nm, .int .i64 zo, .slice sa sl sc] 143)).cell? ⟨b, off + 1, none⟩ = some (.bool x0n) := by
   rw [((Below.refl v1.heap.size v1).alloc (Nat.le_refl _) _).cell (p := ⟨b, off + 1, none⟩) (by show b < _; omega), hb1.cell (p := ⟨b, off + 1, none⟩) (by show b < _; omega)]
   exact HE1.out
  have HE0 := Lib.hid e00'
  have HE1 := Lib.hid e01'
  obtain ⟨W0', hW0'⟩ : ∃ W0', (v1.alloc (.cells #[.string nm, .int .i64 zo, .slice sa sl sc] 143)) = W0' := ⟨_, rfl⟩
  rw [hW0'] at HNA HE0 HE1
  have HW0' := Lib.hid hW0'
  clear CZ hZW HW0 hb1 HN c4' e00' e01' hW0' c0'
  go_wp2_with fail
  rw [HW0'.out]
  clear HW0'
  have HN := HNA
  have HW0 := HN
  have e00' : W0'.drew.cell? ⟨b, off, none⟩ = _ := HE0.out
  have e01' : W0'.drew.cell? ⟨b, off + 1, none⟩ = _ := HE1.out
  have HND := Lib.hid HN.out.drew
  have hN := HN.out.drew
  have hS0 : W0'.drew.cell? ⟨w.heap.size, 0, none⟩ = some (.int .i64 20) ∧ W0'.drew.cell? ⟨b, off, none⟩ = some (.int .i64 x0k) ∧ W0'.drew.cell? ⟨b, off + 1, none⟩ = some (.bool x0n) ∧ Below (w.heap.size + 1 + 1) W0' W0'.drew := ⟨hN.cells.1, e00', e01', (Below.refl _ _).drew⟩
  have hsz := hN.sz
  have hzb : Box2 W0'.drew (w.heap.size + 1 + 1) (.int .i64 0) (.bool false) 146 := ⟨hN.h10⟩
  have z0 := hzb.c0
  have z1 := hzb.c1
  have zf := hzb.free
  clear HW0 e00' e01' hN
  go_region_held3 (fun w' => w'.cell? ⟨w.heap.size, 0, none⟩ = some (.int .i64 20) ∧ w'.cell? ⟨b, off, none⟩ = some (.int .i64 x0k) ∧ w'.cell? ⟨b, off + 1, none⟩ = some (.bool x0n) ∧ Below (w.heap.size + 1 + 1) W0' w')
   (first | with_reducible exact hS0 | exact ndKeep1 hb (by assumption) (hcall.mono (by omega)) | exact ndStore1 hb (by assumption))
   (first | (go_at_call 157; refine (CU.out _).mono ?_; rintro e w' ⟨rfl, hcall⟩; have hsz := Nat.lt_of_lt_of_le hsz hcall.size; have hzb := Box2.keep hzb hcall hzb.lt; have z0 := hzb.c0; have z1 := hzb.c1; have zf := hzb.free))
  all_goals
   have hx10 := (Box2.store (x' := .int .i64 k1) (y' := .bool n1) hzb).block
   obtain ⟨_, _, _, hBB⟩ := ‹_ ∧ _ ∧ _ ∧ Below _ _ _›
   obtain ⟨hx8, e0, e1, hbl⟩ := HN.out.held hBB hx10
   have HX8 := Lib.hid hx8
   have HBL := Lib.hid hbl
   clear hx8 hbl HN hx10 hBB
   go_wp2_with (with_reducible refine wpList_store_row (o := Oper.mk none (Op.store 146 (.tmp 8) (.tmp 132)) _ _ _ none) rfl 146 (.tmp 8) (.tmp 132) rfl (w.heap.size + 1) #[.int .i64 k1, .bool n1] ?rndDtbqx ?rndDtbqy 146 _ HX8.out ?rndDtbqi ?rndDtbqo ?rndDtbq1 ?rndDtbqk)
   case rndDtbqx => rfl
   case rndDtbqy => rfl
   case rndDtbqi => kernel_rfl
   case rndDtbqo => rfl
   case rndDtbq1 => simp [Value.oneCell']
   go_wp2_with fail
   have hld := box_kt (setRow_heap _ _ _ #[.int .i64 k1, .bool n1] _ _ HX8.out)
   exact bodyPost_ret (v := .tuple #[.agg #[.int .i64 k1, .bool n1], .int .i64 0]) (by simp [results, Tryz.results124, Act.put, asAddr, hld]) rfl ⟨rfl, HBL.out.grown (grown_rowT _ _ _) HBL.out.size (fun z hz => by cases hz; omega)⟩
end Go.Proofs.YtmdpjahhhfajaaaGreatDoor
namespace Go.Proofs.YtmdpjahhhfajaaaGreatDoor
open Go.RowKit Wh
set_option maxHeartbeats 8000000 in
theorem rndI1 (vk vn : Int) (vs nm : ByteArray) (ar : Int) (b off cap : Nat) (x0k x1k x2k k1 : Int) (x0n x2n : Bool) (x2 x3 : Value) (w : World) (hb : b < w.heap.size) (h0 : w.cell? ⟨b, off, none⟩ = some (.int .i64 x0k)) (h1 : w.cell? ⟨b, off + 1, none⟩ = some (.bool x0n)) (h2 : w.cell? ⟨b, off + 2, none⟩ = some (.int .i64 x1k)) (h3 : w.cell? ⟨b, off + 3, none⟩ = some (.bool false)) (h4 : w.cell? ⟨b, off + 4, none⟩ = some (.int .i64 x2k)) (h5 : w.cell? ⟨b, off + 5, none⟩ = some (.bool x2n))
  (CC0 : ∀ W, Calls Tryz.prog 154 #[ktV (x1k, false), ktV (x2k, x2n)] W fun e w' => e = .returned (.tuple #[.int .i64 k1, .bool false]) ∧ Below W.heap.size W w') :
  Calls Tryz.prog 124 #[ndV ⟨17, ⟨vk, vn, vs⟩, nm, ar⟩, .slice (some ⟨b, off, none⟩) 3 cap, x2, x3] w fun e w' => e = .returned (.tuple #[ktV (0, false), .int .i64 7]) ∧ Below w.heap.size w w' := by
 have HN := Lib.hid (NdW.start w ⟨17, ⟨vk, vn, vs⟩, nm, ar⟩)
 have CC := Lib.hid CC0
 clear CC0
 unfold ndV
 simp only at HN ⊢
 obtain ⟨W0, hW0⟩ : ∃ W0, (((w.alloc (.cells #[.int .i64 17, .int .i64 vk, .int .i64 vn, .string vs, .string nm, .int .i64 ar] 53)).alloc (.cells #[.int .i64 0, .bool false] 146)).alloc (.cells #[.int .i64 0, .bool false] 146)) = W0 := ⟨_, rfl⟩
 rw [hW0] at HN
 have e00' : W0.drew.cell? ⟨b, off, none⟩ = _ := (HN.out.bel.cell (p := ⟨b, off, none⟩) hb).trans h0
 have e01' : W0.drew.cell? ⟨b, off + 1, none⟩ = _ := (HN.out.bel.cell (p := ⟨b, off + 1, none⟩) hb).trans h1
 have e10' : W0.drew.cell? ⟨b, off + 2, none⟩ = _ := (HN.out.bel.cell (p := ⟨b, off + 2, none⟩) hb).trans h2
 have e11' : W0.drew.cell? ⟨b, off + 3, none⟩ = _ := (HN.out.bel.cell (p := ⟨b, off + 3, none⟩) hb).trans h3
 have e20' : W0.drew.cell? ⟨b, off + 4, none⟩ = _ := (HN.out.bel.cell (p := ⟨b, off + 4, none⟩) hb).trans h4
 have e21' : W0.drew.cell? ⟨b, off + 5, none⟩ = _ := (HN.out.bel.cell (p := ⟨b, off + 5, none⟩) hb).trans h5
 have c0' := HN.out.cells.1
 clear h0 h1 h2 h3 h4 h5
 have HW0 := Lib.hid hW0
 clear hW0
 go_enter Tryz.func124, Tryz.ntmps124
 go_wp2_with fail
 rw [HW0.out]
 clear c0'
 have HND := Lib.hid HN.out.drew
 have hN := HN.out.drew
 have hS0 : W0.drew.cell? ⟨w.heap.size, 0, none⟩ = some (.int .i64 17) ∧ W0.drew.cell? ⟨b, off, none⟩ = some (.int .i64 x0k) ∧ W0.drew.cell? ⟨b, off + 1, none⟩ = some (.bool x0n) ∧ W0.drew.cell? ⟨b, off + 2, none⟩ = some (.int .i64 x1k) ∧ W0.drew.cell? ⟨b, off + 3, none⟩ = some (.bool false) ∧ W0.drew.cell? ⟨b, off + 4, none⟩ = some (.int .i64 x2k) ∧ W0.drew.cell? ⟨b, off + 5, none⟩ = some (.bool x2n) ∧ Below (w.heap.size + 1 + 1) W0 W0.drew := ⟨hN.cells.1, e00', e01', e10', e11', e20', e21', (Below.refl _ _).drew⟩
 have hsz := hN.sz
 have hzb : Box2 W0.drew (w.heap.size + 1 + 1) (.int .i64 0) (.bool false) 146 := ⟨hN.h10⟩
 have z0 := hzb.c0
 have z1 := hzb.c1
 have zf := hzb.free
 clear HW0 e00' e01' e10' e11' e20' e21' hN
 go_region_held3 (fun w' => w'.cell? ⟨w.heap.size, 0, none⟩ = some (.int .i64 17) ∧ w'.cell? ⟨b, off, none⟩ = some (.int .i64 x0k) ∧ w'.cell? ⟨b, off + 1, none⟩ = some (.bool x0n) ∧ w'.cell? ⟨b, off + 2, none⟩ = some (.int .i64 x1k) ∧ w'.cell? ⟨b, off + 3, none⟩ = some (.bool false) ∧ w'.cell? ⟨b, off + 4, none⟩ = some (.int .i64 x2k) ∧ w'.cell? ⟨b, off + 5, none⟩ = some (.bool x2n) ∧ Below (w.heap.size + 1 + 1) W0 w')
  (first | with_reducible exact hS0 | exact ndKeep3 hb (by assumption) (hcall.mono (by omega)) | exact ndStore3 hb (by assumption))
  (first | (go_at_call 154; refine (CC.out _).mono ?_; rintro e w' ⟨rfl, hcall⟩; have hsz := Nat.lt_of_lt_of_le hsz hcall.size; have hzb := Box2.keep hzb hcall hzb.lt; have z0 := hzb.c0; have z1 := hzb.c1; have zf := hzb.free))
 all_goals
  obtain ⟨a0, a1, a2, a3, a4, a5, a6, hBB⟩ := ‹_ ∧ _ ∧ _ ∧ _ ∧ _ ∧ _ ∧ _ ∧ Below _ _ _›
  clear hS0
  go_wp2_with fail
  have hS0 : w'.drew.cell? ⟨w.heap.size, 0, none⟩ = some (.int .i64 17) ∧ w'.drew.cell? ⟨b, off, none⟩ = some (.int .i64 x0k) ∧ w'.drew.cell? ⟨b, off + 1, none⟩ = some (.bool x0n) ∧ w'.drew.cell? ⟨b, off + 2, none⟩ = some (.int .i64 x1k) ∧ w'.drew.cell? ⟨b, off + 3, none⟩ = some (.bool false) ∧ w'.drew.cell? ⟨b, off + 4, none⟩ = some (.int .i64 x2k) ∧ w'.drew.cell? ⟨b, off + 5, none⟩ = some (.bool x2n) ∧ Below (w.heap.size + 1 + 1) W0 w'.drew := ⟨a0, a1, a2, a3, a4, a5, a6, hBB.drew⟩
  have hsz : w.heap.size + 1 + 1 < w'.drew.heap.size := hsz
  have hzb : Box2 w'.drew (w.heap.size + 1 + 1) (.int .i64 0) (.bool false) 146 := ⟨hzb.block⟩
  have z0 := hzb.c0
  have z1 := hzb.c1
  have zf := hzb.free
  clear a0 a1 a2 a3 a4 a5 a6 hBB hcall CC
  refine wp_region_held_drew (S := fun w' => w'.cell? ⟨w.heap.size, 0, none⟩ = some (.int .i64 17) ∧ w'.cell? ⟨b, off, none⟩ = some (.int .i64 x0k) ∧ w'.cell? ⟨b, off + 1, none⟩ = some (.bool x0n) ∧ w'.cell? ⟨b, off + 2, none⟩ = some (.int .i64 x1k) ∧ w'.cell? ⟨b, off + 3, none⟩ = some (.bool false) ∧ w'.cell? ⟨b, off + 4, none⟩ = some (.int .i64 x2k) ∧ w'.cell? ⟨b, off + 5, none⟩ = some (.bool x2n) ∧ Below (w.heap.size + 1 + 1) W0 w') (by kernel_rfl) hS0 (fun hHeld => ?_)
  refine wpAnyH_take (i := 0) (v := ?v0ri1) rfl (by kernel_rfl) (by kernel_rfl) (by kernel_rfl) (fun _ _ _ h => h) (Or.inl ⟨by kernel_rfl, ?hy0ri1⟩) hHeld ?rest0ri1
  case hy0ri1 => (intro w hSw; (try dsimp only at hSw); go_simp; try rfl)
  (try simp only [Act.put, List.setIfInBounds_toArray, List.set_cons_zero, List.set_cons_succ])
  refine wpAnyH_take (i := 1) (v := ?v1ri1) rfl (by kernel_rfl) (by kernel_rfl) (by kernel_rfl) (fun _ _ _ h => h) (Or.inl ⟨by kernel_rfl, ?hy1ri1⟩) hHeld ?rest1ri1
  case hy1ri1 => (intro w hSw; (try dsimp only at hSw); go_simp; try rfl)
  (try simp only [Act.put, List.setIfInBounds_toArray, List.set_cons_zero, List.set_cons_succ])
  refine wpAnyH_take (i := 2) (v := ?v2ri1) rfl (by kernel_rfl) (by kernel_rfl) (by kernel_rfl) (fun _ _ _ h => h) (Or.inl ⟨by kernel_rfl, ?hy2ri1⟩) hHeld ?rest2ri1
  case hy2ri1 => (intro w hSw; (try dsimp only at hSw); go_simp; try rfl)
  (try simp only [Act.put, List.setIfInBounds_toArray, List.set_cons_zero, List.set_cons_succ])
  refine wpAnyH_take (i := 3) (v := ?v3ri1) rfl (by kernel_rfl) (by kernel_rfl) (by kernel_rfl) (fun _ _ _ h => h) (Or.inl ⟨by kernel_rfl, ?hy3ri1⟩) hHeld ?rest3ri1
  case hy3ri1 => (intro w hSw; (try dsimp only at hSw); go_simp; try rfl)
  (try simp only [Act.put, List.setIfInBounds_toArray, List.set_cons_zero, List.set_cons_succ])
  refine wpAnyH_take (i := 4) (v := ?v4ri1) rfl (by kernel_rfl) (by kernel_rfl) (by kernel_rfl) (fun _ _ _ h => h) (Or.inl ⟨by kernel_rfl, ?hy4ri1⟩) hHeld ?rest4ri1
  case hy4ri1 => (intro w hSw; (try dsimp only at hSw); go_simp; try rfl)
  (try simp only [Act.put, List.setIfInBounds_toArray, List.set_cons_zero, List.set_cons_succ])
  refine wpAnyH_take (i := 5) (v := ?v5ri1) rfl (by kernel_rfl) (by kernel_rfl) (by kernel_rfl) (fun _ _ _ h => h) (Or.inl ⟨by kernel_rfl, ?hy5ri1⟩) hHeld ?rest5ri1
  case hy5ri1 => (intro w hSw; (try dsimp only at hSw); go_simp; try rfl)
  (try simp only [Act.put, List.setIfInBounds_toArray, List.set_cons_zero, List.set_cons_succ])
  refine wpAnyH_take (i := 6) (v := ?v6ri1) rfl (by kernel_rfl) (by kernel_rfl) (by kernel_rfl) (fun _ _ _ h => h) (Or.inl ⟨by kernel_rfl, ?hy6ri1⟩) hHeld ?rest6ri1
  case hy6ri1 => (intro w hSw; (try dsimp only at hSw); go_simp; try rfl)
  (try simp only [Act.put, List.setIfInBounds_toArray, List.set_cons_zero, List.set_cons_succ])
  refine wpAnyH_take (i := 7) (v := ?v7ri1) rfl (by kernel_rfl) (by kernel_rfl) (by kernel_rfl) (fun _ _ _ h => h) (Or.inl ⟨by kernel_rfl, ?hy7ri1⟩) hHeld ?rest7ri1
  case hy7ri1 => (intro w hSw; (try dsimp only at hSw); go_simp; try rfl)
  (try simp only [Act.put, List.setIfInBounds_toArray, List.set_cons_zero, List.set_cons_succ])
  refine wpAnyH_take (i := 8) (v := ?v8ri1) rfl (by kernel_rfl) (by kernel_rfl) (by kernel_rfl) (fun _ _ _ h => h) (Or.inl ⟨by kernel_rfl, ?hy8ri1⟩) hHeld ?rest8ri1
  case hy8ri1 => (intro w hSw; (try dsimp only at hSw); go_simp; try rfl)
  (try simp only [Act.put, List.setIfInBounds_toArray, List.set_cons_zero, List.set_cons_succ])
  refine wpAnyH_take (i := 9) (v := ?v9ri1) rfl (by kernel_rfl) (by kernel_rfl) (by kernel_rfl) (fun _ _ _ h => h) (Or.inl ⟨by kernel_rfl, ?hy9ri1⟩) hHeld ?rest9ri1
  case hy9ri1 => (intro w hSw; (try dsimp only at hSw); go_simp; try rfl)
  (try simp only [Act.put, List.setIfInBounds_toArray, List.set_cons_zero, List.set_cons_succ])
  refine wpAnyH_take (i := 10) (v := ?v10ri1) rfl (by kernel_rfl) (by kernel_rfl) (by kernel_rfl) (fun _ _ _ h => h) (Or.inl ⟨by kernel_rfl, ?hy10ri1⟩) hHeld ?rest10ri1
  case hy10ri1 => (intro w hSw; (try dsimp only at hSw); go_simp; try rfl)
  (try simp only [Act.put, List.setIfInBounds_toArray, List.set_cons_zero, List.set_cons_succ])
  refine wpAnyH_take (i := 11) (v := ?v11ri1) rfl (by kernel_rfl) (by kernel_rfl) (by kernel_rfl) (fun _ _ _ h => h) (Or.inl ⟨by kernel_rfl, ?hy11ri1⟩) hHeld ?rest11ri1
  case hy11ri1 => (intro w hSw; (try dsimp only at hSw); go_simp; try rfl)
  (try simp only [Act.put, List.setIfInBounds_toArray, List.set_cons_zero, List.set_cons_succ])
  refine wpAnyH_take (i := 12) (v := ?v12ri1) rfl (by kernel_rfl) (by kernel_rfl) (by kernel_rfl) (fun _ _ _ h => h) (Or.inl ⟨by kernel_rfl, ?hy12ri1⟩) hHeld ?rest12ri1
  case hy12ri1 => (intro w hSw; (try dsimp only at hSw); go_simp; try rfl)
  (try simp only [Act.put, List.setIfInBounds_toArray, List.set_cons_zero, List.set_cons_succ])
  refine wpAnyH_take (i := 13) (v := ?v13ri1) rfl (by kernel_rfl) (by kernel_rfl) (by kernel_rfl) (fun _ _ _ h => h) (Or.inl ⟨by kernel_rfl, ?hy13ri1⟩) hHeld ?rest13ri1
  case hy13ri1 => (intro w hSw; (try dsimp only at hSw); go_simp; try rfl)
  (try simp only [Act.put, List.setIfInBounds_toArray, List.set_cons_zero, List.set_cons_succ])
  refine wpAnyH_take (i := 14) (v := undef) rfl (by kernel_rfl) (by kernel_rfl) (by kernel_rfl) (fun _ _ _ h => h) (Or.inr ⟨by kernel_rfl, rfl⟩) hHeld ?_
  (try simp only [Act.put, List.setIfInBounds_toArray, List.set_cons_zero, List.set_cons_succ])
  refine wpAnyH_take (i := 15) (v := undef) rfl (by kernel_rfl) (by kernel_rfl) (by kernel_rfl) (fun _ _ _ h => h) (Or.inr ⟨by kernel_rfl, rfl⟩) hHeld ?_
  (try simp only [Act.put, List.setIfInBounds_toArray, List.set_cons_zero, List.set_cons_succ])
  refine wpAnyH_take (i := 16) (v := undef) rfl (by kernel_rfl) (by kernel_rfl) (by kernel_rfl) (fun _ _ _ h => h) (Or.inr ⟨by kernel_rfl, rfl⟩) hHeld ?_
  (try simp only [Act.put, List.setIfInBounds_toArray, List.set_cons_zero, List.set_cons_succ])
  refine wpAnyH_take (i := 17) (v := undef) rfl (by kernel_rfl) (by kernel_rfl) (by kernel_rfl) (fun _ _ _ h => h) (Or.inr ⟨by kernel_rfl, rfl⟩) hHeld ?_
  (try simp only [Act.put, List.setIfInBounds_toArray, List.set_cons_zero, List.set_cons_succ])
  refine wpAnyH_take (i := 18) (v := ?v18ri1) rfl (by kernel_rfl) (by kernel_rfl) (by kernel_rfl) (fun _ _ _ h => h) (Or.inl ⟨by kernel_rfl, ?hy18ri1⟩) hHeld ?rest18ri1
  case hy18ri1 => (intro w hSw; (try dsimp only at hSw); go_simp; try rfl)
  (try simp only [Act.put, List.setIfInBounds_toArray, List.set_cons_zero, List.set_cons_succ])
  refine wpAnyH_ready (rs := [19]) (by kernel_rfl) (by simp) ?_
  refine AllReadyH.cons (o := _) rfl (fun K hK => ?_) AllReadyH.nil
  go_simp
  refine hK.out _ _ (ndStore3 hb hHeld) (fun hHeld => ?_)
  clear hK K
  (try simp only [Act.put, List.setIfInBounds_toArray, List.set_cons_zero, List.set_cons_succ])
  refine wpAnyH_take (i := 20) (v := ?v20ri1) rfl (by kernel_rfl) (by kernel_rfl) (by kernel_rfl) (fun _ _ _ h => h) (Or.inl ⟨by kernel_rfl, ?hy20ri1⟩) hHeld ?rest20ri1
  case hy20ri1 => (intro w hSw; (try dsimp only at hSw); go_simp; try rfl)
  (try simp only [Act.put, List.setIfInBounds_toArray, List.set_cons_zero, List.set_cons_succ])
  refine wpAnyH_done (by kernel_rfl) ?_ _
  all_goals
   have hx10 := (Box2.store (x' := .int .i64 k1) (y' := .bool x2n) hzb).block
   obtain ⟨_, _, _, _, _, _, _, hBB⟩ := ‹_ ∧ _ ∧ _ ∧ _ ∧ _ ∧ _ ∧ _ ∧ Below _ _ _›
   obtain ⟨hx8, e0, e1, hbl⟩ := HN.out.held hBB hx10
   have HX8 := Lib.hid hx8
   have HBL := Lib.hid hbl
   clear hx8 hbl HN hx10 hBB
   go_wp2_with (with_reducible refine wpList_store_row (o := Oper.mk none (Op.store 146 (.tmp 8) (.tmp 131)) _ _ _ none) rfl 146 (.tmp 8) (.tmp 131) rfl (w.heap.size + 1) #[.int .i64 0, .bool false] ?ri1bqx ?ri1bqy 146 _ HX8.out ?ri1bqi ?ri1bqo ?ri1bq1 ?ri1bqk)
   case ri1bqx => rfl
   case ri1bqy => rfl
   case ri1bqi => kernel_rfl
   case ri1bqo => rfl
   case ri1bq1 => simp [Value.oneCell']
   go_wp2_with fail
   have hld := box_kt (setRow_heap _ _ _ #[.int .i64 0, .bool false] _ _ HX8.out)
   exact bodyPost_ret (v := .tuple #[.agg #[.int .i64 0, .bool false], .int .i64 7]) (by simp [results, Tryz.results124, Act.put, asAddr, hld]) rfl ⟨rfl, HBL.out.grown (grown_rowT _ _ _) HBL.out.size (fun z hz => by cases hz; omega)⟩
end Go.Proofs.YtmdpjahhhfajaaaGreatDoor
