/-
  The reference's type of a node: day, if.
-/
import Derived.Test.YtmdpjahhhfajaaaDoorJA21
set_option linter.unusedVariables false
set_option linter.unusedSimpArgs false
set_option maxRecDepth 100000
namespace Go.Proofs.YtmdpjahhhfajaaaDoor
open Go.RowKit Wh
set_option maxHeartbeats 4000000 in
theorem rndD (t : Nd) (b off cap zb s1 s2 i : Nat) (x : KT) (x2 : Value) (w : World) (h : t.op = 20) (hi : i < 3) (hnm : t.nm = zNm i) (hZ : ZonesX w zb s1 s2) (hb : b < w.heap.size) (h0 : w.cell? ⟨b, off, none⟩ = some (.int .i64 x.1)) (h1 : w.cell? ⟨b, off + 1, none⟩ = some (.bool x.2)) : Calls Tryd.prog 72 #[ndV t, .slice (some ⟨b, off, none⟩) 1 cap, x2, .slice (some ⟨zb, 0, none⟩) 3 3] w fun e w' => e = .returned (if (unaT t.op x).2 then .tuple #[ktV (unaT t.op x).1, .int .i64 0] else .tuple #[ktV (0, false), .int .i64 7]) ∧ Below w.heap.size w w' := by
  have HN := Lib.hid (NdW.start w t)
  have CU := Lib.hid (fun W => unary_any t.op x W)
  have CZ := Lib.hid (fun W (h : ZonesX W zb s1 s2) => rzone_any zb s1 s2 i hi W h)
  obtain ⟨op, ⟨vk, vn, vs⟩, nm, ar⟩ := t
  obtain ⟨x0k, x0n⟩ := x
  unfold ndV
  simp only at h hnm HN CU h0 h1 ⊢
  subst h
  subst hnm
  generalize unaT 20 (x0k, x0n) = D at *
  obtain ⟨⟨k1, n1⟩, q⟩ := D
  simp only at CU ⊢
  obtain ⟨sa, sl, sc, hsh⟩ : ∃ sa sl sc, zSh s1 s2 i = .slice sa sl sc := by
    unfold zSh
    repeat' split
    all_goals exact ⟨_, _, _, rfl⟩
  rw [hsh] at CZ
  clear hsh hi
  generalize zOf i = zo at *
  generalize zNm i = nm at *
  cases q
  · simp only [Bool.false_eq_true, if_false, if_true]
    obtain ⟨W0, hW0⟩ : ∃ W0, (((w.alloc (.cells #[.int .i64 20, .int .i64 vk, .int .i64 vn, .string vs, .string nm, .int .i64 ar] 26)).alloc (.cells #[.int .i64 0, .bool false] 97)).alloc (.cells #[.int .i64 0, .bool false] 97)) = W0 := ⟨_, rfl⟩
    rw [hW0] at HN
    have hZW := Lib.hid (hZ.below HN.out.bel (Nat.le_refl _))
    have e00' : W0.cell? ⟨b, off, none⟩ = _ := (HN.out.bel.cell (p := ⟨b, off, none⟩) hb).trans h0
    have e01' : W0.cell? ⟨b, off + 1, none⟩ = _ := (HN.out.bel.cell (p := ⟨b, off + 1, none⟩) hb).trans h1
    have HE0 := Lib.hid e00'
    have HE1 := Lib.hid e01'
    have c4' := HN.out.cells.2
    clear h0 h1 hZ e00' e01'
    have HW0 := Lib.hid hW0
    clear hW0
    go_enter Tryd.func72, Tryd.ntmps72
    go_wp2_with fail
    rw [HW0.out]
    refine (CZ.out _ hZW.out).mono ?_
    rintro e v1 ⟨rfl, hb1⟩
    have hv0 := HN.out.sz
    have hv1 := hb1.size
    have HNA := Lib.hid ((HN.out.keep hb1).keep ((Below.refl _ _).alloc (Nat.le_refl _) (.cells #[.string nm, .int .i64 zo, .slice sa sl sc] 94)))
    have c0' := HNA.out.cells.1
    have e00' : (v1.alloc (.cells #[.string nm, .int .i64 zo, .slice sa sl sc] 94)).cell? ⟨b, off, none⟩ = some (.int .i64 x0k) := by
      rw [((Below.refl v1.heap.size v1).alloc (Nat.le_refl _) _).cell (p := ⟨b, off, none⟩) (by show b < _; omega), hb1.cell (p := ⟨b, off, none⟩) (by show b < _; omega)]
      exact HE0.out
    have e01' : (v1.alloc (.cells #[.string nm, .int .i64 zo, .slice sa sl sc] 94)).cell? ⟨b, off + 1, none⟩ = some (.bool x0n) := by
      rw [((Below.refl v1.heap.size v1).alloc (Nat.le_refl _) _).cell (p := ⟨b, off + 1, none⟩) (by show b < _; omega), hb1.cell (p := ⟨b, off + 1, none⟩) (by show b < _; omega)]
      exact HE1.out
    have HE0 := Lib.hid e00'
    have HE1 := Lib.hid e01'
    obtain ⟨W0', hW0'⟩ : ∃ W0', (v1.alloc (.cells #[.string nm, .int .i64 zo, .slice sa sl sc] 94)) = W0' := ⟨_, rfl⟩
    rw [hW0'] at HNA HE0 HE1
    have HW0' := Lib.hid hW0'
    clear CZ hZW HW0 hb1 HN c4' e00' e01' hW0' c0'
    go_wp2_with fail
    rw [HW0'.out]
    clear HW0'
    have HN := HNA
    have HW0 := HN
    have e00' : W0'.drew.cell? ⟨b, off, none⟩ = _ := HE0.out
    have e01' : W0'.drew.cell? ⟨b, off + 1, none⟩ = _ := HE1.out
    have HND := Lib.hid HN.out.drew
    have hN := HN.out.drew
    have hS0 : W0'.drew.cell? ⟨w.heap.size, 0, none⟩ = some (.int .i64 20) ∧ W0'.drew.cell? ⟨b, off, none⟩ = some (.int .i64 x0k) ∧ W0'.drew.cell? ⟨b, off + 1, none⟩ = some (.bool x0n) ∧ Below (w.heap.size + 1 + 1) W0' W0'.drew := ⟨hN.cells.1, e00', e01', (Below.refl _ _).drew⟩
    have hsz := hN.sz
    have hzb : Box2 W0'.drew (w.heap.size + 1 + 1) (.int .i64 0) (.bool false) 97 := ⟨hN.h10⟩
    have z0 := hzb.c0
    have z1 := hzb.c1
    have zf := hzb.free
    clear HW0 e00' e01' hN
    go_region_held3 (fun w' => w'.cell? ⟨w.heap.size, 0, none⟩ = some (.int .i64 20) ∧ w'.cell? ⟨b, off, none⟩ = some (.int .i64 x0k) ∧ w'.cell? ⟨b, off + 1, none⟩ = some (.bool x0n) ∧ Below (w.heap.size + 1 + 1) W0' w')
      (first | with_reducible exact hS0 | exact ndKeep1 hb (by assumption) (hcall.mono (by omega)) | exact ndStore1 hb (by assumption))
      (first | (go_at_call 88; refine (CU.out _).mono ?_; rintro e w' ⟨rfl, hcall⟩; have hsz := Nat.lt_of_lt_of_le hsz hcall.size; have hzb := Box2.keep hzb hcall hzb.lt; have z0 := hzb.c0; have z1 := hzb.c1; have zf := hzb.free))
    all_goals
      have hx10 := (Box2.store (x' := .int .i64 k1) (y' := .bool n1) hzb).block
      obtain ⟨_, _, _, hBB⟩ := ‹_ ∧ _ ∧ _ ∧ Below _ _ _›
      obtain ⟨hx8, e0, e1, hbl⟩ := HN.out.held hBB hx10
      have HX8 := Lib.hid hx8
      have HBL := Lib.hid hbl
      clear hx8 hbl HN hx10 hBB
      go_wp2_with (with_reducible refine wpList_store_row (o := Oper.mk none (Op.store 97 (.tmp 8) (.tmp 131)) _ _ _ none) rfl 97 (.tmp 8) (.tmp 131) rfl (w.heap.size + 1) #[.int .i64 0, .bool false] ?rndDfbqx ?rndDfbqy 97 _ HX8.out ?rndDfbqi ?rndDfbqo ?rndDfbq1 ?rndDfbqk)
      case rndDfbqx => rfl
      case rndDfbqy => rfl
      case rndDfbqi => kernel_rfl
      case rndDfbqo => rfl
      case rndDfbq1 => simp [Value.oneCell']
      go_wp2_with fail
      have hld := box_kt (setRow_heap _ _ _ #[.int .i64 0, .bool false] _ _ HX8.out)
      exact bodyPost_ret (v := .tuple #[.agg #[.int .i64 0, .bool false], .int .i64 7]) (by simp [results, Tryd.results72, Act.put, asAddr, hld]) rfl ⟨rfl, HBL.out.grown (grown_rowT _ _ _) HBL.out.size (fun z hz => by cases hz; omega)⟩
  · simp only [Bool.false_eq_true, if_false, if_true]
    obtain ⟨W0, hW0⟩ : ∃ W0, (((w.alloc (.cells #[.int .i64 20, .int .i64 vk, .int .i64 vn, .string vs, .string nm, .int .i64 ar] 26)).alloc (.cells #[.int .i64 0, .bool false] 97)).alloc (.cells #[.int .i64 0, .bool false] 97)) = W0 := ⟨_, rfl⟩
    rw [hW0] at HN
    have hZW := Lib.hid (hZ.below HN.out.bel (Nat.le_refl _))
    have e00' : W0.cell? ⟨b, off, none⟩ = _ := (HN.out.bel.cell (p := ⟨b, off, none⟩) hb).trans h0
    have e01' : W0.cell? ⟨b, off + 1, none⟩ = _ := (HN.out.bel.cell (p := ⟨b, off + 1, none⟩) hb).trans h1
    have HE0 := Lib.hid e00'
    have HE1 := Lib.hid e01'
    have c4' := HN.out.cells.2
    clear h0 h1 hZ e00' e01'
    have HW0 := Lib.hid hW0
    clear hW0
    go_enter Tryd.func72, Tryd.ntmps72
    go_wp2_with fail
    rw [HW0.out]
    refine (CZ.out _ hZW.out).mono ?_
    rintro e v1 ⟨rfl, hb1⟩
    have hv0 := HN.out.sz
    have hv1 := hb1.size
    have HNA := Lib.hid ((HN.out.keep hb1).keep ((Below.refl _ _).alloc (Nat.le_refl _) (.cells #[.string nm, .int .i64 zo, .slice sa sl sc] 94)))
    have c0' := HNA.out.cells.1
    have e00' : (v1.alloc (.cells #[.string nm, .int .i64 zo, .slice sa sl sc] 94)).cell? ⟨b, off, none⟩ = some (.int .i64 x0k) := by
      rw [((Below.refl v1.heap.size v1).alloc (Nat.le_refl _) _).cell (p := ⟨b, off, none⟩) (by show b < _; omega), hb1.cell (p := ⟨b, off, none⟩) (by show b < _; omega)]
      exact HE0.out
    have e01' : (v1.alloc (.cells #[.string nm, .int .i64 zo, .slice sa sl sc] 94)).cell? ⟨b, off + 1, none⟩ = some (.bool x0n) := by
      rw [((Below.refl v1.heap.size v1).alloc (Nat.le_refl _) _).cell (p := ⟨b, off + 1, none⟩) (by show b < _; omega), hb1.cell (p := ⟨b, off + 1, none⟩) (by show b < _; omega)]
      exact HE1.out
    have HE0 := Lib.hid e00'
    have HE1 := Lib.hid e01'
    obtain ⟨W0', hW0'⟩ : ∃ W0', (v1.alloc (.cells #[.string nm, .int .i64 zo, .slice sa sl sc] 94)) = W0' := ⟨_, rfl⟩
    rw [hW0'] at HNA HE0 HE1
    have HW0' := Lib.hid hW0'
    clear CZ hZW HW0 hb1 HN c4' e00' e01' hW0' c0'
    go_wp2_with fail
    rw [HW0'.out]
    clear HW0'
    have HN := HNA
    have HW0 := HN
    have e00' : W0'.drew.cell? ⟨b, off, none⟩ = _ := HE0.out
    have e01' : W0'.drew.cell? ⟨b, off + 1, none⟩ = _ := HE1.out
    have HND := Lib.hid HN.out.drew
    have hN := HN.out.drew
    have hS0 : W0'.drew.cell? ⟨w.heap.size, 0, none⟩ = some (.int .i64 20) ∧ W0'.drew.cell? ⟨b, off, none⟩ = some (.int .i64 x0k) ∧ W0'.drew.cell? ⟨b, off + 1, none⟩ = some (.bool x0n) ∧ Below (w.heap.size + 1 + 1) W0' W0'.drew := ⟨hN.cells.1, e00', e01', (Below.refl _ _).drew⟩
    have hsz := hN.sz
    have hzb : Box2 W0'.drew (w.heap.size + 1 + 1) (.int .i64 0) (.bool false) 97 := ⟨hN.h10⟩
    have z0 := hzb.c0
    have z1 := hzb.c1
    have zf := hzb.free
    clear HW0 e00' e01' hN
    go_region_held3 (fun w' => w'.cell? ⟨w.heap.size, 0, none⟩ = some (.int .i64 20) ∧ w'.cell? ⟨b, off, none⟩ = some (.int .i64 x0k) ∧ w'.cell? ⟨b, off + 1, none⟩ = some (.bool x0n) ∧ Below (w.heap.size + 1 + 1) W0' w')
      (first | with_reducible exact hS0 | exact ndKeep1 hb (by assumption) (hcall.mono (by omega)) | exact ndStore1 hb (by assumption))
      (first | (go_at_call 88; refine (CU.out _).mono ?_; rintro e w' ⟨rfl, hcall⟩; have hsz := Nat.lt_of_lt_of_le hsz hcall.size; have hzb := Box2.keep hzb hcall hzb.lt; have z0 := hzb.c0; have z1 := hzb.c1; have zf := hzb.free))
    all_goals
      have hx10 := (Box2.store (x' := .int .i64 k1) (y' := .bool n1) hzb).block
      obtain ⟨_, _, _, hBB⟩ := ‹_ ∧ _ ∧ _ ∧ Below _ _ _›
      obtain ⟨hx8, e0, e1, hbl⟩ := HN.out.held hBB hx10
      have HX8 := Lib.hid hx8
      have HBL := Lib.hid hbl
      clear hx8 hbl HN hx10 hBB
      go_wp2_with (with_reducible refine wpList_store_row (o := Oper.mk none (Op.store 97 (.tmp 8) (.tmp 132)) _ _ _ none) rfl 97 (.tmp 8) (.tmp 132) rfl (w.heap.size + 1) #[.int .i64 k1, .bool n1] ?rndDtbqx ?rndDtbqy 97 _ HX8.out ?rndDtbqi ?rndDtbqo ?rndDtbq1 ?rndDtbqk)
      case rndDtbqx => rfl
      case rndDtbqy => rfl
      case rndDtbqi => kernel_rfl
      case rndDtbqo => rfl
      case rndDtbq1 => simp [Value.oneCell']
      go_wp2_with fail
      have hld := box_kt (setRow_heap _ _ _ #[.int .i64 k1, .bool n1] _ _ HX8.out)
      exact bodyPost_ret (v := .tuple #[.agg #[.int .i64 k1, .bool n1], .int .i64 0]) (by simp [results, Tryd.results72, Act.put, asAddr, hld]) rfl ⟨rfl, HBL.out.grown (grown_rowT _ _ _) HBL.out.size (fun z hz => by cases hz; omega)⟩
end Go.Proofs.YtmdpjahhhfajaaaDoor
