/-
  The reference's type of a node.
-/
import Derived.Test.YtmdpjahhhfajaaaDoorJA20
import Derived.StillTailTactics
set_option linter.unusedVariables false
set_option linter.unusedSimpArgs false
set_option maxRecDepth 100000
namespace Wh
open Go Go.Proofs.YtmdpjahhhfajaaaDoor
def colsX : List C := [⟨⟨#[97]⟩, 2, false⟩, ⟨⟨#[98]⟩, 1, true⟩, ⟨⟨#[115]⟩, 3, false⟩, ⟨⟨#[116]⟩, 4, false⟩]
theorem colsX_idx {i : Nat} (h : i < 4) : idxC colsX (cNm i) = i := by
  have : i = 0 ∨ i = 1 ∨ i = 2 ∨ i = 3 := by omega
  rcases this with rfl | rfl | rfl | rfl <;> decide +kernel
theorem colsX_val : valEC colsX = 0 := by decide +kernel
end Wh
namespace Go.Proofs.YtmdpjahhhfajaaaDoor
open Go.RowKit Wh
theorem ColsX.cols {w : World} {cb : Nat} (h : ColsX w cb) : IsCols w (some ⟨cb, 0, none⟩) 4 colsX := by
  refine ⟨rfl, .inr ⟨cb, 0, rfl, h.1, fun i c hc => ?_⟩⟩
  have hi : i < 4 := (List.getElem?_eq_some_iff.1 hc).1
  obtain ⟨a, b, d⟩ := h.cells hi
  rw [Nat.zero_add]
  have : i = 0 ∨ i = 1 ∨ i = 2 ∨ i = 3 := by omega
  rcases this with rfl | rfl | rfl | rfl <;> (cases hc; exact ⟨a, b, d⟩)
theorem kt_mid (W : World) (x y : Value) (o : Obj) : (loadVar 97 ⟨W.heap.size, 0, none⟩).run Tryd.prog ((W.alloc (.cells #[x, y] 97)).alloc o) = .ok (.agg #[x, y]) ((W.alloc (.cells #[x, y] 97)).alloc o) :=
  box_kt (by rw [Below.heap_alloc _ _ _ (by simp)]; exact heap_alloc_new W _)
theorem kt_mid2 (W : World) (q : Obj) (x y : Value) (o : Obj) : (loadVar 97 ⟨W.heap.size + 1, 0, none⟩).run Tryd.prog (((W.alloc q).alloc (.cells #[x, y] 97)).alloc o) = .ok (.agg #[x, y]) (((W.alloc q).alloc (.cells #[x, y] 97)).alloc o) := by
  have h := kt_mid (W.alloc q) x y o
  rw [World.size_alloc] at h
  exact h
theorem below_al3 (w : World) (a b c : Obj) : Below w.heap.size w (((w.alloc a).alloc b).alloc c) := (((Below.refl _ _).alloc (Nat.le_refl _) _).alloc (by simp) _).alloc (by simp; omega) _
set_option maxHeartbeats 4000000 in
theorem rnd0_any (t : Nd) (x1 x2 x3 : Value) (w : World) (h : t.op = 0) : Calls Tryd.prog 72 #[ndV t, x1, x2, x3] w fun e w' => e = .returned (.tuple #[ktV (t.v.k, decide (t.v.k = 0)), .int .i64 0]) ∧ Below w.heap.size w w' := by
  obtain ⟨op, ⟨vk, vn, vs⟩, nm, ar⟩ := t
  unfold ndV
  simp only at h ⊢
  subst h
  go_enter Tryd.func72, Tryd.ntmps72
  go_wp2_with fail
  exact bodyPost_ret (v := .tuple #[ktV (vk, decide (vk = 0)), .int .i64 0]) (by simp [results, Tryd.results72, Act.put, asAddr, kt_mid2]; by_cases h0 : vk = 0 <;> simp [h0]) rfl ⟨rfl, below_al3 _ _ _ _⟩
structure NdW (w W : World) (t : Nd) : Prop where
  bel : Below w.heap.size w W
  n0 : W.heap[w.heap.size]? = some (.cells #[.int .i64 t.op, .int .i64 t.v.k, .int .i64 t.v.n, .string t.v.s, .string t.nm, .int .i64 t.ar] 26 (0, 0))
  h8 : W.heap[w.heap.size + 1]? = some (.cells #[.int .i64 0, .bool false] 97 (0, 0))
  h10 : W.heap[w.heap.size + 1 + 1]? = some (.cells #[.int .i64 0, .bool false] 97 (0, 0))
  sz : w.heap.size + 1 + 1 < W.heap.size
theorem NdW.start (w : World) (t : Nd) : NdW w (((w.alloc (.cells #[.int .i64 t.op, .int .i64 t.v.k, .int .i64 t.v.n, .string t.v.s, .string t.nm, .int .i64 t.ar] 26)).alloc (.cells #[.int .i64 0, .bool false] 97)).alloc (.cells #[.int .i64 0, .bool false] 97)) t := by
  refine ⟨below_al3 _ _ _ _, ?_, ?_, ?_, by simp⟩
  · rw [Below.heap_alloc _ _ _ (by simp; omega), Below.heap_alloc _ _ _ (by simp)]
    exact heap_alloc_new _ _
  · have h := heap_alloc_new (w.alloc (.cells #[.int .i64 t.op, .int .i64 t.v.k, .int .i64 t.v.n, .string t.v.s, .string t.nm, .int .i64 t.ar] 26)) (.cells #[.int .i64 0, .bool false] 97)
    rw [World.size_alloc] at h
    rw [Below.heap_alloc _ _ _ (by simp)]
    exact h
  · have h := heap_alloc_new ((w.alloc (.cells #[.int .i64 t.op, .int .i64 t.v.k, .int .i64 t.v.n, .string t.v.s, .string t.nm, .int .i64 t.ar] 26)).alloc (.cells #[.int .i64 0, .bool false] 97)) (.cells #[.int .i64 0, .bool false] 97)
    rw [World.size_alloc, World.size_alloc] at h
    exact h
theorem NdW.drew {w W : World} {t : Nd} (h : NdW w W t) : NdW w W.drew t := ⟨h.bel.drew, h.n0, h.h8, h.h10, h.sz⟩
theorem NdW.keep {w W W' : World} {t : Nd} (h : NdW w W t) (hb : Below W.heap.size W W') : NdW w W' t := by
  have hs := h.sz
  have hz := hb.size
  have hw := h.bel.size
  exact ⟨h.bel.trans (hb.mono hw), by rw [hb.block _ (by omega)]; exact h.n0, by rw [hb.block _ (by omega)]; exact h.h8, by rw [hb.block _ (by omega)]; exact h.h10, by omega⟩
theorem NdW.cells {w W : World} {t : Nd} (h : NdW w W t) : W.cell? ⟨w.heap.size, 0, none⟩ = some (.int .i64 t.op) ∧ W.cell? ⟨w.heap.size, 4, none⟩ = some (.string t.nm) := ⟨(cell_of_row _ _ 0 _ _ _ h.n0).trans rfl, (cell_of_row _ _ 4 _ _ _ h.n0).trans rfl⟩
theorem NdW.st {w W : World} {t : Nd} (h : NdW w W t) (x y : Value) :
    (W.setRow (w.heap.size + 1 + 1) #[x, y]).heap[w.heap.size + 1]? = some (.cells #[.int .i64 0, .bool false] 97 (0, 0)) ∧ (W.setRow (w.heap.size + 1 + 1) #[x, y]).cell? ⟨w.heap.size + 1 + 1, 0, none⟩ = some x ∧ (W.setRow (w.heap.size + 1 + 1) #[x, y]).cell? ⟨w.heap.size + 1 + 1, 1, none⟩ = some y ∧ Below w.heap.size w (W.setRow (w.heap.size + 1 + 1) #[x, y]) := by
  have e := setRow_heap _ _ _ #[x, y] _ _ h.h10
  exact ⟨(setRow_other W (w.heap.size + 1 + 1) (w.heap.size + 1) #[x, y] (by omega)).trans h.h8, (cell_of_row _ _ 0 _ _ _ e).trans rfl, (cell_of_row _ _ 1 _ _ _ e).trans rfl, h.bel.grown (grown_rowT _ _ _) h.bel.size (fun z hz => by cases hz; omega)⟩
set_option maxHeartbeats 4000000 in
theorem rnd1_any (t : Nd) (cb i : Nat) (x1 x3 : Value) (w : World) (h : t.op = 1) (hi : i < 4) (hnm : t.nm = cNm i) (hC : ColsX w cb) : Calls Tryd.prog 72 #[ndV t, x1, .slice (some ⟨cb, 0, none⟩) 4 4, x3] w fun e w' => e = .returned (.tuple #[ktV (cKd i, cNl i), .int .i64 0]) ∧ Below w.heap.size w w' := by
  have HN := Lib.hid (NdW.start w t)
  obtain ⟨op, ⟨vk, vn, vs⟩, nm, ar⟩ := t
  unfold ndV
  simp only at h hnm HN ⊢
  subst h
  have CI := Lib.hid (fun W (h : ColsX W cb) => rindex_any5 (some ⟨cb, 0, none⟩) 4 4 colsX nm W h.cols (by decide))
  have hx := hnm
  rw [hx, colsX_idx hi] at CI
  rw [hx] at HN ⊢
  generalize cNm i = NM at CI HN ⊢
  have hi4 : (i : Int) < 4 := by omega
  obtain ⟨W0, hW0⟩ : ∃ W0, (((w.alloc (.cells #[.int .i64 1, .int .i64 vk, .int .i64 vn, .string vs, .string NM, .int .i64 ar] 26)).alloc (.cells #[.int .i64 0, .bool false] 97)).alloc (.cells #[.int .i64 0, .bool false] 97)) = W0 := ⟨_, rfl⟩
  rw [hW0] at HN
  have hCW := hC.below HN.out.bel (Nat.le_refl _)
  obtain ⟨d0, d1, d2⟩ := hCW.cells hi
  have HCW := Lib.hid hCW
  generalize cKd i = ck at *
  generalize cNl i = cn at *
  clear hnm hx hC hCW d0
  have HW0 := Lib.hid hW0
  clear hW0
  go_enter Tryd.func72, Tryd.ntmps72
  go_wp2_with fail
  rw [HW0.out]
  refine (CI.out _ HCW.out).mono ?_
  rintro e w1 ⟨rfl, rfl⟩
  have HN := Lib.hid HN.out.drew
  clear HW0 HCW CI
  go_wp2_with fail
  go_still_tail 11, (by kernel_rfl)
  change wpList _ _ _ _ _ W0.drew
  have HX10 := Lib.hid HN.out.h10
  obtain ⟨hx8, e0, e1, hbl⟩ := HN.out.st (.int .i64 ck) (.bool cn)
  have HX8 := Lib.hid hx8
  have HBL := Lib.hid hbl
  clear hx8 hbl HN
  go_wp2_with (first
    | (with_reducible refine wpList_store_row (o := Oper.mk none (Op.store 97 (.tmp 10) (.tmp 73)) _ _ _ none) rfl 97 (.tmp 10) (.tmp 73) rfl (w.heap.size + 1 + 1) #[.int .i64 ck, .bool cn] ?aaqx ?aaqy 97 _ HX10.out ?aaqi ?aaqo ?aaq1 ?aaqk)
    | (with_reducible refine wpList_store_row (o := Oper.mk none (Op.store 97 (.tmp 8) (.tmp 132)) _ _ _ none) rfl 97 (.tmp 8) (.tmp 132) rfl (w.heap.size + 1) #[.int .i64 ck, .bool cn] ?abqx ?abqy 97 _ HX8.out ?abqi ?abqo ?abq1 ?abqk))
  case aaqx => rfl
  case aaqy => rfl
  case aaqi => kernel_rfl
  case aaqo => rfl
  case aaq1 => simp [Value.oneCell']
  case abqx => rfl
  case abqy => rfl
  case abqi => kernel_rfl
  case abqo => rfl
  case abq1 => simp [Value.oneCell']
  go_wp2_with fail
  have hld := box_kt (setRow_heap _ _ _ #[.int .i64 ck, .bool cn] _ _ HX8.out)
  exact bodyPost_ret (v := .tuple #[.agg #[.int .i64 ck, .bool cn], .int .i64 0]) (by simp [results, Tryd.results72, Act.put, asAddr, hld]) rfl ⟨rfl, HBL.out.grown (grown_rowT _ _ _) HBL.out.size (fun z hz => by cases hz; omega)⟩
theorem NdW.held {w W0 W : World} {t : Nd} {u0 u1 : Value} (h : NdW w W0 t) (hB : Below (w.heap.size + 1 + 1) W0 W) (hx : W.heap[w.heap.size + 1 + 1]? = some (.cells #[u0, u1] 97 (0, 0))) :
    W.heap[w.heap.size + 1]? = some (.cells #[.int .i64 0, .bool false] 97 (0, 0)) ∧ W.cell? ⟨w.heap.size + 1 + 1, 0, none⟩ = some u0 ∧ W.cell? ⟨w.heap.size + 1 + 1, 1, none⟩ = some u1 ∧ Below w.heap.size w W :=
  ⟨(hB.block _ (by omega)).trans h.h8, (cell_of_row _ _ 0 _ _ _ hx).trans rfl, (cell_of_row _ _ 1 _ _ _ hx).trans rfl, h.bel.trans (hB.mono (by omega))⟩
theorem ndKeep1 {w W0 w1 w2 : World} {op x0k : Int} {x0n : Bool} {b off : Nat} (hb : b < w.heap.size) (h : w1.cell? ⟨w.heap.size, 0, none⟩ = some (.int .i64 op) ∧ w1.cell? ⟨b, off, none⟩ = some (.int .i64 x0k) ∧ w1.cell? ⟨b, off + 1, none⟩ = some (.bool x0n) ∧ Below (w.heap.size + 1 + 1) W0 w1) (h2 : Below (w.heap.size + 1 + 1) w1 w2) : w2.cell? ⟨w.heap.size, 0, none⟩ = some (.int .i64 op) ∧ w2.cell? ⟨b, off, none⟩ = some (.int .i64 x0k) ∧ w2.cell? ⟨b, off + 1, none⟩ = some (.bool x0n) ∧ Below (w.heap.size + 1 + 1) W0 w2 := by
  obtain ⟨a0, a1, a2, hB⟩ := h
  have e : ∀ p : Addr, p.block < w.heap.size + 1 + 1 → w2.cell? p = w1.cell? p := fun p h => h2.cell h
  exact ⟨(e ⟨w.heap.size, 0, none⟩ (by show w.heap.size < _; omega)).trans a0 , (e ⟨b, off, none⟩ (by show b < _; omega)).trans a1 , (e ⟨b, off + 1, none⟩ (by show b < _; omega)).trans a2, hB.trans h2⟩
theorem ndStore1 {w W0 w1 : World} {op x0k : Int} {x0n : Bool} {b off : Nat} {u0 u1 : Value} (hb : b < w.heap.size) (h : w1.cell? ⟨w.heap.size, 0, none⟩ = some (.int .i64 op) ∧ w1.cell? ⟨b, off, none⟩ = some (.int .i64 x0k) ∧ w1.cell? ⟨b, off + 1, none⟩ = some (.bool x0n) ∧ Below (w.heap.size + 1 + 1) W0 w1) : ((w1.setCell ⟨w.heap.size + 1 + 1, 0, none⟩ u0).setCell ⟨w.heap.size + 1 + 1, 1, none⟩ u1).cell? ⟨w.heap.size, 0, none⟩ = some (.int .i64 op) ∧ ((w1.setCell ⟨w.heap.size + 1 + 1, 0, none⟩ u0).setCell ⟨w.heap.size + 1 + 1, 1, none⟩ u1).cell? ⟨b, off, none⟩ = some (.int .i64 x0k) ∧ ((w1.setCell ⟨w.heap.size + 1 + 1, 0, none⟩ u0).setCell ⟨w.heap.size + 1 + 1, 1, none⟩ u1).cell? ⟨b, off + 1, none⟩ = some (.bool x0n) ∧ Below (w.heap.size + 1 + 1) W0 ((w1.setCell ⟨w.heap.size + 1 + 1, 0, none⟩ u0).setCell ⟨w.heap.size + 1 + 1, 1, none⟩ u1) :=
  ndKeep1 hb h (((Below.refl _ _).setCell (p := ⟨w.heap.size + 1 + 1, 0, none⟩) (Nat.le_refl _) u0).setCell (p := ⟨w.heap.size + 1 + 1, 1, none⟩) (Nat.le_refl _) u1)
set_option maxHeartbeats 4000000 in
theorem rndU (t : Nd) (b off cap : Nat) (x : KT) (x2 x3 : Value) (w : World) (h : t.op = 2 ∨ t.op = 3 ∨ t.op = 16 ∨ t.op = 19) (hb : b < w.heap.size) (h0 : w.cell? ⟨b, off, none⟩ = some (.int .i64 x.1)) (h1 : w.cell? ⟨b, off + 1, none⟩ = some (.bool x.2)) : Calls Tryd.prog 72 #[ndV t, .slice (some ⟨b, off, none⟩) 1 cap, x2, x3] w fun e w' => e = .returned (if (unaT t.op x).2 then .tuple #[ktV (unaT t.op x).1, .int .i64 0] else .tuple #[ktV (0, false), .int .i64 7]) ∧ Below w.heap.size w w' := by
  have HN := Lib.hid (NdW.start w t)
  have CU := Lib.hid (fun W => unary_any t.op x W)
  obtain ⟨op, ⟨vk, vn, vs⟩, nm, ar⟩ := t
  obtain ⟨x0k, x0n⟩ := x
  unfold ndV
  simp only at h HN CU h0 h1 ⊢
  generalize unaT op (x0k, x0n) = D at *
  obtain ⟨⟨k1, n1⟩, q⟩ := D
  simp only at CU ⊢
  obtain ⟨b0, b1, b17, b20, b21⟩ : (op == 0) = false ∧ (op == 1) = false ∧ (op == 17) = false ∧ (op == 20) = false ∧ (op == 21) = false := by
    rcases h with rfl | rfl | rfl | rfl <;> decide
  clear h
  cases q
  · simp only [Bool.false_eq_true, if_false, if_true]
    obtain ⟨W0, hW0⟩ : ∃ W0, (((w.alloc (.cells #[.int .i64 op, .int .i64 vk, .int .i64 vn, .string vs, .string nm, .int .i64 ar] 26)).alloc (.cells #[.int .i64 0, .bool false] 97)).alloc (.cells #[.int .i64 0, .bool false] 97)) = W0 := ⟨_, rfl⟩
    rw [hW0] at HN
    have e00' : W0.drew.cell? ⟨b, off, none⟩ = _ := (HN.out.bel.cell (p := ⟨b, off, none⟩) hb).trans h0
    have e01' : W0.drew.cell? ⟨b, off + 1, none⟩ = _ := (HN.out.bel.cell (p := ⟨b, off + 1, none⟩) hb).trans h1
    have c0' := HN.out.cells.1
    clear h0 h1
    have HW0 := Lib.hid hW0
    clear hW0
    go_enter Tryd.func72, Tryd.ntmps72
    go_wp2_with fail
    rw [HW0.out]
    clear c0'
    have HND := Lib.hid HN.out.drew
    have hN := HN.out.drew
    have hS0 : W0.drew.cell? ⟨w.heap.size, 0, none⟩ = some (.int .i64 op) ∧ W0.drew.cell? ⟨b, off, none⟩ = some (.int .i64 x0k) ∧ W0.drew.cell? ⟨b, off + 1, none⟩ = some (.bool x0n) ∧ Below (w.heap.size + 1 + 1) W0 W0.drew := ⟨hN.cells.1, e00', e01', (Below.refl _ _).drew⟩
    have hsz := hN.sz
    have hzb : Box2 W0.drew (w.heap.size + 1 + 1) (.int .i64 0) (.bool false) 97 := ⟨hN.h10⟩
    have z0 := hzb.c0
    have z1 := hzb.c1
    have zf := hzb.free
    clear HW0 e00' e01' hN
    go_region_held3 (fun w' => w'.cell? ⟨w.heap.size, 0, none⟩ = some (.int .i64 op) ∧ w'.cell? ⟨b, off, none⟩ = some (.int .i64 x0k) ∧ w'.cell? ⟨b, off + 1, none⟩ = some (.bool x0n) ∧ Below (w.heap.size + 1 + 1) W0 w')
      (first | with_reducible exact hS0 | exact ndKeep1 hb (by assumption) (hcall.mono (by omega)) | exact ndStore1 hb (by assumption))
      (first | (go_at_call 88; refine (CU.out _).mono ?_; rintro e w' ⟨rfl, hcall⟩; have hsz := Nat.lt_of_lt_of_le hsz hcall.size; have hzb := Box2.keep hzb hcall hzb.lt; have z0 := hzb.c0; have z1 := hzb.c1; have zf := hzb.free))
    all_goals
      have hx10 := (Box2.store (x' := .int .i64 k1) (y' := .bool n1) hzb).block
      obtain ⟨_, _, _, hBB⟩ := ‹_ ∧ _ ∧ _ ∧ Below _ _ _›
      obtain ⟨hx8, e0, e1, hbl⟩ := HN.out.held hBB hx10
      have HX8 := Lib.hid hx8
      have HBL := Lib.hid hbl
      clear hx8 hbl HN hx10 hBB
      go_wp2_with (with_reducible refine wpList_store_row (o := Oper.mk none (Op.store 97 (.tmp 8) (.tmp 131)) _ _ _ none) rfl 97 (.tmp 8) (.tmp 131) rfl (w.heap.size + 1) #[.int .i64 0, .bool false] ?rndUfbqx ?rndUfbqy 97 _ HX8.out ?rndUfbqi ?rndUfbqo ?rndUfbq1 ?rndUfbqk)
      case rndUfbqx => rfl
      case rndUfbqy => rfl
      case rndUfbqi => kernel_rfl
      case rndUfbqo => rfl
      case rndUfbq1 => simp [Value.oneCell']
      go_wp2_with fail
      have hld := box_kt (setRow_heap _ _ _ #[.int .i64 0, .bool false] _ _ HX8.out)
      exact bodyPost_ret (v := .tuple #[.agg #[.int .i64 0, .bool false], .int .i64 7]) (by simp [results, Tryd.results72, Act.put, asAddr, hld]) rfl ⟨rfl, HBL.out.grown (grown_rowT _ _ _) HBL.out.size (fun z hz => by cases hz; omega)⟩
  · simp only [Bool.false_eq_true, if_false, if_true]
    obtain ⟨W0, hW0⟩ : ∃ W0, (((w.alloc (.cells #[.int .i64 op, .int .i64 vk, .int .i64 vn, .string vs, .string nm, .int .i64 ar] 26)).alloc (.cells #[.int .i64 0, .bool false] 97)).alloc (.cells #[.int .i64 0, .bool false] 97)) = W0 := ⟨_, rfl⟩
    rw [hW0] at HN
    have e00' : W0.drew.cell? ⟨b, off, none⟩ = _ := (HN.out.bel.cell (p := ⟨b, off, none⟩) hb).trans h0
    have e01' : W0.drew.cell? ⟨b, off + 1, none⟩ = _ := (HN.out.bel.cell (p := ⟨b, off + 1, none⟩) hb).trans h1
    have c0' := HN.out.cells.1
    clear h0 h1
    have HW0 := Lib.hid hW0
    clear hW0
    go_enter Tryd.func72, Tryd.ntmps72
    go_wp2_with fail
    rw [HW0.out]
    clear c0'
    have HND := Lib.hid HN.out.drew
    have hN := HN.out.drew
    have hS0 : W0.drew.cell? ⟨w.heap.size, 0, none⟩ = some (.int .i64 op) ∧ W0.drew.cell? ⟨b, off, none⟩ = some (.int .i64 x0k) ∧ W0.drew.cell? ⟨b, off + 1, none⟩ = some (.bool x0n) ∧ Below (w.heap.size + 1 + 1) W0 W0.drew := ⟨hN.cells.1, e00', e01', (Below.refl _ _).drew⟩
    have hsz := hN.sz
    have hzb : Box2 W0.drew (w.heap.size + 1 + 1) (.int .i64 0) (.bool false) 97 := ⟨hN.h10⟩
    have z0 := hzb.c0
    have z1 := hzb.c1
    have zf := hzb.free
    clear HW0 e00' e01' hN
    go_region_held3 (fun w' => w'.cell? ⟨w.heap.size, 0, none⟩ = some (.int .i64 op) ∧ w'.cell? ⟨b, off, none⟩ = some (.int .i64 x0k) ∧ w'.cell? ⟨b, off + 1, none⟩ = some (.bool x0n) ∧ Below (w.heap.size + 1 + 1) W0 w')
      (first | with_reducible exact hS0 | exact ndKeep1 hb (by assumption) (hcall.mono (by omega)) | exact ndStore1 hb (by assumption))
      (first | (go_at_call 88; refine (CU.out _).mono ?_; rintro e w' ⟨rfl, hcall⟩; have hsz := Nat.lt_of_lt_of_le hsz hcall.size; have hzb := Box2.keep hzb hcall hzb.lt; have z0 := hzb.c0; have z1 := hzb.c1; have zf := hzb.free))
    all_goals
      have hx10 := (Box2.store (x' := .int .i64 k1) (y' := .bool n1) hzb).block
      obtain ⟨_, _, _, hBB⟩ := ‹_ ∧ _ ∧ _ ∧ Below _ _ _›
      obtain ⟨hx8, e0, e1, hbl⟩ := HN.out.held hBB hx10
      have HX8 := Lib.hid hx8
      have HBL := Lib.hid hbl
      clear hx8 hbl HN hx10 hBB
      go_wp2_with (with_reducible refine wpList_store_row (o := Oper.mk none (Op.store 97 (.tmp 8) (.tmp 132)) _ _ _ none) rfl 97 (.tmp 8) (.tmp 132) rfl (w.heap.size + 1) #[.int .i64 k1, .bool n1] ?rndUtbqx ?rndUtbqy 97 _ HX8.out ?rndUtbqi ?rndUtbqo ?rndUtbq1 ?rndUtbqk)
      case rndUtbqx => rfl
      case rndUtbqy => rfl
      case rndUtbqi => kernel_rfl
      case rndUtbqo => rfl
      case rndUtbq1 => simp [Value.oneCell']
      go_wp2_with fail
      have hld := box_kt (setRow_heap _ _ _ #[.int .i64 k1, .bool n1] _ _ HX8.out)
      exact bodyPost_ret (v := .tuple #[.agg #[.int .i64 k1, .bool n1], .int .i64 0]) (by simp [results, Tryd.results72, Act.put, asAddr, hld]) rfl ⟨rfl, HBL.out.grown (grown_rowT _ _ _) HBL.out.size (fun z hz => by cases hz; omega)⟩
theorem ndKeep2 {w W0 w1 w2 : World} {op x0k x1k : Int} {x0n x1n : Bool} {b off : Nat} (hb : b < w.heap.size) (h : w1.cell? ⟨w.heap.size, 0, none⟩ = some (.int .i64 op) ∧ w1.cell? ⟨b, off, none⟩ = some (.int .i64 x0k) ∧ w1.cell? ⟨b, off + 1, none⟩ = some (.bool x0n) ∧ w1.cell? ⟨b, off + 2, none⟩ = some (.int .i64 x1k) ∧ w1.cell? ⟨b, off + 3, none⟩ = some (.bool x1n) ∧ Below (w.heap.size + 1 + 1) W0 w1) (h2 : Below (w.heap.size + 1 + 1) w1 w2) : w2.cell? ⟨w.heap.size, 0, none⟩ = some (.int .i64 op) ∧ w2.cell? ⟨b, off, none⟩ = some (.int .i64 x0k) ∧ w2.cell? ⟨b, off + 1, none⟩ = some (.bool x0n) ∧ w2.cell? ⟨b, off + 2, none⟩ = some (.int .i64 x1k) ∧ w2.cell? ⟨b, off + 3, none⟩ = some (.bool x1n) ∧ Below (w.heap.size + 1 + 1) W0 w2 := by
  obtain ⟨a0, a1, a2, a3, a4, hB⟩ := h
  have e : ∀ p : Addr, p.block < w.heap.size + 1 + 1 → w2.cell? p = w1.cell? p := fun p h => h2.cell h
  exact ⟨(e ⟨w.heap.size, 0, none⟩ (by show w.heap.size < _; omega)).trans a0 , (e ⟨b, off, none⟩ (by show b < _; omega)).trans a1 , (e ⟨b, off + 1, none⟩ (by show b < _; omega)).trans a2 , (e ⟨b, off + 2, none⟩ (by show b < _; omega)).trans a3 , (e ⟨b, off + 3, none⟩ (by show b < _; omega)).trans a4, hB.trans h2⟩
theorem ndStore2 {w W0 w1 : World} {op x0k x1k : Int} {x0n x1n : Bool} {b off : Nat} {u0 u1 : Value} (hb : b < w.heap.size) (h : w1.cell? ⟨w.heap.size, 0, none⟩ = some (.int .i64 op) ∧ w1.cell? ⟨b, off, none⟩ = some (.int .i64 x0k) ∧ w1.cell? ⟨b, off + 1, none⟩ = some (.bool x0n) ∧ w1.cell? ⟨b, off + 2, none⟩ = some (.int .i64 x1k) ∧ w1.cell? ⟨b, off + 3, none⟩ = some (.bool x1n) ∧ Below (w.heap.size + 1 + 1) W0 w1) : ((w1.setCell ⟨w.heap.size + 1 + 1, 0, none⟩ u0).setCell ⟨w.heap.size + 1 + 1, 1, none⟩ u1).cell? ⟨w.heap.size, 0, none⟩ = some (.int .i64 op) ∧ ((w1.setCell ⟨w.heap.size + 1 + 1, 0, none⟩ u0).setCell ⟨w.heap.size + 1 + 1, 1, none⟩ u1).cell? ⟨b, off, none⟩ = some (.int .i64 x0k) ∧ ((w1.setCell ⟨w.heap.size + 1 + 1, 0, none⟩ u0).setCell ⟨w.heap.size + 1 + 1, 1, none⟩ u1).cell? ⟨b, off + 1, none⟩ = some (.bool x0n) ∧ ((w1.setCell ⟨w.heap.size + 1 + 1, 0, none⟩ u0).setCell ⟨w.heap.size + 1 + 1, 1, none⟩ u1).cell? ⟨b, off + 2, none⟩ = some (.int .i64 x1k) ∧ ((w1.setCell ⟨w.heap.size + 1 + 1, 0, none⟩ u0).setCell ⟨w.heap.size + 1 + 1, 1, none⟩ u1).cell? ⟨b, off + 3, none⟩ = some (.bool x1n) ∧ Below (w.heap.size + 1 + 1) W0 ((w1.setCell ⟨w.heap.size + 1 + 1, 0, none⟩ u0).setCell ⟨w.heap.size + 1 + 1, 1, none⟩ u1) :=
  ndKeep2 hb h (((Below.refl _ _).setCell (p := ⟨w.heap.size + 1 + 1, 0, none⟩) (Nat.le_refl _) u0).setCell (p := ⟨w.heap.size + 1 + 1, 1, none⟩) (Nat.le_refl _) u1)
theorem ndKeep3 {w W0 w1 w2 : World} {op x0k x1k x2k : Int} {x0n x1n x2n : Bool} {b off : Nat} (hb : b < w.heap.size) (h : w1.cell? ⟨w.heap.size, 0, none⟩ = some (.int .i64 op) ∧ w1.cell? ⟨b, off, none⟩ = some (.int .i64 x0k) ∧ w1.cell? ⟨b, off + 1, none⟩ = some (.bool x0n) ∧ w1.cell? ⟨b, off + 2, none⟩ = some (.int .i64 x1k) ∧ w1.cell? ⟨b, off + 3, none⟩ = some (.bool x1n) ∧ w1.cell? ⟨b, off + 4, none⟩ = some (.int .i64 x2k) ∧ w1.cell? ⟨b, off + 5, none⟩ = some (.bool x2n) ∧ Below (w.heap.size + 1 + 1) W0 w1) (h2 : Below (w.heap.size + 1 + 1) w1 w2) : w2.cell? ⟨w.heap.size, 0, none⟩ = some (.int .i64 op) ∧ w2.cell? ⟨b, off, none⟩ = some (.int .i64 x0k) ∧ w2.cell? ⟨b, off + 1, none⟩ = some (.bool x0n) ∧ w2.cell? ⟨b, off + 2, none⟩ = some (.int .i64 x1k) ∧ w2.cell? ⟨b, off + 3, none⟩ = some (.bool x1n) ∧ w2.cell? ⟨b, off + 4, none⟩ = some (.int .i64 x2k) ∧ w2.cell? ⟨b, off + 5, none⟩ = some (.bool x2n) ∧ Below (w.heap.size + 1 + 1) W0 w2 := by
  obtain ⟨a0, a1, a2, a3, a4, a5, a6, hB⟩ := h
  have e : ∀ p : Addr, p.block < w.heap.size + 1 + 1 → w2.cell? p = w1.cell? p := fun p h => h2.cell h
  exact ⟨(e ⟨w.heap.size, 0, none⟩ (by show w.heap.size < _; omega)).trans a0 , (e ⟨b, off, none⟩ (by show b < _; omega)).trans a1 , (e ⟨b, off + 1, none⟩ (by show b < _; omega)).trans a2 , (e ⟨b, off + 2, none⟩ (by show b < _; omega)).trans a3 , (e ⟨b, off + 3, none⟩ (by show b < _; omega)).trans a4 , (e ⟨b, off + 4, none⟩ (by show b < _; omega)).trans a5 , (e ⟨b, off + 5, none⟩ (by show b < _; omega)).trans a6, hB.trans h2⟩
theorem ndStore3 {w W0 w1 : World} {op x0k x1k x2k : Int} {x0n x1n x2n : Bool} {b off : Nat} {u0 u1 : Value} (hb : b < w.heap.size) (h : w1.cell? ⟨w.heap.size, 0, none⟩ = some (.int .i64 op) ∧ w1.cell? ⟨b, off, none⟩ = some (.int .i64 x0k) ∧ w1.cell? ⟨b, off + 1, none⟩ = some (.bool x0n) ∧ w1.cell? ⟨b, off + 2, none⟩ = some (.int .i64 x1k) ∧ w1.cell? ⟨b, off + 3, none⟩ = some (.bool x1n) ∧ w1.cell? ⟨b, off + 4, none⟩ = some (.int .i64 x2k) ∧ w1.cell? ⟨b, off + 5, none⟩ = some (.bool x2n) ∧ Below (w.heap.size + 1 + 1) W0 w1) : ((w1.setCell ⟨w.heap.size + 1 + 1, 0, none⟩ u0).setCell ⟨w.heap.size + 1 + 1, 1, none⟩ u1).cell? ⟨w.heap.size, 0, none⟩ = some (.int .i64 op) ∧ ((w1.setCell ⟨w.heap.size + 1 + 1, 0, none⟩ u0).setCell ⟨w.heap.size + 1 + 1, 1, none⟩ u1).cell? ⟨b, off, none⟩ = some (.int .i64 x0k) ∧ ((w1.setCell ⟨w.heap.size + 1 + 1, 0, none⟩ u0).setCell ⟨w.heap.size + 1 + 1, 1, none⟩ u1).cell? ⟨b, off + 1, none⟩ = some (.bool x0n) ∧ ((w1.setCell ⟨w.heap.size + 1 + 1, 0, none⟩ u0).setCell ⟨w.heap.size + 1 + 1, 1, none⟩ u1).cell? ⟨b, off + 2, none⟩ = some (.int .i64 x1k) ∧ ((w1.setCell ⟨w.heap.size + 1 + 1, 0, none⟩ u0).setCell ⟨w.heap.size + 1 + 1, 1, none⟩ u1).cell? ⟨b, off + 3, none⟩ = some (.bool x1n) ∧ ((w1.setCell ⟨w.heap.size + 1 + 1, 0, none⟩ u0).setCell ⟨w.heap.size + 1 + 1, 1, none⟩ u1).cell? ⟨b, off + 4, none⟩ = some (.int .i64 x2k) ∧ ((w1.setCell ⟨w.heap.size + 1 + 1, 0, none⟩ u0).setCell ⟨w.heap.size + 1 + 1, 1, none⟩ u1).cell? ⟨b, off + 5, none⟩ = some (.bool x2n) ∧ Below (w.heap.size + 1 + 1) W0 ((w1.setCell ⟨w.heap.size + 1 + 1, 0, none⟩ u0).setCell ⟨w.heap.size + 1 + 1, 1, none⟩ u1) :=
  ndKeep3 hb h (((Below.refl _ _).setCell (p := ⟨w.heap.size + 1 + 1, 0, none⟩) (Nat.le_refl _) u0).setCell (p := ⟨w.heap.size + 1 + 1, 1, none⟩) (Nat.le_refl _) u1)
set_option maxHeartbeats 4000000 in
theorem rndB (t : Nd) (b off cap : Nat) (x y : KT) (x2 x3 : Value) (w : World) (h : (4 ≤ t.op ∧ t.op ≤ 15) ∨ t.op = 18) (hb : b < w.heap.size) (h0 : w.cell? ⟨b, off, none⟩ = some (.int .i64 x.1)) (h1 : w.cell? ⟨b, off + 1, none⟩ = some (.bool x.2)) (h2 : w.cell? ⟨b, off + 2, none⟩ = some (.int .i64 y.1)) (h3 : w.cell? ⟨b, off + 3, none⟩ = some (.bool y.2)) : Calls Tryd.prog 72 #[ndV t, .slice (some ⟨b, off, none⟩) 2 cap, x2, x3] w fun e w' => e = .returned (if (binT t.op x y).2 then .tuple #[ktV (binT t.op x y).1, .int .i64 0] else .tuple #[ktV (0, false), .int .i64 7]) ∧ Below w.heap.size w w' := by
  have HN := Lib.hid (NdW.start w t)
  have CU := Lib.hid (fun W => binary_any t.op x y W)
  obtain ⟨op, ⟨vk, vn, vs⟩, nm, ar⟩ := t
  obtain ⟨x0k, x0n⟩ := x
  obtain ⟨x1k, x1n⟩ := y
  unfold ndV
  simp only at h HN CU h0 h1 h2 h3 ⊢
  generalize binT op (x0k, x0n) (x1k, x1n) = D at *
  obtain ⟨⟨k1, n1⟩, q⟩ := D
  simp only at CU ⊢
  obtain ⟨b0, b1, b17, b20, b21⟩ : (op == 0) = false ∧ (op == 1) = false ∧ (op == 17) = false ∧ (op == 20) = false ∧ (op == 21) = false := by
    refine ⟨?_, ?_, ?_, ?_, ?_⟩ <;> (simp only [beq_eq_false_iff_ne]; omega)
  clear h
  cases q
  · simp only [Bool.false_eq_true, if_false, if_true]
    obtain ⟨W0, hW0⟩ : ∃ W0, (((w.alloc (.cells #[.int .i64 op, .int .i64 vk, .int .i64 vn, .string vs, .string nm, .int .i64 ar] 26)).alloc (.cells #[.int .i64 0, .bool false] 97)).alloc (.cells #[.int .i64 0, .bool false] 97)) = W0 := ⟨_, rfl⟩
    rw [hW0] at HN
    have e00' : W0.drew.cell? ⟨b, off, none⟩ = _ := (HN.out.bel.cell (p := ⟨b, off, none⟩) hb).trans h0
    have e01' : W0.drew.cell? ⟨b, off + 1, none⟩ = _ := (HN.out.bel.cell (p := ⟨b, off + 1, none⟩) hb).trans h1
    have e10' : W0.drew.cell? ⟨b, off + 2, none⟩ = _ := (HN.out.bel.cell (p := ⟨b, off + 2, none⟩) hb).trans h2
    have e11' : W0.drew.cell? ⟨b, off + 3, none⟩ = _ := (HN.out.bel.cell (p := ⟨b, off + 3, none⟩) hb).trans h3
    have c0' := HN.out.cells.1
    clear h0 h1 h2 h3
    have HW0 := Lib.hid hW0
    clear hW0
    go_enter Tryd.func72, Tryd.ntmps72
    go_wp2_with fail
    rw [HW0.out]
    clear c0'
    have HND := Lib.hid HN.out.drew
    have hN := HN.out.drew
    have hS0 : W0.drew.cell? ⟨w.heap.size, 0, none⟩ = some (.int .i64 op) ∧ W0.drew.cell? ⟨b, off, none⟩ = some (.int .i64 x0k) ∧ W0.drew.cell? ⟨b, off + 1, none⟩ = some (.bool x0n) ∧ W0.drew.cell? ⟨b, off + 2, none⟩ = some (.int .i64 x1k) ∧ W0.drew.cell? ⟨b, off + 3, none⟩ = some (.bool x1n) ∧ Below (w.heap.size + 1 + 1) W0 W0.drew := ⟨hN.cells.1, e00', e01', e10', e11', (Below.refl _ _).drew⟩
    have hsz := hN.sz
    have hzb : Box2 W0.drew (w.heap.size + 1 + 1) (.int .i64 0) (.bool false) 97 := ⟨hN.h10⟩
    have z0 := hzb.c0
    have z1 := hzb.c1
    have zf := hzb.free
    clear HW0 e00' e01' e10' e11' hN
    go_region_held3 (fun w' => w'.cell? ⟨w.heap.size, 0, none⟩ = some (.int .i64 op) ∧ w'.cell? ⟨b, off, none⟩ = some (.int .i64 x0k) ∧ w'.cell? ⟨b, off + 1, none⟩ = some (.bool x0n) ∧ w'.cell? ⟨b, off + 2, none⟩ = some (.int .i64 x1k) ∧ w'.cell? ⟨b, off + 3, none⟩ = some (.bool x1n) ∧ Below (w.heap.size + 1 + 1) W0 w')
      (first | with_reducible exact hS0 | exact ndKeep2 hb (by assumption) (hcall.mono (by omega)) | exact ndStore2 hb (by assumption))
      (first | (go_at_call 89; refine (CU.out _).mono ?_; rintro e w' ⟨rfl, hcall⟩; have hsz := Nat.lt_of_lt_of_le hsz hcall.size; have hzb := Box2.keep hzb hcall hzb.lt; have z0 := hzb.c0; have z1 := hzb.c1; have zf := hzb.free))
    all_goals
      have hx10 := (Box2.store (x' := .int .i64 k1) (y' := .bool n1) hzb).block
      obtain ⟨_, _, _, _, _, hBB⟩ := ‹_ ∧ _ ∧ _ ∧ _ ∧ _ ∧ Below _ _ _›
      obtain ⟨hx8, e0, e1, hbl⟩ := HN.out.held hBB hx10
      have HX8 := Lib.hid hx8
      have HBL := Lib.hid hbl
      clear hx8 hbl HN hx10 hBB
      go_wp2_with (with_reducible refine wpList_store_row (o := Oper.mk none (Op.store 97 (.tmp 8) (.tmp 131)) _ _ _ none) rfl 97 (.tmp 8) (.tmp 131) rfl (w.heap.size + 1) #[.int .i64 0, .bool false] ?rndBfbqx ?rndBfbqy 97 _ HX8.out ?rndBfbqi ?rndBfbqo ?rndBfbq1 ?rndBfbqk)
      case rndBfbqx => rfl
      case rndBfbqy => rfl
      case rndBfbqi => kernel_rfl
      case rndBfbqo => rfl
      case rndBfbq1 => simp [Value.oneCell']
      go_wp2_with fail
      have hld := box_kt (setRow_heap _ _ _ #[.int .i64 0, .bool false] _ _ HX8.out)
      exact bodyPost_ret (v := .tuple #[.agg #[.int .i64 0, .bool false], .int .i64 7]) (by simp [results, Tryd.results72, Act.put, asAddr, hld]) rfl ⟨rfl, HBL.out.grown (grown_rowT _ _ _) HBL.out.size (fun z hz => by cases hz; omega)⟩
  · simp only [Bool.false_eq_true, if_false, if_true]
    obtain ⟨W0, hW0⟩ : ∃ W0, (((w.alloc (.cells #[.int .i64 op, .int .i64 vk, .int .i64 vn, .string vs, .string nm, .int .i64 ar] 26)).alloc (.cells #[.int .i64 0, .bool false] 97)).alloc (.cells #[.int .i64 0, .bool false] 97)) = W0 := ⟨_, rfl⟩
    rw [hW0] at HN
    have e00' : W0.drew.cell? ⟨b, off, none⟩ = _ := (HN.out.bel.cell (p := ⟨b, off, none⟩) hb).trans h0
    have e01' : W0.drew.cell? ⟨b, off + 1, none⟩ = _ := (HN.out.bel.cell (p := ⟨b, off + 1, none⟩) hb).trans h1
    have e10' : W0.drew.cell? ⟨b, off + 2, none⟩ = _ := (HN.out.bel.cell (p := ⟨b, off + 2, none⟩) hb).trans h2
    have e11' : W0.drew.cell? ⟨b, off + 3, none⟩ = _ := (HN.out.bel.cell (p := ⟨b, off + 3, none⟩) hb).trans h3
    have c0' := HN.out.cells.1
    clear h0 h1 h2 h3
    have HW0 := Lib.hid hW0
    clear hW0
    go_enter Tryd.func72, Tryd.ntmps72
    go_wp2_with fail
    rw [HW0.out]
    clear c0'
    have HND := Lib.hid HN.out.drew
    have hN := HN.out.drew
    have hS0 : W0.drew.cell? ⟨w.heap.size, 0, none⟩ = some (.int .i64 op) ∧ W0.drew.cell? ⟨b, off, none⟩ = some (.int .i64 x0k) ∧ W0.drew.cell? ⟨b, off + 1, none⟩ = some (.bool x0n) ∧ W0.drew.cell? ⟨b, off + 2, none⟩ = some (.int .i64 x1k) ∧ W0.drew.cell? ⟨b, off + 3, none⟩ = some (.bool x1n) ∧ Below (w.heap.size + 1 + 1) W0 W0.drew := ⟨hN.cells.1, e00', e01', e10', e11', (Below.refl _ _).drew⟩
    have hsz := hN.sz
    have hzb : Box2 W0.drew (w.heap.size + 1 + 1) (.int .i64 0) (.bool false) 97 := ⟨hN.h10⟩
    have z0 := hzb.c0
    have z1 := hzb.c1
    have zf := hzb.free
    clear HW0 e00' e01' e10' e11' hN
    go_region_held3 (fun w' => w'.cell? ⟨w.heap.size, 0, none⟩ = some (.int .i64 op) ∧ w'.cell? ⟨b, off, none⟩ = some (.int .i64 x0k) ∧ w'.cell? ⟨b, off + 1, none⟩ = some (.bool x0n) ∧ w'.cell? ⟨b, off + 2, none⟩ = some (.int .i64 x1k) ∧ w'.cell? ⟨b, off + 3, none⟩ = some (.bool x1n) ∧ Below (w.heap.size + 1 + 1) W0 w')
      (first | with_reducible exact hS0 | exact ndKeep2 hb (by assumption) (hcall.mono (by omega)) | exact ndStore2 hb (by assumption))
      (first | (go_at_call 89; refine (CU.out _).mono ?_; rintro e w' ⟨rfl, hcall⟩; have hsz := Nat.lt_of_lt_of_le hsz hcall.size; have hzb := Box2.keep hzb hcall hzb.lt; have z0 := hzb.c0; have z1 := hzb.c1; have zf := hzb.free))
    all_goals
      have hx10 := (Box2.store (x' := .int .i64 k1) (y' := .bool n1) hzb).block
      obtain ⟨_, _, _, _, _, hBB⟩ := ‹_ ∧ _ ∧ _ ∧ _ ∧ _ ∧ Below _ _ _›
      obtain ⟨hx8, e0, e1, hbl⟩ := HN.out.held hBB hx10
      have HX8 := Lib.hid hx8
      have HBL := Lib.hid hbl
      clear hx8 hbl HN hx10 hBB
      go_wp2_with (with_reducible refine wpList_store_row (o := Oper.mk none (Op.store 97 (.tmp 8) (.tmp 132)) _ _ _ none) rfl 97 (.tmp 8) (.tmp 132) rfl (w.heap.size + 1) #[.int .i64 k1, .bool n1] ?rndBtbqx ?rndBtbqy 97 _ HX8.out ?rndBtbqi ?rndBtbqo ?rndBtbq1 ?rndBtbqk)
      case rndBtbqx => rfl
      case rndBtbqy => rfl
      case rndBtbqi => kernel_rfl
      case rndBtbqo => rfl
      case rndBtbq1 => simp [Value.oneCell']
      go_wp2_with fail
      have hld := box_kt (setRow_heap _ _ _ #[.int .i64 k1, .bool n1] _ _ HX8.out)
      exact bodyPost_ret (v := .tuple #[.agg #[.int .i64 k1, .bool n1], .int .i64 0]) (by simp [results, Tryd.results72, Act.put, asAddr, hld]) rfl ⟨rfl, HBL.out.grown (grown_rowT _ _ _) HBL.out.size (fun z hz => by cases hz; omega)⟩
end Go.Proofs.YtmdpjahhhfajaaaDoor
