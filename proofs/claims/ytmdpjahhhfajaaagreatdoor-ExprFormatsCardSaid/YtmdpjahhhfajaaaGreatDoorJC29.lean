/-
  The program: writeConstant. · The program: writeCall.
-/
import Derived.Test.YtmdpjahhhfajaaaGreatDoorJC28
import Derived.LoopTactic
set_option linter.unusedVariables false
set_option linter.unusedSimpArgs false
set_option maxRecDepth 100000
namespace Go.Proofs.YtmdpjahhhfajaaaGreatDoor
open Go.RowKit Go.Joins Wh
theorem pc_zero (w : World) (o : Obj) : ((w.alloc o).alloc (.cells #[.string ⟨#[]⟩, .int .i64 0, .bool false] 76)).heap[w.heap.size + 1]? = some (.cells #[.string ⟨#[]⟩, .int .i64 0, .bool false] 76 (0, 0)) := by
 have h := heap_alloc_new (w.alloc o) (.cells #[.string ⟨#[]⟩, .int .i64 0, .bool false] 76)
 rw [show (w.alloc o).heap.size = w.heap.size + 1 by simp] at h
 exact h
set_option maxHeartbeats 8000000 in
theorem pwcst_any (v : V) (hv : validB v.k v.n v.s = true) (w : World) (hg : Glo w) : Calls Tryz.prog 67 #[.agg #[.int .i64 v.k, .int .i64 v.n, .string v.s]] w fun e w' => e = .returned (pcV (cstP v)) ∧ Below w.heap.size w w' := by
 obtain ⟨k, n, s⟩ := v
 have hc := valid_cases8 hv
 simp only at hc ⊢
 clear hv
 have HZ := Lib.hid (pc_zero w (.cells #[.int .i64 k, .int .i64 n, .string s] 51))
 have hbel : Below w.heap.size w ((w.alloc (.cells #[.int .i64 k, .int .i64 n, .string s] 51)).alloc (.cells #[.string ⟨#[]⟩, .int .i64 0, .bool false] 76)) := ((Below.refl _ _).alloc (Nat.le_refl _) _).alloc (by simp) _
 have hsz : ((w.alloc (.cells #[.int .i64 k, .int .i64 n, .string s] 51)).alloc (.cells #[.string ⟨#[]⟩, .int .i64 0, .bool false] 76)).heap.size = w.heap.size + 2 := by simp
 have hk : ((w.alloc (.cells #[.int .i64 k, .int .i64 n, .string s] 51)).alloc (.cells #[.string ⟨#[]⟩, .int .i64 0, .bool false] 76)).heap[w.heap.size]? = some (.cells #[.int .i64 k, .int .i64 n, .string s] 51 (0, 0)) := by
  rw [Below.heap_alloc _ _ _ (by simp)]
  exact heap_alloc_new w _
 have KEEP : Hid (∀ W, Below (w.heap.size + 2) ((w.alloc (.cells #[.int .i64 k, .int .i64 n, .string s] 51)).alloc (.cells #[.string ⟨#[]⟩, .int .i64 0, .bool false] 76)) W → (W.cell? ⟨w.heap.size, 0, none⟩ = some (.int .i64 k) ∧ W.cell? ⟨w.heap.size, 1, none⟩ = some (.int .i64 n)) ∧ W.heap[w.heap.size + 1]? = some (.cells #[.string ⟨#[]⟩, .int .i64 0, .bool false] 76 (0, 0)) ∧ Below w.heap.size w W) := fun W hb => by
  have h0 : W.heap[w.heap.size]? = some (.cells #[.int .i64 k, .int .i64 n, .string s] 51 (0, 0)) := by rw [hb.block _ (by omega)]; exact hk
  exact ⟨⟨(cell_of_row _ _ 0 _ _ _ h0).trans rfl, (cell_of_row _ _ 1 _ _ _ h0).trans rfl⟩, by rw [hb.block _ (by omega)]; exact HZ.out, hbel.trans (hb.mono (by omega))⟩
 have HBEL := Lib.hid hbel
 have HSZ := Lib.hid hsz
 clear hbel hsz hk
 rcases hc with ⟨rfl, rfl, rfl⟩ | ⟨rfl, hn, rfl⟩ | ⟨rfl, h0, h1, rfl⟩ | ⟨rfl, rfl, hs⟩ | ⟨rfl, h0, h1, rfl⟩
 ·have hE : pcV (cstP ⟨0, 0, ⟨#[]⟩⟩) = .agg #[.string ⟨#[110, 117, 108, 108]⟩, .int .i64 8, .bool false] := rfl
  rw [hE]
  clear HZ
  go_enter Tryz.func67, Tryz.ntmps67
  obtain ⟨⟨c0, c1⟩, HX, hB5⟩ := KEEP.out _ (Below.refl _ _)
  have HX := Lib.hid HX
  have HB5 := Lib.hid hB5
  clear hB5 KEEP HBEL HSZ
  go_wp2_with (with_reducible refine wpList_store_row (o := Oper.mk none (Op.store 76 (.tmp 2) (.tmp 38)) _ _ _ none) rfl 76 (.tmp 2) (.tmp 38) rfl (w.heap.size + 1) #[.string ⟨#[110, 117, 108, 108]⟩, .int .i64 8, .bool false] ?h0qgx ?h0qgy 76 _ HX.out ?h0qgi ?h0qgo ?h0qg1 ?h0qgk)
  case h0qgx => rfl
  case h0qgy => rfl
  case h0qgi => kernel_rfl
  case h0qgo => rfl
  case h0qg1 => simp [Value.oneCell']
  go_wp2_with fail
  have hld := box_pc (w := ((w.alloc (.cells #[.int .i64 0, .int .i64 0, .string ⟨#[]⟩] 51)).alloc (.cells #[.string ⟨#[]⟩, .int .i64 0, .bool false] 76)).setRow (w.heap.size + 1) #[.string ⟨#[110, 117, 108, 108]⟩, .int .i64 8, .bool false]) (setRow_heap _ _ _ _ _ _ HX.out)
  exact bodyPost_ret (v := .agg #[.string ⟨#[110, 117, 108, 108]⟩, .int .i64 8, .bool false]) (by simp [results, Tryz.results67, Act.put, asAddr, hld]) rfl ⟨rfl, HB5.out.grown (grown_setRow _ _ _) HB5.out.size (fun z hz => by cases hz; omega)⟩
 ·rcases hn with rfl | rfl
  ·have hE : pcV (cstP ⟨1, 0, ⟨#[]⟩⟩) = .agg #[.string falS, .int .i64 8, .bool false] := by unfold pcV cstP; simp; exact mk_eq
   rw [hE]
   have C := Lib.hid (fun W (hb : Below w.heap.size w W) => pfbool_any false W)
   rw [if_neg (by simp)] at C
   generalize falS = o at *
   clear hg
   clear HZ
   go_enter Tryz.func67, Tryz.ntmps67
   go_wp2_with fail
   refine (C.out _ HBEL.out).mono ?_
   rintro e w5 ⟨rfl, rfl⟩
   have hb5 : Below ((w.alloc (.cells #[.int .i64 1, .int .i64 0, .string ⟨#[]⟩] 51)).alloc (.cells #[.string ⟨#[]⟩, .int .i64 0, .bool false] 76)).heap.size ((w.alloc (.cells #[.int .i64 1, .int .i64 0, .string ⟨#[]⟩] 51)).alloc (.cells #[.string ⟨#[]⟩, .int .i64 0, .bool false] 76)) ((w.alloc (.cells #[.int .i64 1, .int .i64 0, .string ⟨#[]⟩] 51)).alloc (.cells #[.string ⟨#[]⟩, .int .i64 0, .bool false] 76)) := Below.refl _ _
   generalize (w.alloc (.cells #[.int .i64 1, .int .i64 0, .string ⟨#[]⟩] 51)).alloc (.cells #[.string ⟨#[]⟩, .int .i64 0, .bool false] 76) = w5 at *
   obtain ⟨⟨c0, c1⟩, HX, hB5⟩ := KEEP.out w5 (hb5.mono (by rw [HSZ.out]; exact Nat.le_refl _))
   have HX := Lib.hid HX
   have HB5 := Lib.hid hB5
   clear hb5 hB5 C KEEP HBEL HSZ
   go_wp2_with (with_reducible refine wpList_store_row (o := Oper.mk none (Op.store 76 (.tmp 2) (.tmp 38)) _ _ _ none) rfl 76 (.tmp 2) (.tmp 38) rfl (w.heap.size + 1) #[.string o, .int .i64 8, .bool false] ?h1qgx ?h1qgy 76 _ HX.out ?h1qgi ?h1qgo ?h1qg1 ?h1qgk)
   case h1qgx => rfl
   case h1qgy => rfl
   case h1qgi => kernel_rfl
   case h1qgo => rfl
   case h1qg1 => simp [Value.oneCell']
   go_wp2_with fail
   have hld := box_pc (w := w5.setRow (w.heap.size + 1) #[.string o, .int .i64 8, .bool false]) (setRow_heap _ _ _ _ _ _ HX.out)
   exact bodyPost_ret (v := .agg #[.string o, .int .i64 8, .bool false]) (by simp [results, Tryz.results67, Act.put, asAddr, hld]) rfl ⟨rfl, HB5.out.grown (grown_setRow _ _ _) HB5.out.size (fun z hz => by cases hz; omega)⟩
  ·have hE : pcV (cstP ⟨1, 1, ⟨#[]⟩⟩) = .agg #[.string truS, .int .i64 8, .bool false] := by unfold pcV cstP; simp; exact mk_eq
   rw [hE]
   have C := Lib.hid (fun W (hb : Below w.heap.size w W) => pfbool_any true W)
   rw [if_pos rfl] at C
   generalize truS = o at *
   clear hg
   clear HZ
   go_enter Tryz.func67, Tryz.ntmps67
   go_wp2_with fail
   refine (C.out _ HBEL.out).mono ?_
   rintro e w5 ⟨rfl, rfl⟩
   have hb5 : Below ((w.alloc (.cells #[.int .i64 1, .int .i64 1, .string ⟨#[]⟩] 51)).alloc (.cells #[.string ⟨#[]⟩, .int .i64 0, .bool false] 76)).heap.size ((w.alloc (.cells #[.int .i64 1, .int .i64 1, .string ⟨#[]⟩] 51)).alloc (.cells #[.string ⟨#[]⟩, .int .i64 0, .bool false] 76)) ((w.alloc (.cells #[.int .i64 1, .int .i64 1, .string ⟨#[]⟩] 51)).alloc (.cells #[.string ⟨#[]⟩, .int .i64 0, .bool false] 76)) := Below.refl _ _
   generalize (w.alloc (.cells #[.int .i64 1, .int .i64 1, .string ⟨#[]⟩] 51)).alloc (.cells #[.string ⟨#[]⟩, .int .i64 0, .bool false] 76) = w5 at *
   obtain ⟨⟨c0, c1⟩, HX, hB5⟩ := KEEP.out w5 (hb5.mono (by rw [HSZ.out]; exact Nat.le_refl _))
   have HX := Lib.hid HX
   have HB5 := Lib.hid hB5
   clear hb5 hB5 C KEEP HBEL HSZ
   go_wp2_with (with_reducible refine wpList_store_row (o := Oper.mk none (Op.store 76 (.tmp 2) (.tmp 38)) _ _ _ none) rfl 76 (.tmp 2) (.tmp 38) rfl (w.heap.size + 1) #[.string o, .int .i64 8, .bool false] ?h2qgx ?h2qgy 76 _ HX.out ?h2qgi ?h2qgo ?h2qg1 ?h2qgk)
   case h2qgx => rfl
   case h2qgy => rfl
   case h2qgi => kernel_rfl
   case h2qgo => rfl
   case h2qg1 => simp [Value.oneCell']
   go_wp2_with fail
   have hld := box_pc (w := w5.setRow (w.heap.size + 1) #[.string o, .int .i64 8, .bool false]) (setRow_heap _ _ _ _ _ _ HX.out)
   exact bodyPost_ret (v := .agg #[.string o, .int .i64 8, .bool false]) (by simp [results, Tryz.results67, Act.put, asAddr, hld]) rfl ⟨rfl, HB5.out.grown (grown_setRow _ _ _) HB5.out.size (fun z hz => by cases hz; omega)⟩
 ·by_cases hn : n < 0
  ·have hE : pcV (cstP ⟨2, n, ⟨#[]⟩⟩) = .agg #[.string ⟨(45 :: Lib.decDigits (-n).toNat).toArray⟩, .int .i64 7, .bool true] := by unfold pcV cstP; simp [hn]
   rw [hE]
   have C := Lib.hid (fun W (hb : Below w.heap.size w W) => itoaz_any n h0 h1 W (hg.next hb))
   rw [if_pos hn] at C
   unfold IsStr at C
   generalize (⟨(45 :: Lib.decDigits (-n).toNat).toArray⟩ : ByteArray) = o at *
   clear hg hE
   clear HZ
   go_enter Tryz.func67, Tryz.ntmps67
   go_wp2_with fail
   refine (C.out _ HBEL.out).mono ?_
   rintro e w5 ⟨rfl, hb5⟩
   obtain ⟨⟨c0, c1⟩, HX, hB5⟩ := KEEP.out w5 (hb5.mono (by rw [HSZ.out]; exact Nat.le_refl _))
   have HX := Lib.hid HX
   have HB5 := Lib.hid hB5
   clear hb5 hB5 C KEEP HBEL HSZ
   go_wp2_with (with_reducible refine wpList_store_row (o := Oper.mk none (Op.store 76 (.tmp 2) (.tmp 38)) _ _ _ none) rfl 76 (.tmp 2) (.tmp 38) rfl (w.heap.size + 1) #[.string o, .int .i64 7, .bool true] ?h3qgx ?h3qgy 76 _ HX.out ?h3qgi ?h3qgo ?h3qg1 ?h3qgk)
   case h3qgx => rfl
   case h3qgy => rfl
   case h3qgi => kernel_rfl
   case h3qgo => rfl
   case h3qg1 => simp [Value.oneCell']
   go_wp2_with fail
   have hld := box_pc (w := w5.setRow (w.heap.size + 1) #[.string o, .int .i64 7, .bool true]) (setRow_heap _ _ _ _ _ _ HX.out)
   exact bodyPost_ret (v := .agg #[.string o, .int .i64 7, .bool true]) (by simp [results, Tryz.results67, Act.put, asAddr, hld]) rfl ⟨rfl, HB5.out.grown (grown_setRow _ _ _) HB5.out.size (fun z hz => by cases hz; omega)⟩
  ·have hE : pcV (cstP ⟨2, n, ⟨#[]⟩⟩) = .agg #[.string ⟨(Lib.decDigits n.toNat).toArray⟩, .int .i64 8, .bool true] := by unfold pcV cstP; simp [hn]
   rw [hE]
   have C := Lib.hid (fun W (hb : Below w.heap.size w W) => itoaz_any n h0 h1 W (hg.next hb))
   rw [if_neg hn] at C
   unfold IsStr at C
   generalize (⟨(Lib.decDigits n.toNat).toArray⟩ : ByteArray) = o at *
   clear hg hE
   clear HZ
   go_enter Tryz.func67, Tryz.ntmps67
   go_wp2_with fail
   refine (C.out _ HBEL.out).mono ?_
   rintro e w5 ⟨rfl, hb5⟩
   obtain ⟨⟨c0, c1⟩, HX, hB5⟩ := KEEP.out w5 (hb5.mono (by rw [HSZ.out]; exact Nat.le_refl _))
   have HX := Lib.hid HX
   have HB5 := Lib.hid hB5
   clear hb5 hB5 C KEEP HBEL HSZ
   go_wp2_with (with_reducible refine wpList_store_row (o := Oper.mk none (Op.store 76 (.tmp 2) (.tmp 38)) _ _ _ none) rfl 76 (.tmp 2) (.tmp 38) rfl (w.heap.size + 1) #[.string o, .int .i64 8, .bool true] ?h4qgx ?h4qgy 76 _ HX.out ?h4qgi ?h4qgo ?h4qg1 ?h4qgk)
   case h4qgx => rfl
   case h4qgy => rfl
   case h4qgi => kernel_rfl
   case h4qgo => rfl
   case h4qg1 => simp [Value.oneCell']
   go_wp2_with fail
   have hld := box_pc (w := w5.setRow (w.heap.size + 1) #[.string o, .int .i64 8, .bool true]) (setRow_heap _ _ _ _ _ _ HX.out)
   exact bodyPost_ret (v := .agg #[.string o, .int .i64 8, .bool true]) (by simp [results, Tryz.results67, Act.put, asAddr, hld]) rfl ⟨rfl, HB5.out.grown (grown_setRow _ _ _) HB5.out.size (fun z hz => by cases hz; omega)⟩
 ·have hE : pcV (cstP ⟨3, 0, s⟩) = .agg #[.string ⟨(39 :: (dbl (bts s) ++ [39])).toArray⟩, .int .i64 8, .bool false] := rfl
  rw [hE]
  have hdl := dbl_length_le (bts s)
  rw [bts_length] at hdl
  have C := Lib.hid (fun W (hb : Below w.heap.size w W) => pwtok_any ⟨3, s, 0⟩ _ (by unfold okT; simp [hs]) (by show s.size ≤ _; omega) (pwrite_text s 0 hs) (by simp only [List.length_cons, List.length_append, List.length_nil]; omega) W (hg.next hb))
  unfold IsStr at C
  simp only [tokV] at C
  generalize (⟨(39 :: (dbl (bts s) ++ [39])).toArray⟩ : ByteArray) = o at *
  clear hg hE hdl
  clear HZ
  go_enter Tryz.func67, Tryz.ntmps67
  go_wp2_with fail
  refine (C.out _ HBEL.out).mono ?_
  rintro e w5 ⟨rfl, hb5⟩
  obtain ⟨⟨c0, c1⟩, HX, hB5⟩ := KEEP.out w5 (hb5.mono (by rw [HSZ.out]; exact Nat.le_refl _))
  have HX := Lib.hid HX
  have HB5 := Lib.hid hB5
  clear hb5 hB5 C KEEP HBEL HSZ
  go_wp2_with (with_reducible refine wpList_store_row (o := Oper.mk none (Op.store 76 (.tmp 2) (.tmp 38)) _ _ _ none) rfl 76 (.tmp 2) (.tmp 38) rfl (w.heap.size + 1) #[.string o, .int .i64 8, .bool false] ?h5qgx ?h5qgy 76 _ HX.out ?h5qgi ?h5qgo ?h5qg1 ?h5qgk)
  case h5qgx => rfl
  case h5qgy => rfl
  case h5qgi => kernel_rfl
  case h5qgo => rfl
  case h5qg1 => simp [Value.oneCell']
  go_wp2_with fail
  have hld := box_pc (w := w5.setRow (w.heap.size + 1) #[.string o, .int .i64 8, .bool false]) (setRow_heap _ _ _ _ _ _ HX.out)
  exact bodyPost_ret (v := .agg #[.string o, .int .i64 8, .bool false]) (by simp [results, Tryz.results67, Act.put, asAddr, hld]) rfl ⟨rfl, HB5.out.grown (grown_setRow _ _ _) HB5.out.size (fun z hz => by cases hz; omega)⟩
 ·obtain ⟨y, kk, d, t, hd, ht, hn, he, hl⟩ := timL_of h0 h1
  have hE : pcV (cstP ⟨4, n, ⟨#[]⟩⟩) = .agg #[.string ⟨(64 :: timL n).toArray⟩, .int .i64 8, .bool false] := rfl
  rw [hE, hl]
  have C := Lib.hid (fun W (hb : Below w.heap.size w W) => pwtok_any ⟨4, ⟨#[]⟩, n⟩ (64 :: fmtL y kk d t) (by unfold okT; simp [h0, h1]; decide) (by show (0 : Nat) ≤ _; omega) (by rw [he]; exact pwrite_time y kk d t hd ht hn _) (by simp only [List.length_cons, fmtL_length]; omega) W (hg.next hb))
  unfold IsStr at C
  simp only [tokV] at C
  generalize (⟨(64 :: fmtL y kk d t).toArray⟩ : ByteArray) = o at *
  clear hg hE hl he
  clear HZ
  go_enter Tryz.func67, Tryz.ntmps67
  go_wp2_with fail
  refine (C.out _ HBEL.out).mono ?_
  rintro e w5 ⟨rfl, hb5⟩
  obtain ⟨⟨c0, c1⟩, HX, hB5⟩ := KEEP.out w5 (hb5.mono (by rw [HSZ.out]; exact Nat.le_refl _))
  have HX := Lib.hid HX
  have HB5 := Lib.hid hB5
  clear hb5 hB5 C KEEP HBEL HSZ
  go_wp2_with (with_reducible refine wpList_store_row (o := Oper.mk none (Op.store 76 (.tmp 2) (.tmp 38)) _ _ _ none) rfl 76 (.tmp 2) (.tmp 38) rfl (w.heap.size + 1) #[.string o, .int .i64 8, .bool false] ?h6qgx ?h6qgy 76 _ HX.out ?h6qgi ?h6qgo ?h6qg1 ?h6qgk)
  case h6qgx => rfl
  case h6qgy => rfl
  case h6qgi => kernel_rfl
  case h6qgo => rfl
  case h6qg1 => simp [Value.oneCell']
  go_wp2_with fail
  have hld := box_pc (w := w5.setRow (w.heap.size + 1) #[.string o, .int .i64 8, .bool false]) (setRow_heap _ _ _ _ _ _ HX.out)
  exact bodyPost_ret (v := .agg #[.string o, .int .i64 8, .bool false]) (by simp [results, Tryz.results67, Act.put, asAddr, hld]) rfl ⟨rfl, HB5.out.grown (grown_setRow _ _ _) HB5.out.size (fun z hz => by cases hz; omega)⟩
end Go.Proofs.YtmdpjahhhfajaaaGreatDoor
namespace Wh
open Go Go.Proofs.YtmdpjahhhfajaaaGreatDoor
theorem bltN_sz {op : Int} {nm : ByteArray} {n : Nat} (h : nm.size ≤ n) (hn : 8 ≤ n) : (((bltN op).map (·.1)).getD nm).size ≤ n := by
 cases hb : bltN op with
 | none => exact h
 | some p =>
  have hm := List.mem_of_find?_eq_some hb
  unfold bltP at hm
  simp only [List.mem_cons, List.mem_nil_iff, or_false] at hm
  rcases hm with rfl | rfl | rfl | rfl | rfl <;> (refine Nat.le_trans ?_ hn; simp only [Option.map_some, Option.getD_some]; decide)
theorem comL_tot (xs : List Pc) (ls : List (List UInt8)) : (comL (xs.map (·.tx) ++ ls)).length ≤ totP xs + (ls.map List.length).sum + 2 * (xs.length + ls.length) := by
 have h := comL_len (xs.map (·.tx) ++ ls)
 have hm : ((xs.map (·.tx)).map List.length).sum = totP xs := by unfold totP; rw [List.map_map]; rfl
 simp only [List.map_append, List.sum_append, hm, List.length_append, List.length_map] at h ⊢
 omega
theorem join_mk (ls : List (List UInt8)) : Lib.join ((ls.map fun l => (⟨l.toArray⟩ : ByteArray)).map bts) [44, 32] = comL ls := by
 unfold comL
 rw [List.map_map]
 have : (bts ∘ fun l => (⟨l.toArray⟩ : ByteArray)) = (id : List UInt8 → List UInt8) := rfl
 rw [this, List.map_id]
end Wh
namespace Go.Proofs.YtmdpjahhhfajaaaGreatDoor
open Go.RowKit Go.Joins Wh
set_option maxHeartbeats 8000000 in
theorem pwcall_any (t : Nd) (a : Option Addr) (len cap : Nat) (xs : List Pc) (w : World) (hs : IsPcs w a len xs) (hl : len ≤ 100) (htot : totP xs ≤ 1000000) (hnm : t.nm.size ≤ 1000000) (hT : TabB w) :
  Calls Tryz.prog 72 #[ndV t, .slice a len cap] w fun e w' => e = .returned (pcV ⟨bts (((bltN t.op).map (·.1)).getD t.nm) ++ 40 :: (comL (xs.map (·.tx) ++ if t.op = 20 then [bts t.nm] else []) ++ [41]), 8, false⟩) ∧ Below w.heap.size w w' := by
 have FN := Lib.hid (fun W (hb : Below w.heap.size w W) => functionName_any t W (hT.below hb (Nat.le_refl _)))
 have hfn := bltN_sz (op := t.op) (n := 1000000) hnm (by omega)
 have hln := hs.1
 obtain ⟨op, ⟨vk, vn, vs⟩, nm, ar⟩ := t
 simp only at FN hfn hnm ⊢
 obtain ⟨fb, hfb⟩ : ∃ fb, ((bltN op).map (·.1)).getD nm = fb := ⟨_, rfl⟩
 rw [hfb] at FN hfn ⊢
 unfold ndV at FN ⊢
 simp only at FN ⊢
 obtain ⟨E, hE⟩ : ∃ E, (if op = 20 then [bts nm] else []) = E := ⟨_, rfl⟩
 rw [hE]
 have hEl : (E.map List.length).sum ≤ 1000000 ∧ E.length ≤ 1 := by
  rw [← hE]
  split
  ·simp [bts_length]; exact hnm
  ·simp
 have hjl := comL_tot xs E
 obtain ⟨LL, hLL⟩ : ∃ LL, xs.map (·.tx) ++ E = LL := ⟨_, rfl⟩
 have hLl : LL.length ≤ 101 := by rw [← hLL]; simp; omega
 rw [hLL] at hjl ⊢
 obtain ⟨jl, hj⟩ : ∃ jl, comL LL = jl := ⟨_, rfl⟩
 rw [hj] at hjl ⊢
 have CJ := Lib.hid (fun sa n sc W (h : IsStrs W sa n (LL.map fun l => (⟨l.toArray⟩ : ByteArray))) (h1 : n ≤ 1000000) (h2 : n ≤ sc) => joinc_any sa n sc _ W h h1 h2 (by rw [join_mk, hj]; omega))
 rw [join_mk, hj] at CJ
 unfold IsStr at CJ
 have hpc : pcV ⟨bts fb ++ 40 :: (jl ++ [41]), 8, false⟩ = .agg #[.string (((fb ++ ⟨#[40]⟩) ++ ⟨jl.toArray⟩) ++ ⟨#[41]⟩), .int .i64 8, .bool false] := by
  have : (((fb ++ ⟨#[40]⟩) ++ ⟨jl.toArray⟩) ++ ⟨#[41]⟩ : ByteArray) = ⟨(bts fb ++ 40 :: (jl ++ [41])).toArray⟩ := by
   apply ext_bts
   rw [bts_app, bts_app, bts_app]
   show bts fb ++ [40] ++ jl ++ [41] = bts fb ++ 40 :: (jl ++ [41])
   simp
  rw [this]
  rfl
 rw [hpc]
 have hjs : (⟨jl.toArray⟩ : ByteArray).size ≤ 3000000 := by rw [size_mk]; omega
 generalize (⟨jl.toArray⟩ : ByteArray) = jo at *
 have s1 : ¬ (9223372036854775807 < fb.size + (⟨#[40]⟩ : ByteArray).size) := by show ¬ (9223372036854775807 < fb.size + 1); omega
 have s2 : ¬ (9223372036854775807 < (fb ++ (⟨#[40]⟩ : ByteArray)).size + jo.size) := by
  rw [ByteArray.size_append]
  show ¬ (9223372036854775807 < fb.size + 1 + jo.size)
  omega
 have s3 : ¬ (9223372036854775807 < ((fb ++ (⟨#[40]⟩ : ByteArray)) ++ jo).size + (⟨#[41]⟩ : ByteArray).size) := by
  rw [ByteArray.size_append, ByteArray.size_append]
  show ¬ (9223372036854775807 < fb.size + 1 + jo.size + 1)
  omega
 have HLL := Lib.hid (And.intro hE hLL)
 clear hj hpc hjl hE hLL hEl
 have HS := Lib.hid hs
 have HNEW0 := heap_alloc_new w (.cells #[.int .i64 op, .int .i64 vk, .int .i64 vn, .string vs, .string nm, .int .i64 ar] 53)
 have hbel : Below w.heap.size w ((w.alloc (.cells #[.int .i64 op, .int .i64 vk, .int .i64 vn, .string vs, .string nm, .int .i64 ar] 53)).alloc (.cells #[.string ⟨#[]⟩, .int .i64 0, .bool false] 76)) := ((Below.refl _ _).alloc (Nat.le_refl _) _).alloc (by simp) _
 have hsz : ((w.alloc (.cells #[.int .i64 op, .int .i64 vk, .int .i64 vn, .string vs, .string nm, .int .i64 ar] 53)).alloc (.cells #[.string ⟨#[]⟩, .int .i64 0, .bool false] 76)).heap.size = w.heap.size + 2 := by simp
 have hk0 : ((w.alloc (.cells #[.int .i64 op, .int .i64 vk, .int .i64 vn, .string vs, .string nm, .int .i64 ar] 53)).alloc (.cells #[.string ⟨#[]⟩, .int .i64 0, .bool false] 76)).heap[w.heap.size]? = some (.cells #[.int .i64 op, .int .i64 vk, .int .i64 vn, .string vs, .string nm, .int .i64 ar] 53 (0, 0)) := by
  rw [Below.heap_alloc _ _ _ (by simp)]
  exact HNEW0
 have hk1 := pc_zero w (.cells #[.int .i64 op, .int .i64 vk, .int .i64 vn, .string vs, .string nm, .int .i64 ar] 53)
 obtain ⟨i0, hi, hz0, hz1, hz2⟩ := info_parts info_str
 clear HNEW0 hfb hs hT
 go_enter Tryz.func72, Tryz.ntmps72
 go_wp2_with fail
 generalize (w.alloc (.cells #[.int .i64 op, .int .i64 vk, .int .i64 vn, .string vs, .string nm, .int .i64 ar] 53)).alloc (.cells #[.string ⟨#[]⟩, .int .i64 0, .bool false] 76) = W0 at *
 have KEEP : Hid (∀ W, Below W0.heap.size W0 W → ((W.cell? ⟨w.heap.size, 0, none⟩ = some (.int .i64 op) ∧ W.cell? ⟨w.heap.size, 1, none⟩ = some (.int .i64 vk) ∧ W.cell? ⟨w.heap.size, 2, none⟩ = some (.int .i64 vn) ∧ W.cell? ⟨w.heap.size, 3, none⟩ = some (.string vs) ∧ W.cell? ⟨w.heap.size, 4, none⟩ = some (.string nm) ∧ W.cell? ⟨w.heap.size, 5, none⟩ = some (.int .i64 ar)) ∧ W.heap[w.heap.size + 1]? = some (.cells #[.string ⟨#[]⟩, .int .i64 0, .bool false] 76 (0, 0)) ∧ Below w.heap.size w W)) := fun W hb => by
  have h0 : W.heap[w.heap.size]? = some (.cells #[.int .i64 op, .int .i64 vk, .int .i64 vn, .string vs, .string nm, .int .i64 ar] 53 (0, 0)) := by rw [hb.block _ (by omega)]; exact hk0
  exact ⟨node_cells h0, by rw [hb.block _ (by omega)]; exact hk1, hbel.trans (hb.mono (by omega))⟩
 have HSZ := Lib.hid hsz
 clear hbel hk0 hk1 hsz
 go_loopw [5, 10] (fun tv iv wr => ∃ k : Nat, k ≤ len ∧ iv = .int .i64 k ∧ wr.ownsRow W0.heap.size 9 1 tv k (strC ((xs.take k).map (·.tx))) ∧ Hid (Below W0.heap.size W0 wr)) (fun _ iv _ => len - (intOf iv).toNat)
 case atStart => exact ⟨0, Nat.zero_le _, rfl, World.ownsRow_nil _ _ _ _, Below.refl _ _⟩
 case round =>
  obtain ⟨k, hk, rfl, hown, HBEL⟩ := hrel
  have hszr := HBEL.out.size
  by_cases hlt : k < len
  ·obtain ⟨x, b, off, hx, rfl, hbl, c0, c1, c2⟩ := (HS.out.below (KEEP.out wr HBEL.out).2.2 (Nat.le_refl _)).at hlt
   have hcells : Hid (strC ((xs.take k).map (·.tx)) ++ [.string ⟨x.tx.toArray⟩] = strC ((xs.take (k + 1)).map (·.tx))) := by
    show _ = _
    rw [List.take_add_one, hx]
    simp [strC]
   generalize (⟨x.tx.toArray⟩ : ByteArray) = o at *
   generalize strC ((xs.take k).map (·.tx)) = cells at *
   have hnew : ∀ (j : Nat) (u : Value), ([.string o] : List Value)[j]? = some u → ((wr.alloc (.cells #[.string o, .int .i64 x.lv, .bool x.ig] 76)).alloc (.cells #[.string o] 9)).cell? ((⟨wr.heap.size + 1, 0, none⟩ : Addr).add j) = some u := by
    have h := heap_alloc_new (wr.alloc (.cells #[.string o, .int .i64 x.lv, .bool x.ig] 76)) (.cells #[.string o] 9)
    rw [show (wr.alloc (.cells #[.string o, .int .i64 x.lv, .bool x.ig] 76)).heap.size = wr.heap.size + 1 by simp] at h
    exact World.news_of_block (cs := #[.string o]) (t := 9) (fr := (0, 0)) h
   have hki : (k : Int) < (len : Int) := by omega
   go_wp2_with (at_builtin; refine wpList_append_lies _ rfl _ _ 46 rfl W0.heap.size 9 i0 _ 1 16 Tryz.underlying46 hi hz0 hz1 hz2 rfl (by decide) _ _ _ rfl ((hown.alloc _).alloc _) ⟨wr.heap.size + 1, 0, none⟩ 1 1 [.string o] rfl rfl hnew (by simp [Value.oneCell']) (by omega) (by unfold maxLen; omega) (by omega) (by simp; omega) (wr.heap.size + 1 + 1) (by simp) ?_)
   intro gg cc w9 hown9 hgrow9 hat9 hlt9
   have hB9 := ((HBEL.out.alloc (by omega) _).alloc (by simp; omega) _).grown hgrow9 (by simp; omega) (fun j hj => (hown.lt j hj).1)
   rw [hcells.out] at hown9
   have HB9 := Lib.hid hB9
   clear hgrow9 hat9 hlt9 hown hB9 hnew c0 c1 c2
   go_wp2_with fail
   go_roundw
   case rel => exact ⟨k + 1, by omega, by go_num, hown9, HB9⟩
   case measure => simp [intOf]; omega
  ·obtain rfl : k = len := by omega
   have hki : ¬ (k : Int) < (k : Int) := by omega
   rw [List.take_of_length_le (by omega)] at hown
   obtain ⟨⟨b0, b1, b2, b3, b4, b5⟩, _, _⟩ := KEEP.out wr HBEL.out
   clear b0 b1 b2 b3 b4 b5
   by_cases h20 : op = 20
   ·subst h20
    obtain ⟨hE, hLL⟩ := HLL.out
    rw [if_pos rfl] at hE
    have hcells : strC (xs.map (·.tx)) ++ [.string nm] = strC LL := by
     rw [← hLL, ← hE]
     simp [strC]
     exact mk_eq.symm
    have hn1 : k + 1 = LL.length := by rw [← hLL, ← hE]; simp; omega
    have HC := Lib.hid hcells
    have HN1 := Lib.hid hn1
    obtain ⟨⟨b0, b1, b2, b3, b4, b5⟩, _, _⟩ := KEEP.out wr HBEL.out
    have hnew : ∀ (j : Nat) (u : Value), ([.string nm] : List Value)[j]? = some u → (wr.alloc (.cells #[.string nm] 9)).cell? ((⟨wr.heap.size, 0, none⟩ : Addr).add j) = some u :=
     World.news_of_block (cs := #[.string nm]) (t := 9) (fr := (0, 0)) (heap_alloc_new wr (.cells #[.string nm] 9))
    clear hE hLL hcells hn1
    generalize strC (xs.map (·.tx)) = cells at *
    go_wp2_with (at_builtin; refine wpList_append_lies _ rfl _ _ 46 rfl W0.heap.size 9 i0 _ 1 16 Tryz.underlying46 hi hz0 hz1 hz2 rfl (by decide) _ _ _ rfl (hown.alloc _) ⟨wr.heap.size, 0, none⟩ 1 1 [.string nm] rfl rfl hnew (by simp [Value.oneCell']) (by omega) (by unfold maxLen; omega) (by omega) (by simp; omega) (wr.heap.size + 1) (by simp) ?_)
    intro gg cc w9 hown9 hgrow9 hat9 hlt9
    have hB9 := (HBEL.out.alloc (by omega) _).grown hgrow9 (by simp; omega) (fun j hj => (hown.lt j hj).1)
    rw [HC.out, HN1.out] at hown9
    have hsv9 : (k + 1) = LL.length := HN1.out
    clear hgrow9 hat9 hlt9 hown hnew b0 b1 b2 b3 b4 b5
    rw [hsv9]
    obtain ⟨sa, sc, hsv, hstr, hscn⟩ := own_strs hown9 rfl
    cases hsv
    obtain ⟨⟨b0, b1, b2, b3, b4, b5⟩, _, hB0⟩ := KEEP.out w9 hB9
    have FN1 := Lib.hid (FN.out w9 hB0)
    have HST := Lib.hid hstr
    have HBW := Lib.hid hB9
    obtain ⟨nn, hnn⟩ : ∃ nn, LL.length = nn := ⟨_, rfl⟩
    rw [hnn] at hLl HST hscn
    clear hstr hB0 FN HS hown9
    go_wp2_with fail
    refine FN1.out.mono ?_
    rintro e w10 ⟨rfl, hb10⟩
    have hB10 := HBW.out.trans (hb10.mono HBW.out.size)
    have CJ1 := Lib.hid (CJ.out (some ⟨gg, 0, none⟩) nn cc w10 (HST.out.below hb10 (Nat.le_refl _)) (by omega) hscn)
    have HB10 := Lib.hid hB10
    clear hb10 hB10 CJ HST FN1 b0 b1 b2 b3 b4 b5
    go_wp2_with fail
    refine CJ1.out.mono ?_
    rintro e w11 ⟨rfl, hb11⟩
    obtain ⟨_, hx11, hB11⟩ := KEEP.out w11 (HB10.out.trans (hb11.mono HB10.out.size))
    have HX := Lib.hid hx11
    have HB11 := Lib.hid hB11
    clear hb11 hx11 hB11 CJ1 HB10 KEEP HBW
    go_wp2_with (with_reducible refine wpList_store_row (o := Oper.mk none (Op.store 76 (.tmp 4) (.tmp 35)) _ _ _ none) rfl 76 (.tmp 4) (.tmp 35) rfl (w.heap.size + 1) #[.string (((fb ++ ⟨#[40]⟩) ++ jo) ++ ⟨#[41]⟩), .int .i64 8, .bool false] ?px ?py 76 _ HX.out ?pi ?po ?p1 ?pk)
    case px => rfl
    case py => rfl
    case pi => kernel_rfl
    case po => rfl
    case p1 => simp [Value.oneCell']
    go_wp2_with fail
    have hld := box_pc (w := w11.setRow (w.heap.size + 1) #[.string (((fb ++ ⟨#[40]⟩) ++ jo) ++ ⟨#[41]⟩), .int .i64 8, .bool false]) (setRow_heap _ _ _ _ _ _ HX.out)
    exact bodyPost_ret (v := .agg #[.string (((fb ++ ⟨#[40]⟩) ++ jo) ++ ⟨#[41]⟩), .int .i64 8, .bool false]) (by simp [results, Tryz.results72, Act.put, asAddr, hld]) rfl ⟨rfl, HB11.out.grown (grown_setRow _ _ _) HB11.out.size (fun z hz => by cases hz; omega)⟩
   ·obtain ⟨hE, hLL⟩ := HLL.out
    rw [if_neg h20] at hE
    have h20b : (op == 20) = false := by simpa using h20
    rw [← hE, List.append_nil] at hLL
    rw [hLL] at hown
    have hn1 : k = LL.length := by rw [← hLL]; simp; omega
    rw [hn1] at hown
    have hbel9 := HBEL.out
    clear hE hLL
    obtain ⟨sa, sc, hsv, hstr, hscn⟩ := own_strs hown rfl
    subst hsv
    obtain ⟨⟨b0, b1, b2, b3, b4, b5⟩, _, hB0⟩ := KEEP.out wr hbel9
    have FN1 := Lib.hid (FN.out wr hB0)
    have HST := Lib.hid hstr
    have HBW := Lib.hid hbel9
    obtain ⟨nn, hnn⟩ : ∃ nn, LL.length = nn := ⟨_, rfl⟩
    rw [hnn] at hLl HST hscn
    clear hstr hB0 FN HS hown
    go_wp2_with fail
    refine FN1.out.mono ?_
    rintro e w10 ⟨rfl, hb10⟩
    have hB10 := HBW.out.trans (hb10.mono HBW.out.size)
    have CJ1 := Lib.hid (CJ.out sa nn sc w10 (HST.out.below hb10 (Nat.le_refl _)) (by omega) hscn)
    have HB10 := Lib.hid hB10
    clear hb10 hB10 CJ HST FN1 b0 b1 b2 b3 b4 b5
    go_wp2_with fail
    refine CJ1.out.mono ?_
    rintro e w11 ⟨rfl, hb11⟩
    obtain ⟨_, hx11, hB11⟩ := KEEP.out w11 (HB10.out.trans (hb11.mono HB10.out.size))
    have HX := Lib.hid hx11
    have HB11 := Lib.hid hB11
    clear hb11 hx11 hB11 CJ1 HB10 KEEP HBW
    go_wp2_with (with_reducible refine wpList_store_row (o := Oper.mk none (Op.store 76 (.tmp 4) (.tmp 35)) _ _ _ none) rfl 76 (.tmp 4) (.tmp 35) rfl (w.heap.size + 1) #[.string (((fb ++ ⟨#[40]⟩) ++ jo) ++ ⟨#[41]⟩), .int .i64 8, .bool false] ?qx ?qy 76 _ HX.out ?qi ?qo ?q1 ?qk)
    case qx => rfl
    case qy => rfl
    case qi => kernel_rfl
    case qo => rfl
    case q1 => simp [Value.oneCell']
    go_wp2_with fail
    have hld := box_pc (w := w11.setRow (w.heap.size + 1) #[.string (((fb ++ ⟨#[40]⟩) ++ jo) ++ ⟨#[41]⟩), .int .i64 8, .bool false]) (setRow_heap _ _ _ _ _ _ HX.out)
    exact bodyPost_ret (v := .agg #[.string (((fb ++ ⟨#[40]⟩) ++ jo) ++ ⟨#[41]⟩), .int .i64 8, .bool false]) (by simp [results, Tryz.results72, Act.put, asAddr, hld]) rfl ⟨rfl, HB11.out.grown (grown_setRow _ _ _) HB11.out.size (fun z hz => by cases hz; omega)⟩
end Go.Proofs.YtmdpjahhhfajaaaGreatDoor
