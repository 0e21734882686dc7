/-
  The program: writeCall. · The program: writeInfix.
-/
import Derived.Test.YtmdpjahhhfajaaaGreatDoorJA43
import Derived.LoopTactic
import Derived.Deep.RegionHeld3
set_option linter.unusedVariables false
set_option linter.unusedSimpArgs false
set_option maxRecDepth 100000
namespace Wh
open Go Go.Proofs.YtmdpjahhhfajaaaGreatDoor
theorem bltN_sz {op : Int} {nm : ByteArray} {n : Nat} (h : nm.size ≤ n) (hn : 8 ≤ n) : (((bltN op).map (·.1)).getD nm).size ≤ n := by
  cases hb : bltN op with
  | none => exact h
  | some p =>
    have hm := List.mem_of_find?_eq_some hb
    unfold bltP at hm
    simp only [List.mem_cons, List.mem_nil_iff, or_false] at hm
    rcases hm with rfl | rfl | rfl | rfl | rfl <;> (refine Nat.le_trans ?_ hn; simp only [Option.map_some, Option.getD_some]; decide)
theorem comL_tot (xs : List Pc) (ls : List (List UInt8)) : (comL (xs.map (·.tx) ++ ls)).length ≤ totP xs + (ls.map List.length).sum + 2 * (xs.length + ls.length) := by
  have h := comL_len (xs.map (·.tx) ++ ls)
  have hm : ((xs.map (·.tx)).map List.length).sum = totP xs := by unfold totP; rw [List.map_map]; rfl
  simp only [List.map_append, List.sum_append, hm, List.length_append, List.length_map] at h ⊢
  omega
theorem join_mk (ls : List (List UInt8)) : Lib.join ((ls.map fun l => (⟨l.toArray⟩ : ByteArray)).map bts) [44, 32] = comL ls := by
  unfold comL
  rw [List.map_map]
  have : (bts ∘ fun l => (⟨l.toArray⟩ : ByteArray)) = (id : List UInt8 → List UInt8) := rfl
  rw [this, List.map_id]
end Wh
namespace Go.Proofs.YtmdpjahhhfajaaaGreatDoor
open Go.RowKit Go.Joins Wh

set_option maxHeartbeats 8000000 in
theorem pwcall_any (t : Nd) (a : Option Addr) (len cap : Nat) (xs : List Pc) (w : World) (hs : IsPcs w a len xs) (hl : len ≤ 100) (htot : totP xs ≤ 1000000) (hnm : t.nm.size ≤ 1000000) (hT : TabB w) :
    Calls Tryz.prog 72 #[ndV t, .slice a len cap] w fun e w' => e = .returned (pcV ⟨bts (((bltN t.op).map (·.1)).getD t.nm) ++ 40 :: (comL (xs.map (·.tx) ++ if t.op = 20 then [bts t.nm] else []) ++ [41]), 8, false⟩) ∧ Below w.heap.size w w' := by
  have FN := Lib.hid (fun W (hb : Below w.heap.size w W) => functionName_any t W (hT.below hb (Nat.le_refl _)))
  have hfn := bltN_sz (op := t.op) (n := 1000000) hnm (by omega)
  have hln := hs.1
  obtain ⟨op, ⟨vk, vn, vs⟩, nm, ar⟩ := t
  simp only at FN hfn hnm ⊢
  obtain ⟨fb, hfb⟩ : ∃ fb, ((bltN op).map (·.1)).getD nm = fb := ⟨_, rfl⟩
  rw [hfb] at FN hfn ⊢
  unfold ndV at FN ⊢
  simp only at FN ⊢
  obtain ⟨E, hE⟩ : ∃ E, (if op = 20 then [bts nm] else []) = E := ⟨_, rfl⟩
  rw [hE]
  have hEl : (E.map List.length).sum ≤ 1000000 ∧ E.length ≤ 1 := by
    rw [← hE]
    split
    · simp [bts_length]; exact hnm
    · simp
  have hjl := comL_tot xs E
  obtain ⟨LL, hLL⟩ : ∃ LL, xs.map (·.tx) ++ E = LL := ⟨_, rfl⟩
  have hLl : LL.length ≤ 101 := by rw [← hLL]; simp; omega
  rw [hLL] at hjl ⊢
  obtain ⟨jl, hj⟩ : ∃ jl, comL LL = jl := ⟨_, rfl⟩
  rw [hj] at hjl ⊢
  have CJ := Lib.hid (fun sa n sc W (h : IsStrs W sa n (LL.map fun l => (⟨l.toArray⟩ : ByteArray))) (h1 : n ≤ 1000000) (h2 : n ≤ sc) => joinc_any sa n sc _ W h h1 h2 (by rw [join_mk, hj]; omega))
  rw [join_mk, hj] at CJ
  unfold IsStr at CJ
  have hpc : pcV ⟨bts fb ++ 40 :: (jl ++ [41]), 8, false⟩ = .agg #[.string (((fb ++ ⟨#[40]⟩) ++ ⟨jl.toArray⟩) ++ ⟨#[41]⟩), .int .i64 8, .bool false] := by
    have : (((fb ++ ⟨#[40]⟩) ++ ⟨jl.toArray⟩) ++ ⟨#[41]⟩ : ByteArray) = ⟨(bts fb ++ 40 :: (jl ++ [41])).toArray⟩ := by
      apply ext_bts
      rw [bts_app, bts_app, bts_app]
      show bts fb ++ [40] ++ jl ++ [41] = bts fb ++ 40 :: (jl ++ [41])
      simp
    rw [this]
    rfl
  rw [hpc]
  have hjs : (⟨jl.toArray⟩ : ByteArray).size ≤ 3000000 := by rw [size_mk]; omega
  generalize (⟨jl.toArray⟩ : ByteArray) = jo at *
  have s1 : ¬ (9223372036854775807 < fb.size + (⟨#[40]⟩ : ByteArray).size) := by show ¬ (9223372036854775807 < fb.size + 1); omega
  have s2 : ¬ (9223372036854775807 < (fb ++ (⟨#[40]⟩ : ByteArray)).size + jo.size) := by
    rw [ByteArray.size_append]
    show ¬ (9223372036854775807 < fb.size + 1 + jo.size)
    omega
  have s3 : ¬ (9223372036854775807 < ((fb ++ (⟨#[40]⟩ : ByteArray)) ++ jo).size + (⟨#[41]⟩ : ByteArray).size) := by
    rw [ByteArray.size_append, ByteArray.size_append]
    show ¬ (9223372036854775807 < fb.size + 1 + jo.size + 1)
    omega
  have HLL := Lib.hid (And.intro hE hLL)
  clear hj hpc hjl hE hLL hEl
  have HS := Lib.hid hs
  have HNEW0 := heap_alloc_new w (.cells #[.int .i64 op, .int .i64 vk, .int .i64 vn, .string vs, .string nm, .int .i64 ar] 53)
  have hbel : Below w.heap.size w ((w.alloc (.cells #[.int .i64 op, .int .i64 vk, .int .i64 vn, .string vs, .string nm, .int .i64 ar] 53)).alloc (.cells #[.string ⟨#[]⟩, .int .i64 0, .bool false] 76)) := ((Below.refl _ _).alloc (Nat.le_refl _) _).alloc (by simp) _
  have hsz : ((w.alloc (.cells #[.int .i64 op, .int .i64 vk, .int .i64 vn, .string vs, .string nm, .int .i64 ar] 53)).alloc (.cells #[.string ⟨#[]⟩, .int .i64 0, .bool false] 76)).heap.size = w.heap.size + 2 := by simp
  have hk0 : ((w.alloc (.cells #[.int .i64 op, .int .i64 vk, .int .i64 vn, .string vs, .string nm, .int .i64 ar] 53)).alloc (.cells #[.string ⟨#[]⟩, .int .i64 0, .bool false] 76)).heap[w.heap.size]? = some (.cells #[.int .i64 op, .int .i64 vk, .int .i64 vn, .string vs, .string nm, .int .i64 ar] 53 (0, 0)) := by
    rw [Below.heap_alloc _ _ _ (by simp)]
    exact HNEW0
  have hk1 := pc_zero w (.cells #[.int .i64 op, .int .i64 vk, .int .i64 vn, .string vs, .string nm, .int .i64 ar] 53)
  obtain ⟨i0, hi, hz0, hz1, hz2⟩ := info_parts info_str
  clear HNEW0 hfb hs hT
  go_enter Tryz.func72, Tryz.ntmps72
  go_wp2_with fail
  generalize (w.alloc (.cells #[.int .i64 op, .int .i64 vk, .int .i64 vn, .string vs, .string nm, .int .i64 ar] 53)).alloc (.cells #[.string ⟨#[]⟩, .int .i64 0, .bool false] 76) = W0 at *
  have KEEP : Hid (∀ W, Below W0.heap.size W0 W → ((W.cell? ⟨w.heap.size, 0, none⟩ = some (.int .i64 op) ∧ W.cell? ⟨w.heap.size, 1, none⟩ = some (.int .i64 vk) ∧ W.cell? ⟨w.heap.size, 2, none⟩ = some (.int .i64 vn) ∧ W.cell? ⟨w.heap.size, 3, none⟩ = some (.string vs) ∧ W.cell? ⟨w.heap.size, 4, none⟩ = some (.string nm) ∧ W.cell? ⟨w.heap.size, 5, none⟩ = some (.int .i64 ar)) ∧ W.heap[w.heap.size + 1]? = some (.cells #[.string ⟨#[]⟩, .int .i64 0, .bool false] 76 (0, 0)) ∧ Below w.heap.size w W)) := fun W hb => by
    have h0 : W.heap[w.heap.size]? = some (.cells #[.int .i64 op, .int .i64 vk, .int .i64 vn, .string vs, .string nm, .int .i64 ar] 53 (0, 0)) := by rw [hb.block _ (by omega)]; exact hk0
    exact ⟨node_cells h0, by rw [hb.block _ (by omega)]; exact hk1, hbel.trans (hb.mono (by omega))⟩
  have HSZ := Lib.hid hsz
  clear hbel hk0 hk1 hsz
  go_loopw [5, 10] (fun tv iv wr => ∃ k : Nat, k ≤ len ∧ iv = .int .i64 k ∧ wr.ownsRow W0.heap.size 9 1 tv k (strC ((xs.take k).map (·.tx))) ∧ Hid (Below W0.heap.size W0 wr)) (fun _ iv _ => len - (intOf iv).toNat)
  case atStart => exact ⟨0, Nat.zero_le _, rfl, World.ownsRow_nil _ _ _ _, Below.refl _ _⟩
  case round =>
    obtain ⟨k, hk, rfl, hown, HBEL⟩ := hrel
    have hszr := HBEL.out.size
    by_cases hlt : k < len
    · obtain ⟨x, b, off, hx, rfl, hbl, c0, c1, c2⟩ := (HS.out.below (KEEP.out wr HBEL.out).2.2 (Nat.le_refl _)).at hlt
      have hcells : Hid (strC ((xs.take k).map (·.tx)) ++ [.string ⟨x.tx.toArray⟩] = strC ((xs.take (k + 1)).map (·.tx))) := by
        show _ = _
        rw [List.take_add_one, hx]
        simp [strC]
      generalize (⟨x.tx.toArray⟩ : ByteArray) = o at *
      generalize strC ((xs.take k).map (·.tx)) = cells at *
      have hnew : ∀ (j : Nat) (u : Value), ([.string o] : List Value)[j]? = some u → ((wr.alloc (.cells #[.string o, .int .i64 x.lv, .bool x.ig] 76)).alloc (.cells #[.string o] 9)).cell? ((⟨wr.heap.size + 1, 0, none⟩ : Addr).add j) = some u := by
        have h := heap_alloc_new (wr.alloc (.cells #[.string o, .int .i64 x.lv, .bool x.ig] 76)) (.cells #[.string o] 9)
        rw [show (wr.alloc (.cells #[.string o, .int .i64 x.lv, .bool x.ig] 76)).heap.size = wr.heap.size + 1 by simp] at h
        exact World.news_of_block (cs := #[.string o]) (t := 9) (fr := (0, 0)) h
      have hki : (k : Int) < (len : Int) := by omega
      go_wp2_with (at_builtin; refine wpList_append_lies _ rfl _ _ 46 rfl W0.heap.size 9 i0 _ 1 16 Tryz.underlying46 hi hz0 hz1 hz2 rfl (by decide) _ _ _ rfl ((hown.alloc _).alloc _) ⟨wr.heap.size + 1, 0, none⟩ 1 1 [.string o] rfl rfl hnew (by simp [Value.oneCell']) (by omega) (by unfold maxLen; omega) (by omega) (by simp; omega) (wr.heap.size + 1 + 1) (by simp) ?_)
      intro gg cc w9 hown9 hgrow9 hat9 hlt9
      have hB9 := ((HBEL.out.alloc (by omega) _).alloc (by simp; omega) _).grown hgrow9 (by simp; omega) (fun j hj => (hown.lt j hj).1)
      rw [hcells.out] at hown9
      have HB9 := Lib.hid hB9
      clear hgrow9 hat9 hlt9 hown hB9 hnew c0 c1 c2
      go_wp2_with fail
      go_roundw
      case rel => exact ⟨k + 1, by omega, by go_num, hown9, HB9⟩
      case measure => simp [intOf]; omega
    · obtain rfl : k = len := by omega
      have hki : ¬ (k : Int) < (k : Int) := by omega
      rw [List.take_of_length_le (by omega)] at hown
      obtain ⟨⟨b0, b1, b2, b3, b4, b5⟩, _, _⟩ := KEEP.out wr HBEL.out
      clear b0 b1 b2 b3 b4 b5
      by_cases h20 : op = 20
      · subst h20
        obtain ⟨hE, hLL⟩ := HLL.out
        rw [if_pos rfl] at hE
        have hcells : strC (xs.map (·.tx)) ++ [.string nm] = strC LL := by
          rw [← hLL, ← hE]
          simp [strC]
          exact mk_eq.symm
        have hn1 : k + 1 = LL.length := by rw [← hLL, ← hE]; simp; omega
        have HC := Lib.hid hcells
        have HN1 := Lib.hid hn1
        obtain ⟨⟨b0, b1, b2, b3, b4, b5⟩, _, _⟩ := KEEP.out wr HBEL.out
        have hnew : ∀ (j : Nat) (u : Value), ([.string nm] : List Value)[j]? = some u → (wr.alloc (.cells #[.string nm] 9)).cell? ((⟨wr.heap.size, 0, none⟩ : Addr).add j) = some u :=
          World.news_of_block (cs := #[.string nm]) (t := 9) (fr := (0, 0)) (heap_alloc_new wr (.cells #[.string nm] 9))
        clear hE hLL hcells hn1
        generalize strC (xs.map (·.tx)) = cells at *
        go_wp2_with (at_builtin; refine wpList_append_lies _ rfl _ _ 46 rfl W0.heap.size 9 i0 _ 1 16 Tryz.underlying46 hi hz0 hz1 hz2 rfl (by decide) _ _ _ rfl (hown.alloc _) ⟨wr.heap.size, 0, none⟩ 1 1 [.string nm] rfl rfl hnew (by simp [Value.oneCell']) (by omega) (by unfold maxLen; omega) (by omega) (by simp; omega) (wr.heap.size + 1) (by simp) ?_)
        intro gg cc w9 hown9 hgrow9 hat9 hlt9
        have hB9 := (HBEL.out.alloc (by omega) _).grown hgrow9 (by simp; omega) (fun j hj => (hown.lt j hj).1)
        rw [HC.out, HN1.out] at hown9
        have hsv9 : (k + 1) = LL.length := HN1.out
        clear hgrow9 hat9 hlt9 hown hnew b0 b1 b2 b3 b4 b5
        rw [hsv9]
        obtain ⟨sa, sc, hsv, hstr, hscn⟩ := own_strs hown9 rfl
        cases hsv
        obtain ⟨⟨b0, b1, b2, b3, b4, b5⟩, _, hB0⟩ := KEEP.out w9 hB9
        have FN1 := Lib.hid (FN.out w9 hB0)
        have HST := Lib.hid hstr
        have HBW := Lib.hid hB9
        obtain ⟨nn, hnn⟩ : ∃ nn, LL.length = nn := ⟨_, rfl⟩
        rw [hnn] at hLl HST hscn
        clear hstr hB0 FN HS hown9
        go_wp2_with fail
        refine FN1.out.mono ?_
        rintro e w10 ⟨rfl, hb10⟩
        have hB10 := HBW.out.trans (hb10.mono HBW.out.size)
        have CJ1 := Lib.hid (CJ.out (some ⟨gg, 0, none⟩) nn cc w10 (HST.out.below hb10 (Nat.le_refl _)) (by omega) hscn)
        have HB10 := Lib.hid hB10
        clear hb10 hB10 CJ HST FN1 b0 b1 b2 b3 b4 b5
        go_wp2_with fail
        refine CJ1.out.mono ?_
        rintro e w11 ⟨rfl, hb11⟩
        obtain ⟨_, hx11, hB11⟩ := KEEP.out w11 (HB10.out.trans (hb11.mono HB10.out.size))
        have HX := Lib.hid hx11
        have HB11 := Lib.hid hB11
        clear hb11 hx11 hB11 CJ1 HB10 KEEP HBW
        go_wp2_with (with_reducible refine wpList_store_row (o := Oper.mk none (Op.store 76 (.tmp 4) (.tmp 35)) _ _ _ none) rfl 76 (.tmp 4) (.tmp 35) rfl (w.heap.size + 1) #[.string (((fb ++ ⟨#[40]⟩) ++ jo) ++ ⟨#[41]⟩), .int .i64 8, .bool false] ?px ?py 76 _ HX.out ?pi ?po ?p1 ?pk)
        case px => rfl
        case py => rfl
        case pi => kernel_rfl
        case po => rfl
        case p1 => simp [Value.oneCell']
        go_wp2_with fail
        have hld := box_pc (w := w11.setRow (w.heap.size + 1) #[.string (((fb ++ ⟨#[40]⟩) ++ jo) ++ ⟨#[41]⟩), .int .i64 8, .bool false]) (setRow_heap _ _ _ _ _ _ HX.out)
        exact bodyPost_ret (v := .agg #[.string (((fb ++ ⟨#[40]⟩) ++ jo) ++ ⟨#[41]⟩), .int .i64 8, .bool false]) (by simp [results, Tryz.results72, Act.put, asAddr, hld]) rfl ⟨rfl, HB11.out.grown (grown_setRow _ _ _) HB11.out.size (fun z hz => by cases hz; omega)⟩
      · obtain ⟨hE, hLL⟩ := HLL.out
        rw [if_neg h20] at hE
        have h20b : (op == 20) = false := by simpa using h20
        rw [← hE, List.append_nil] at hLL
        rw [hLL] at hown
        have hn1 : k = LL.length := by rw [← hLL]; simp; omega
        rw [hn1] at hown
        have hbel9 := HBEL.out
        clear hE hLL
        obtain ⟨sa, sc, hsv, hstr, hscn⟩ := own_strs hown rfl
        subst hsv
        obtain ⟨⟨b0, b1, b2, b3, b4, b5⟩, _, hB0⟩ := KEEP.out wr hbel9
        have FN1 := Lib.hid (FN.out wr hB0)
        have HST := Lib.hid hstr
        have HBW := Lib.hid hbel9
        obtain ⟨nn, hnn⟩ : ∃ nn, LL.length = nn := ⟨_, rfl⟩
        rw [hnn] at hLl HST hscn
        clear hstr hB0 FN HS hown
        go_wp2_with fail
        refine FN1.out.mono ?_
        rintro e w10 ⟨rfl, hb10⟩
        have hB10 := HBW.out.trans (hb10.mono HBW.out.size)
        have CJ1 := Lib.hid (CJ.out sa nn sc w10 (HST.out.below hb10 (Nat.le_refl _)) (by omega) hscn)
        have HB10 := Lib.hid hB10
        clear hb10 hB10 CJ HST FN1 b0 b1 b2 b3 b4 b5
        go_wp2_with fail
        refine CJ1.out.mono ?_
        rintro e w11 ⟨rfl, hb11⟩
        obtain ⟨_, hx11, hB11⟩ := KEEP.out w11 (HB10.out.trans (hb11.mono HB10.out.size))
        have HX := Lib.hid hx11
        have HB11 := Lib.hid hB11
        clear hb11 hx11 hB11 CJ1 HB10 KEEP HBW
        go_wp2_with (with_reducible refine wpList_store_row (o := Oper.mk none (Op.store 76 (.tmp 4) (.tmp 35)) _ _ _ none) rfl 76 (.tmp 4) (.tmp 35) rfl (w.heap.size + 1) #[.string (((fb ++ ⟨#[40]⟩) ++ jo) ++ ⟨#[41]⟩), .int .i64 8, .bool false] ?qx ?qy 76 _ HX.out ?qi ?qo ?q1 ?qk)
        case qx => rfl
        case qy => rfl
        case qi => kernel_rfl
        case qo => rfl
        case q1 => simp [Value.oneCell']
        go_wp2_with fail
        have hld := box_pc (w := w11.setRow (w.heap.size + 1) #[.string (((fb ++ ⟨#[40]⟩) ++ jo) ++ ⟨#[41]⟩), .int .i64 8, .bool false]) (setRow_heap _ _ _ _ _ _ HX.out)
        exact bodyPost_ret (v := .agg #[.string (((fb ++ ⟨#[40]⟩) ++ jo) ++ ⟨#[41]⟩), .int .i64 8, .bool false]) (by simp [results, Tryz.results72, Act.put, asAddr, hld]) rfl ⟨rfl, HB11.out.grown (grown_setRow _ _ _) HB11.out.size (fun z hz => by cases hz; omega)⟩

end Go.Proofs.YtmdpjahhhfajaaaGreatDoor
set_option linter.unusedVariables false
set_option linter.unusedSimpArgs false
set_option maxRecDepth 100000
namespace Go.Proofs.YtmdpjahhhfajaaaGreatDoor
open Go.RowKit Go.Joins Wh

theorem Box3.keep {w w' : World} {b : Nat} {x y z : Value} {t : TypeId} (h : Box3 w b x y z t) (hb : Below w.heap.size w w') : Box3 w' b x y z t := ⟨by rw [hb.block b h.lt]; exact h.block⟩
theorem Box3.store {w : World} {b : Nat} {x y z x' y' z' : Value} {t : TypeId} (h : Box3 w b x y z t) :
    Box3 (((w.setCell ⟨b, 0, none⟩ x').setCell ⟨b, 1, none⟩ y').setCell ⟨b, 2, none⟩ z') b x' y' z' t := by
  refine ⟨?_⟩
  have hb := h.block
  simp only [World.setCell, Array.getElem?_modify, if_pos]
  rw [hb]
  rfl
theorem keepInf {w W0 w1 w2 : World} {wd sx sy : ByteArray} {lv xl yl : Int} {xi yi : Bool} (h0 : w.heap.size + 3 < w1.heap.size) (h : w1.cell? ⟨w.heap.size, 0, none⟩ = some (.string wd) ∧ w1.cell? ⟨w.heap.size, 1, none⟩ = some (.int .i64 lv) ∧ w1.cell? ⟨w.heap.size + 1, 0, none⟩ = some (.string sx) ∧ w1.cell? ⟨w.heap.size + 1, 1, none⟩ = some (.int .i64 xl) ∧ w1.cell? ⟨w.heap.size + 1, 2, none⟩ = some (.bool xi) ∧ w1.cell? ⟨w.heap.size + 2, 0, none⟩ = some (.string sy) ∧ w1.cell? ⟨w.heap.size + 2, 1, none⟩ = some (.int .i64 yl) ∧ w1.cell? ⟨w.heap.size + 2, 2, none⟩ = some (.bool yi) ∧ Below (w.heap.size + 3) W0 w1) (hb : Below w1.heap.size w1 w2) :
    w2.cell? ⟨w.heap.size, 0, none⟩ = some (.string wd) ∧ w2.cell? ⟨w.heap.size, 1, none⟩ = some (.int .i64 lv) ∧ w2.cell? ⟨w.heap.size + 1, 0, none⟩ = some (.string sx) ∧ w2.cell? ⟨w.heap.size + 1, 1, none⟩ = some (.int .i64 xl) ∧ w2.cell? ⟨w.heap.size + 1, 2, none⟩ = some (.bool xi) ∧ w2.cell? ⟨w.heap.size + 2, 0, none⟩ = some (.string sy) ∧ w2.cell? ⟨w.heap.size + 2, 1, none⟩ = some (.int .i64 yl) ∧ w2.cell? ⟨w.heap.size + 2, 2, none⟩ = some (.bool yi) ∧ Below (w.heap.size + 3) W0 w2 := by
  obtain ⟨a0, a1, b0, b1, b2, c0, c1, c2, hB⟩ := h
  have e : ∀ B o, B < w1.heap.size → w2.cell? ⟨B, o, none⟩ = w1.cell? ⟨B, o, none⟩ := fun B o h => hb.cell (p := ⟨B, o, none⟩) h
  exact ⟨(e _ _ (by omega)).trans a0, (e _ _ (by omega)).trans a1, (e _ _ (by omega)).trans b0, (e _ _ (by omega)).trans b1, (e _ _ (by omega)).trans b2, (e _ _ (by omega)).trans c0, (e _ _ (by omega)).trans c1, (e _ _ (by omega)).trans c2, hB.trans (hb.mono (Nat.le_of_lt h0))⟩
theorem keepInfSt {w W0 w1 : World} {wd sx sy : ByteArray} {lv xl yl : Int} {xi yi : Bool} {u0 u1 u2 : Value} (h0 : w.heap.size + 3 < w1.heap.size) (h : w1.cell? ⟨w.heap.size, 0, none⟩ = some (.string wd) ∧ w1.cell? ⟨w.heap.size, 1, none⟩ = some (.int .i64 lv) ∧ w1.cell? ⟨w.heap.size + 1, 0, none⟩ = some (.string sx) ∧ w1.cell? ⟨w.heap.size + 1, 1, none⟩ = some (.int .i64 xl) ∧ w1.cell? ⟨w.heap.size + 1, 2, none⟩ = some (.bool xi) ∧ w1.cell? ⟨w.heap.size + 2, 0, none⟩ = some (.string sy) ∧ w1.cell? ⟨w.heap.size + 2, 1, none⟩ = some (.int .i64 yl) ∧ w1.cell? ⟨w.heap.size + 2, 2, none⟩ = some (.bool yi) ∧ Below (w.heap.size + 3) W0 w1) :
    (((w1.setCell ⟨w.heap.size + 3, 0, none⟩ u0).setCell ⟨w.heap.size + 3, 1, none⟩ u1).setCell ⟨w.heap.size + 3, 2, none⟩ u2).cell? ⟨w.heap.size, 0, none⟩ = some (.string wd) ∧ (((w1.setCell ⟨w.heap.size + 3, 0, none⟩ u0).setCell ⟨w.heap.size + 3, 1, none⟩ u1).setCell ⟨w.heap.size + 3, 2, none⟩ u2).cell? ⟨w.heap.size, 1, none⟩ = some (.int .i64 lv) ∧ (((w1.setCell ⟨w.heap.size + 3, 0, none⟩ u0).setCell ⟨w.heap.size + 3, 1, none⟩ u1).setCell ⟨w.heap.size + 3, 2, none⟩ u2).cell? ⟨w.heap.size + 1, 0, none⟩ = some (.string sx) ∧ (((w1.setCell ⟨w.heap.size + 3, 0, none⟩ u0).setCell ⟨w.heap.size + 3, 1, none⟩ u1).setCell ⟨w.heap.size + 3, 2, none⟩ u2).cell? ⟨w.heap.size + 1, 1, none⟩ = some (.int .i64 xl) ∧ (((w1.setCell ⟨w.heap.size + 3, 0, none⟩ u0).setCell ⟨w.heap.size + 3, 1, none⟩ u1).setCell ⟨w.heap.size + 3, 2, none⟩ u2).cell? ⟨w.heap.size + 1, 2, none⟩ = some (.bool xi) ∧ (((w1.setCell ⟨w.heap.size + 3, 0, none⟩ u0).setCell ⟨w.heap.size + 3, 1, none⟩ u1).setCell ⟨w.heap.size + 3, 2, none⟩ u2).cell? ⟨w.heap.size + 2, 0, none⟩ = some (.string sy) ∧ (((w1.setCell ⟨w.heap.size + 3, 0, none⟩ u0).setCell ⟨w.heap.size + 3, 1, none⟩ u1).setCell ⟨w.heap.size + 3, 2, none⟩ u2).cell? ⟨w.heap.size + 2, 1, none⟩ = some (.int .i64 yl) ∧ (((w1.setCell ⟨w.heap.size + 3, 0, none⟩ u0).setCell ⟨w.heap.size + 3, 1, none⟩ u1).setCell ⟨w.heap.size + 3, 2, none⟩ u2).cell? ⟨w.heap.size + 2, 2, none⟩ = some (.bool yi) ∧ Below (w.heap.size + 3) W0 (((w1.setCell ⟨w.heap.size + 3, 0, none⟩ u0).setCell ⟨w.heap.size + 3, 1, none⟩ u1).setCell ⟨w.heap.size + 3, 2, none⟩ u2) := by
  obtain ⟨a0, a1, b0, b1, b2, c0, c1, c2, hB⟩ := h
  have hb : Below (w.heap.size + 3) w1 (((w1.setCell ⟨w.heap.size + 3, 0, none⟩ u0).setCell ⟨w.heap.size + 3, 1, none⟩ u1).setCell ⟨w.heap.size + 3, 2, none⟩ u2) := (((Below.refl (w.heap.size + 3) w1).setCell (p := ⟨w.heap.size + 3, 0, none⟩) (Nat.le_refl _) u0).setCell (p := ⟨w.heap.size + 3, 1, none⟩) (Nat.le_refl _) u1).setCell (p := ⟨w.heap.size + 3, 2, none⟩) (Nat.le_refl _) u2
  have e : ∀ B o, B < w.heap.size + 3 → (((w1.setCell ⟨w.heap.size + 3, 0, none⟩ u0).setCell ⟨w.heap.size + 3, 1, none⟩ u1).setCell ⟨w.heap.size + 3, 2, none⟩ u2).cell? ⟨B, o, none⟩ = w1.cell? ⟨B, o, none⟩ := fun B o h => hb.cell (p := ⟨B, o, none⟩) h
  exact ⟨(e _ _ (by omega)).trans a0, (e _ _ (by omega)).trans a1, (e _ _ (by omega)).trans b0, (e _ _ (by omega)).trans b1, (e _ _ (by omega)).trans b2, (e _ _ (by omega)).trans c0, (e _ _ (by omega)).trans c1, (e _ _ (by omega)).trans c2, hB.trans hb⟩

set_option maxHeartbeats 8000000 in
theorem pwinf_any (wd : ByteArray) (lv op : Int) (sw : Bool) (x y : Pc) (w : World) (hx : x.tx.length ≤ 1000000) (hy : y.tx.length ≤ 1000000) (hwd : wd.size ≤ 3) (hlv : 0 ≤ lv ∧ lv ≤ 8) :
    Calls Tryz.prog 71 #[.agg #[.string wd, .int .i64 lv, .int .i64 op, .bool sw], pcV x, pcV y] w fun e w' => e = .returned (pcV ⟨encL x (if lv = 3 then 4 else lv) ++ 32 :: (bts wd ++ 32 :: encL y (lv + 1)), lv, false⟩) ∧ Below w.heap.size w w' := by
  have esz : ∀ (z : Pc) l, z.tx.length ≤ 1000000 → (encS ⟨z.tx.toArray⟩ z.lv l).size ≤ 1000002 := fun z l h => by
    rw [encS_bts, size_mk]
    have := encL_len z l
    omega
  obtain ⟨l1, hl1⟩ : ∃ l1, (if lv = 3 then 4 else lv) = l1 := ⟨_, rfl⟩
  rw [hl1]
  have hpc : pcV ⟨encL x l1 ++ 32 :: (bts wd ++ 32 :: encL y (lv + 1)), lv, false⟩ = .agg #[.string ((((encS ⟨x.tx.toArray⟩ x.lv l1 ++ ⟨#[32]⟩) ++ wd) ++ ⟨#[32]⟩) ++ encS ⟨y.tx.toArray⟩ y.lv (lv + 1)), .int .i64 lv, .bool false] := by
    have : ((((encS ⟨x.tx.toArray⟩ x.lv l1 ++ ⟨#[32]⟩) ++ wd) ++ ⟨#[32]⟩) ++ encS ⟨y.tx.toArray⟩ y.lv (lv + 1) : ByteArray) = ⟨(encL x l1 ++ 32 :: (bts wd ++ 32 :: encL y (lv + 1))).toArray⟩ := by
      apply ext_bts
      rw [encS_bts, encS_bts, bts_app, bts_app, bts_app, bts_app]
      show encL x l1 ++ [32] ++ bts wd ++ [32] ++ encL y (lv + 1) = encL x l1 ++ 32 :: (bts wd ++ 32 :: encL y (lv + 1))
      simp
    rw [this]
    rfl
  rw [hpc]
  have q1 := esz x l1 hx
  have q2 := esz y (lv + 1) hy
  have CX := Lib.hid (fun W => penclose_any ⟨x.tx.toArray⟩ x.lv x.ig l1 W (by rw [size_mk]; exact hx))
  have CY := Lib.hid (fun W => penclose_any ⟨y.tx.toArray⟩ y.lv y.ig (lv + 1) W (by rw [size_mk]; exact hy))
  unfold pcV
  obtain ⟨xt, xl, xi⟩ := x
  obtain ⟨yt, yl, yi⟩ := y
  simp only at CX CY q1 q2 ⊢
  obtain ⟨sx, hsx⟩ : ∃ s, (⟨xt.toArray⟩ : ByteArray) = s := ⟨_, rfl⟩
  obtain ⟨sy, hsy⟩ : ∃ s, (⟨yt.toArray⟩ : ByteArray) = s := ⟨_, rfl⟩
  rw [hsx] at CX q1 ⊢
  rw [hsy] at CY q2 ⊢
  obtain ⟨ex, hex⟩ : ∃ e, encS sx xl l1 = e := ⟨_, rfl⟩
  obtain ⟨ey, hey⟩ : ∃ e, encS sy yl (lv + 1) = e := ⟨_, rfl⟩
  rw [hex] at CX q1 ⊢
  rw [hey] at CY q2 ⊢
  have s1 : ¬ (9223372036854775807 < ex.size + (⟨#[32]⟩ : ByteArray).size) := by show ¬ (9223372036854775807 < ex.size + 1); omega
  have s2 : ¬ (9223372036854775807 < (ex ++ (⟨#[32]⟩ : ByteArray)).size + wd.size) := by
    rw [ByteArray.size_append]
    show ¬ (9223372036854775807 < ex.size + 1 + wd.size)
    omega
  have s3 : ¬ (9223372036854775807 < ((ex ++ (⟨#[32]⟩ : ByteArray)) ++ wd).size + (⟨#[32]⟩ : ByteArray).size) := by
    rw [ByteArray.size_append, ByteArray.size_append]
    show ¬ (9223372036854775807 < ex.size + 1 + wd.size + 1)
    omega
  have s4 : ¬ (9223372036854775807 < (((ex ++ (⟨#[32]⟩ : ByteArray)) ++ wd) ++ (⟨#[32]⟩ : ByteArray)).size + ey.size) := by
    rw [ByteArray.size_append, ByteArray.size_append, ByteArray.size_append]
    show ¬ (9223372036854775807 < ex.size + 1 + wd.size + 1 + ey.size)
    omega
  have r1 : ex.size + 1 ≤ 9223372036854775807 := by omega
  have r2 : ex.size + 1 + wd.size ≤ 9223372036854775807 := by omega
  have r3 : ex.size + 1 + wd.size + 1 ≤ 9223372036854775807 := by omega
  have r4 : ex.size + 1 + wd.size + 1 + ey.size ≤ 9223372036854775807 := by omega
  have t1 : ¬ (9223372036854775807 < ex.size + 1) := by omega
  have t2 : ¬ (9223372036854775807 < ex.size + 1 + wd.size) := by omega
  have t3 : ¬ (9223372036854775807 < ex.size + 1 + wd.size + 1) := by omega
  have t4 : ¬ (9223372036854775807 < ex.size + 1 + wd.size + 1 + ey.size) := by omega
  have g0 := heap_alloc_new w (.cells #[.string wd, .int .i64 lv, .int .i64 op, .bool sw] 109)
  have g1 := heap_alloc_new (w.alloc (.cells #[.string wd, .int .i64 lv, .int .i64 op, .bool sw] 109)) (.cells #[.string sx, .int .i64 xl, .bool xi] 76)
  have g2 := heap_alloc_new ((w.alloc (.cells #[.string wd, .int .i64 lv, .int .i64 op, .bool sw] 109)).alloc (.cells #[.string sx, .int .i64 xl, .bool xi] 76)) (.cells #[.string sy, .int .i64 yl, .bool yi] 76)
  have g3 := heap_alloc_new (((w.alloc (.cells #[.string wd, .int .i64 lv, .int .i64 op, .bool sw] 109)).alloc (.cells #[.string sx, .int .i64 xl, .bool xi] 76)).alloc (.cells #[.string sy, .int .i64 yl, .bool yi] 76)) (.cells #[.string ⟨#[]⟩, .int .i64 0, .bool false] 76)
  simp only [World.size_alloc] at g1 g2 g3
  have k0 : ((((w.alloc (.cells #[.string wd, .int .i64 lv, .int .i64 op, .bool sw] 109)).alloc (.cells #[.string sx, .int .i64 xl, .bool xi] 76)).alloc (.cells #[.string sy, .int .i64 yl, .bool yi] 76)).alloc (.cells #[.string ⟨#[]⟩, .int .i64 0, .bool false] 76)).heap[w.heap.size]? = some (.cells #[.string wd, .int .i64 lv, .int .i64 op, .bool sw] 109 (0, 0)) := by
    rw [Below.heap_alloc _ _ _ (by simp; omega), Below.heap_alloc _ _ _ (by simp; omega), Below.heap_alloc _ _ _ (by simp)]
    exact g0
  have k1 : ((((w.alloc (.cells #[.string wd, .int .i64 lv, .int .i64 op, .bool sw] 109)).alloc (.cells #[.string sx, .int .i64 xl, .bool xi] 76)).alloc (.cells #[.string sy, .int .i64 yl, .bool yi] 76)).alloc (.cells #[.string ⟨#[]⟩, .int .i64 0, .bool false] 76)).heap[w.heap.size + 1]? = some (.cells #[.string sx, .int .i64 xl, .bool xi] 76 (0, 0)) := by
    rw [Below.heap_alloc _ _ _ (by simp), Below.heap_alloc _ _ _ (by simp)]
    exact g1
  have k2 : ((((w.alloc (.cells #[.string wd, .int .i64 lv, .int .i64 op, .bool sw] 109)).alloc (.cells #[.string sx, .int .i64 xl, .bool xi] 76)).alloc (.cells #[.string sy, .int .i64 yl, .bool yi] 76)).alloc (.cells #[.string ⟨#[]⟩, .int .i64 0, .bool false] 76)).heap[w.heap.size + 2]? = some (.cells #[.string sy, .int .i64 yl, .bool yi] 76 (0, 0)) := by
    rw [Below.heap_alloc _ _ _ (by simp)]
    exact g2
  have k3 : ((((w.alloc (.cells #[.string wd, .int .i64 lv, .int .i64 op, .bool sw] 109)).alloc (.cells #[.string sx, .int .i64 xl, .bool xi] 76)).alloc (.cells #[.string sy, .int .i64 yl, .bool yi] 76)).alloc (.cells #[.string ⟨#[]⟩, .int .i64 0, .bool false] 76)).heap[w.heap.size + 3]? = some (.cells #[.string ⟨#[]⟩, .int .i64 0, .bool false] 76 (0, 0)) := g3
  have hbel : Below w.heap.size w ((((w.alloc (.cells #[.string wd, .int .i64 lv, .int .i64 op, .bool sw] 109)).alloc (.cells #[.string sx, .int .i64 xl, .bool xi] 76)).alloc (.cells #[.string sy, .int .i64 yl, .bool yi] 76)).alloc (.cells #[.string ⟨#[]⟩, .int .i64 0, .bool false] 76)) := ((((Below.refl _ _).alloc (Nat.le_refl _) _).alloc (by simp) _).alloc (by simp; omega) _).alloc (by simp; omega) _
  have hsz : w.heap.size + 3 < ((((w.alloc (.cells #[.string wd, .int .i64 lv, .int .i64 op, .bool sw] 109)).alloc (.cells #[.string sx, .int .i64 xl, .bool xi] 76)).alloc (.cells #[.string sy, .int .i64 yl, .bool yi] 76)).alloc (.cells #[.string ⟨#[]⟩, .int .i64 0, .bool false] 76)).heap.size := by simp
  have hS : ((((w.alloc (.cells #[.string wd, .int .i64 lv, .int .i64 op, .bool sw] 109)).alloc (.cells #[.string sx, .int .i64 xl, .bool xi] 76)).alloc (.cells #[.string sy, .int .i64 yl, .bool yi] 76)).alloc (.cells #[.string ⟨#[]⟩, .int .i64 0, .bool false] 76)).drew.cell? ⟨w.heap.size, 0, none⟩ = some (.string wd) ∧ ((((w.alloc (.cells #[.string wd, .int .i64 lv, .int .i64 op, .bool sw] 109)).alloc (.cells #[.string sx, .int .i64 xl, .bool xi] 76)).alloc (.cells #[.string sy, .int .i64 yl, .bool yi] 76)).alloc (.cells #[.string ⟨#[]⟩, .int .i64 0, .bool false] 76)).drew.cell? ⟨w.heap.size, 1, none⟩ = some (.int .i64 lv) ∧ ((((w.alloc (.cells #[.string wd, .int .i64 lv, .int .i64 op, .bool sw] 109)).alloc (.cells #[.string sx, .int .i64 xl, .bool xi] 76)).alloc (.cells #[.string sy, .int .i64 yl, .bool yi] 76)).alloc (.cells #[.string ⟨#[]⟩, .int .i64 0, .bool false] 76)).drew.cell? ⟨w.heap.size + 1, 0, none⟩ = some (.string sx) ∧ ((((w.alloc (.cells #[.string wd, .int .i64 lv, .int .i64 op, .bool sw] 109)).alloc (.cells #[.string sx, .int .i64 xl, .bool xi] 76)).alloc (.cells #[.string sy, .int .i64 yl, .bool yi] 76)).alloc (.cells #[.string ⟨#[]⟩, .int .i64 0, .bool false] 76)).drew.cell? ⟨w.heap.size + 1, 1, none⟩ = some (.int .i64 xl) ∧ ((((w.alloc (.cells #[.string wd, .int .i64 lv, .int .i64 op, .bool sw] 109)).alloc (.cells #[.string sx, .int .i64 xl, .bool xi] 76)).alloc (.cells #[.string sy, .int .i64 yl, .bool yi] 76)).alloc (.cells #[.string ⟨#[]⟩, .int .i64 0, .bool false] 76)).drew.cell? ⟨w.heap.size + 1, 2, none⟩ = some (.bool xi) ∧ ((((w.alloc (.cells #[.string wd, .int .i64 lv, .int .i64 op, .bool sw] 109)).alloc (.cells #[.string sx, .int .i64 xl, .bool xi] 76)).alloc (.cells #[.string sy, .int .i64 yl, .bool yi] 76)).alloc (.cells #[.string ⟨#[]⟩, .int .i64 0, .bool false] 76)).drew.cell? ⟨w.heap.size + 2, 0, none⟩ = some (.string sy) ∧ ((((w.alloc (.cells #[.string wd, .int .i64 lv, .int .i64 op, .bool sw] 109)).alloc (.cells #[.string sx, .int .i64 xl, .bool xi] 76)).alloc (.cells #[.string sy, .int .i64 yl, .bool yi] 76)).alloc (.cells #[.string ⟨#[]⟩, .int .i64 0, .bool false] 76)).drew.cell? ⟨w.heap.size + 2, 1, none⟩ = some (.int .i64 yl) ∧ ((((w.alloc (.cells #[.string wd, .int .i64 lv, .int .i64 op, .bool sw] 109)).alloc (.cells #[.string sx, .int .i64 xl, .bool xi] 76)).alloc (.cells #[.string sy, .int .i64 yl, .bool yi] 76)).alloc (.cells #[.string ⟨#[]⟩, .int .i64 0, .bool false] 76)).drew.cell? ⟨w.heap.size + 2, 2, none⟩ = some (.bool yi) ∧ Below (w.heap.size + 3) ((((w.alloc (.cells #[.string wd, .int .i64 lv, .int .i64 op, .bool sw] 109)).alloc (.cells #[.string sx, .int .i64 xl, .bool xi] 76)).alloc (.cells #[.string sy, .int .i64 yl, .bool yi] 76)).alloc (.cells #[.string ⟨#[]⟩, .int .i64 0, .bool false] 76)) ((((w.alloc (.cells #[.string wd, .int .i64 lv, .int .i64 op, .bool sw] 109)).alloc (.cells #[.string sx, .int .i64 xl, .bool xi] 76)).alloc (.cells #[.string sy, .int .i64 yl, .bool yi] 76)).alloc (.cells #[.string ⟨#[]⟩, .int .i64 0, .bool false] 76)).drew :=
    ⟨(cell_of_row _ _ 0 _ _ _ k0).trans rfl, (cell_of_row _ _ 1 _ _ _ k0).trans rfl, (cell_of_row _ _ 0 _ _ _ k1).trans rfl, (cell_of_row _ _ 1 _ _ _ k1).trans rfl, (cell_of_row _ _ 2 _ _ _ k1).trans rfl, (cell_of_row _ _ 0 _ _ _ k2).trans rfl, (cell_of_row _ _ 1 _ _ _ k2).trans rfl, (cell_of_row _ _ 2 _ _ _ k2).trans rfl, (Below.refl _ _).drew⟩
  have hzb : Box3 ((((w.alloc (.cells #[.string wd, .int .i64 lv, .int .i64 op, .bool sw] 109)).alloc (.cells #[.string sx, .int .i64 xl, .bool xi] 76)).alloc (.cells #[.string sy, .int .i64 yl, .bool yi] 76)).alloc (.cells #[.string ⟨#[]⟩, .int .i64 0, .bool false] 76)).drew (w.heap.size + 3) (.string ⟨#[]⟩) (.int .i64 0) (.bool false) 76 := ⟨k3⟩
  have HBEL := Lib.hid hbel
  clear hpc hsx hsy hex hey g0 g1 g2 g3 k0 k1 k2 k3 hbel q1 q2 esz hx hy hwd
  have HS := Lib.hid (And.intro hS hsz)
  have HZB := Lib.hid hzb
  clear hS hzb hsz
  by_cases h3 : lv = 3
  · subst h3
    rw [if_pos rfl] at hl1
    subst hl1
    go_enter Tryz.func71, Tryz.ntmps71
    go_wp2_with fail
    generalize hW0 : ((((w.alloc (.cells #[.string wd, .int .i64 3, .int .i64 op, .bool sw] 109)).alloc (.cells #[.string sx, .int .i64 xl, .bool xi] 76)).alloc (.cells #[.string sy, .int .i64 yl, .bool yi] 76)).alloc (.cells #[.string ⟨#[]⟩, .int .i64 0, .bool false] 76)) = W0 at *
    have hsz : w.heap.size + 3 < W0.drew.heap.size := HS.out.2
    have hS0 := HS.out.1
    have hzb := HZB.out
    have z0 := hzb.c0
    have z1 := hzb.c1
    have z2 := hzb.c2
    have zf := hzb.free
    clear HS HZB hW0
    go_region_held3 (fun w' => w'.cell? ⟨w.heap.size, 0, none⟩ = some (.string wd) ∧ w'.cell? ⟨w.heap.size, 1, none⟩ = some (.int .i64 3) ∧ w'.cell? ⟨w.heap.size + 1, 0, none⟩ = some (.string sx) ∧ w'.cell? ⟨w.heap.size + 1, 1, none⟩ = some (.int .i64 xl) ∧ w'.cell? ⟨w.heap.size + 1, 2, none⟩ = some (.bool xi) ∧ w'.cell? ⟨w.heap.size + 2, 0, none⟩ = some (.string sy) ∧ w'.cell? ⟨w.heap.size + 2, 1, none⟩ = some (.int .i64 yl) ∧ w'.cell? ⟨w.heap.size + 2, 2, none⟩ = some (.bool yi) ∧ Below (w.heap.size + 3) W0 w')
      (first | with_reducible exact hS0 | exact keepInf (by assumption) (by assumption) hcall | exact keepInfSt (by assumption) (by assumption))
      (first
        | (go_at_call_of 68 (Value.agg #[Value.string sx, Value.int IntKind.i64 xl, Value.bool xi]); refine (CX.out _).mono ?_; rintro e w' ⟨rfl, hcall⟩; have hsz := Nat.lt_of_lt_of_le hsz hcall.size; have hzb := Box3.keep (by assumption) hcall; have z0 := hzb.c0; have z1 := hzb.c1; have z2 := hzb.c2; have zf := hzb.free)
        | (go_at_call_of 68 (Value.agg #[Value.string sy, Value.int IntKind.i64 yl, Value.bool yi]); refine (CY.out _).mono ?_; rintro e w' ⟨rfl, hcall⟩; have hsz := Nat.lt_of_lt_of_le hsz hcall.size; have hzb := Box3.keep (by assumption) hcall; have z0 := hzb.c0; have z1 := hzb.c1; have z2 := hzb.c2; have zf := hzb.free))
    all_goals
      obtain ⟨_, _, _, _, _, _, _, _, hB⟩ := ‹_ ∧ _›
      have HF := Lib.hid (HBEL.out.trans (hB.mono (by omega)))
      have hld := box_pc (Box3.store (x' := .string ((((ex ++ ⟨#[32]⟩) ++ wd) ++ ⟨#[32]⟩) ++ ey)) (y' := .int .i64 3) (z' := .bool false) hzb).block
      clear hB
      go_wp2_with fail
      exact bodyPost_ret (v := .agg #[.string ((((ex ++ ⟨#[32]⟩) ++ wd) ++ ⟨#[32]⟩) ++ ey), .int .i64 3, .bool false]) (by simp [results, Tryz.results71, Act.put, asAddr, hld]) rfl ⟨rfl, HF.out⟩
  · rw [if_neg h3] at hl1
    subst hl1
    have h3b : (lv == 3) = false := by simpa using h3
    obtain ⟨hlv1, hlv2⟩ := hlv
    have hwr : IntKind.i64.wrap (lv + 1) = lv + 1 := by rw [IntKind.wrap_i64]; omega
    go_enter Tryz.func71, Tryz.ntmps71
    go_wp2_with fail
    generalize hW0 : ((((w.alloc (.cells #[.string wd, .int .i64 lv, .int .i64 op, .bool sw] 109)).alloc (.cells #[.string sx, .int .i64 xl, .bool xi] 76)).alloc (.cells #[.string sy, .int .i64 yl, .bool yi] 76)).alloc (.cells #[.string ⟨#[]⟩, .int .i64 0, .bool false] 76)) = W0 at *
    have hsz : w.heap.size + 3 < W0.drew.heap.size := HS.out.2
    have hS0 := HS.out.1
    have hzb := HZB.out
    have z0 := hzb.c0
    have z1 := hzb.c1
    have z2 := hzb.c2
    have zf := hzb.free
    clear HS HZB hW0
    go_region_held3 (fun w' => w'.cell? ⟨w.heap.size, 0, none⟩ = some (.string wd) ∧ w'.cell? ⟨w.heap.size, 1, none⟩ = some (.int .i64 lv) ∧ w'.cell? ⟨w.heap.size + 1, 0, none⟩ = some (.string sx) ∧ w'.cell? ⟨w.heap.size + 1, 1, none⟩ = some (.int .i64 xl) ∧ w'.cell? ⟨w.heap.size + 1, 2, none⟩ = some (.bool xi) ∧ w'.cell? ⟨w.heap.size + 2, 0, none⟩ = some (.string sy) ∧ w'.cell? ⟨w.heap.size + 2, 1, none⟩ = some (.int .i64 yl) ∧ w'.cell? ⟨w.heap.size + 2, 2, none⟩ = some (.bool yi) ∧ Below (w.heap.size + 3) W0 w')
      (first | with_reducible exact hS0 | exact keepInf (by assumption) (by assumption) hcall | exact keepInfSt (by assumption) (by assumption))
      (first
        | (go_at_call_of 68 (Value.agg #[Value.string sx, Value.int IntKind.i64 xl, Value.bool xi]); refine (CX.out _).mono ?_; rintro e w' ⟨rfl, hcall⟩; have hsz := Nat.lt_of_lt_of_le hsz hcall.size; have hzb := Box3.keep (by assumption) hcall; have z0 := hzb.c0; have z1 := hzb.c1; have z2 := hzb.c2; have zf := hzb.free)
        | (go_at_call_of 68 (Value.agg #[Value.string sy, Value.int IntKind.i64 yl, Value.bool yi]); refine (CY.out _).mono ?_; rintro e w' ⟨rfl, hcall⟩; have hsz := Nat.lt_of_lt_of_le hsz hcall.size; have hzb := Box3.keep (by assumption) hcall; have z0 := hzb.c0; have z1 := hzb.c1; have z2 := hzb.c2; have zf := hzb.free))
    all_goals
      obtain ⟨_, _, _, _, _, _, _, _, hB⟩ := ‹_ ∧ _›
      have HF := Lib.hid (HBEL.out.trans (hB.mono (by omega)))
      have hld := box_pc (Box3.store (x' := .string ((((ex ++ ⟨#[32]⟩) ++ wd) ++ ⟨#[32]⟩) ++ ey)) (y' := .int .i64 lv) (z' := .bool false) hzb).block
      clear hB
      go_wp2_with fail
      exact bodyPost_ret (v := .agg #[.string ((((ex ++ ⟨#[32]⟩) ++ wd) ++ ⟨#[32]⟩) ++ ey), .int .i64 lv, .bool false]) (by simp [results, Tryz.results71, Act.put, asAddr, hld]) rfl ⟨rfl, HF.out⟩

end Go.Proofs.YtmdpjahhhfajaaaGreatDoor
