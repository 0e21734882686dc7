/-
  For every layer: columns in memory (what came in, what lies in a row). · What the program holds of the library's sort and compact, at strings:  · The program: Columns.
-/
import Derived.Test.YtmdpjahhhfajaaaDoorJA01
import Derived.Test.YtmdpjahhhfajaaaDoorRows
import Derived.Shelf.Sort.Plain
import Derived.Shelf.Slices.CompactS
import Derived.Test.YtmdpjahhhfajaaaDoorJA05
import Derived.Shelf.Slices.In.SortNone
set_option linter.unusedVariables false
set_option maxRecDepth 100000
set_option linter.unusedSimpArgs false
namespace Wh
open Go
structure C where
  nm : ByteArray
  k : Int
  nu : Bool
end Wh
namespace Go.Proofs.YtmdpjahhhfajaaaDoor
open Go.RowKit Wh
def IsCols (w : World) (a : Option Addr) (len : Nat) (cs : List C) : Prop :=
  cs.length = len ∧ (cs = [] ∨ ∃ b off, a = some ⟨b, off, none⟩ ∧ b < w.heap.size ∧ ∀ i c, cs[i]? = some c →
    w.cell? ⟨b, off + i * 3, none⟩ = some (.string c.nm) ∧ w.cell? ⟨b, off + i * 3 + 1, none⟩ = some (.int .i64 c.k) ∧ w.cell? ⟨b, off + i * 3 + 2, none⟩ = some (.bool c.nu))
theorem IsCols.below {w w' : World} {a : Option Addr} {len B : Nat} {cs : List C} (h : IsCols w a len cs) (hb : Below B w w') (hB : w.heap.size ≤ B) : IsCols w' a len cs := by
  obtain ⟨h1, h2⟩ := h
  refine ⟨h1, ?_⟩
  rcases h2 with h2 | ⟨b, off, ha, hlt, hc⟩
  · exact .inl h2
  · have e : ∀ o, w'.cell? ⟨b, o, none⟩ = w.cell? ⟨b, o, none⟩ := fun o => hb.cell (p := ⟨b, o, none⟩) (by show b < B; omega)
    refine .inr ⟨b, off, ha, by have := hb.size; omega, fun i s hs => ?_⟩
    rw [e, e, e]
    exact hc i s hs
theorem IsCols.at {w : World} {a : Option Addr} {len : Nat} {cs : List C} (h : IsCols w a len cs) {k : Nat} (hk : k < len) :
    ∃ nm kd nu b off, cs[k]? = some ⟨nm, kd, nu⟩ ∧ a = some ⟨b, off, none⟩ ∧ b < w.heap.size ∧ w.cell? ⟨b, off + k * 3, none⟩ = some (.string nm) ∧ w.cell? ⟨b, off + k * 3 + 1, none⟩ = some (.int .i64 kd) ∧ w.cell? ⟨b, off + k * 3 + 2, none⟩ = some (.bool nu) := by
  obtain ⟨h1, h2⟩ := h
  obtain ⟨⟨nm, kd, nu⟩, hs⟩ : ∃ s, cs[k]? = some s := ⟨_, List.getElem?_eq_getElem (by omega)⟩
  rcases h2 with rfl | ⟨b, off, ha, hlt, hc⟩
  · simp at hs
  · exact ⟨nm, kd, nu, b, off, hs, ha, hlt, (hc k _ hs).1, (hc k _ hs).2.1, (hc k _ hs).2.2⟩
theorem IsCols.take {w : World} {a : Option Addr} {len : Nat} {cs : List C} (h : IsCols w a len cs) {k : Nat} (hk : k ≤ len) : IsCols w a k (cs.take k) := by
  obtain ⟨h1, h2⟩ := h
  refine ⟨by rw [List.length_take]; omega, ?_⟩
  rcases h2 with rfl | ⟨b, off, ha, hlt, hc⟩
  · exact .inl (by simp)
  · refine .inr ⟨b, off, ha, hlt, fun i c hi => hc i c ?_⟩
    have hlt := (List.getElem?_eq_some_iff.1 hi).1
    rw [List.length_take] at hlt
    rw [List.getElem?_take_of_lt (by omega)] at hi
    exact hi
end Go.Proofs.YtmdpjahhhfajaaaDoor
namespace Go.Proofs.YtmdpjahhhfajaaaDoor
open Go.Shelf
def sortS_ren : Go.Shelf.Ren := ⟨fun | 190 => 28 | 125 => 46 | 258 => 45 | 128 => 68 | 129 => 69 | 302 => 59 | 303 => 60 | 304 => 61 | 305 => 62 | 306 => 63 | 307 => 64 | 308 => 65 | 309 => 66 | 310 => 67 | 333 => 77 | 329 => 78 | 330 => 79 | 334 => 80 | 335 => 81 | 336 => 82 | 344 => 91 | n => n, fun | 31 => 36 | 9 => 9 | 3 => 3 | 46 => 31 | 0 => 0 | 51 => 87 | 53 => 89 | 4 => 4 | 183 => 80 | 182 => 79 | 131 => 75 | 5 => 5 | 218 => 109 | 222 => 113 | 228 => 123 | 229 => 124 | n => n, fun n => n⟩
theorem sortS : Lays.n190 Tryd.prog sortS_ren := {
  mixed := by kernel_rfl,
  f125 := Tryd.func46.trans (congrArg some (by kernel_rfl)),
  f128 := Tryd.func68.trans (congrArg some (by kernel_rfl)),
  f129 := Tryd.func69.trans (congrArg some (by kernel_rfl)),
  f190 := Tryd.func28.trans (congrArg some (by kernel_rfl)),
  f258 := Tryd.func45.trans (congrArg some (by kernel_rfl)),
  f302 := Tryd.func59.trans (congrArg some (by kernel_rfl)),
  f303 := Tryd.func60.trans (congrArg some (by kernel_rfl)),
  f304 := Tryd.func61.trans (congrArg some (by kernel_rfl)),
  f305 := Tryd.func62.trans (congrArg some (by kernel_rfl)),
  f306 := Tryd.func63.trans (congrArg some (by kernel_rfl)),
  f307 := Tryd.func64.trans (congrArg some (by kernel_rfl)),
  f308 := Tryd.func65.trans (congrArg some (by kernel_rfl)),
  f309 := Tryd.func66.trans (congrArg some (by kernel_rfl)),
  f310 := Tryd.func67.trans (congrArg some (by kernel_rfl)),
  f329 := Tryd.func78.trans (congrArg some (by kernel_rfl)),
  f330 := Tryd.func79.trans (congrArg some (by kernel_rfl)),
  f333 := Tryd.func77.trans (congrArg some (by kernel_rfl)),
  f334 := Tryd.func80.trans (congrArg some (by kernel_rfl)),
  f335 := Tryd.func81.trans (congrArg some (by kernel_rfl)),
  f336 := Tryd.func82.trans (congrArg some (by kernel_rfl)),
  f344 := Tryd.func91.trans (congrArg some (by kernel_rfl)),
  t0 := Tryd.underlying0,
  a0 := Tryd.isAgg0,
  z0 := Tryd.sizeOf0,
  v0 := Tryd.zeroValue0,
  t3 := Tryd.underlying3,
  a3 := Tryd.isAgg3,
  z3 := Tryd.sizeOf3,
  v3 := Tryd.zeroValue3,
  t4 := Tryd.underlying4,
  a4 := Tryd.isAgg4,
  z4 := Tryd.sizeOf4,
  v4 := Tryd.zeroValue4,
  t5 := Tryd.underlying5,
  a5 := Tryd.isAgg5,
  z5 := Tryd.sizeOf5,
  v5 := Tryd.zeroValue5,
  t9 := Tryd.underlying9,
  a9 := Tryd.isAgg9,
  z9 := Tryd.sizeOf9,
  v9 := Tryd.zeroValue9,
  t31 := Tryd.underlying36,
  a31 := Tryd.isAgg36,
  z31 := Tryd.sizeOf36,
  v31 := Tryd.zeroValue36,
  t46 := Tryd.underlying31,
  a46 := Tryd.isAgg31,
  z46 := Tryd.sizeOf31,
  v46 := Tryd.zeroValue31,
  t51 := Tryd.underlying87,
  a51 := Tryd.isAgg87,
  z51 := Tryd.sizeOf87,
  v51 := Tryd.zeroValue87,
  t53 := Tryd.underlying89,
  a53 := Tryd.isAgg89,
  z53 := Tryd.sizeOf89,
  v53 := Tryd.zeroValue89,
  t131 := Tryd.underlying75,
  a131 := Tryd.isAgg75,
  z131 := Tryd.sizeOf75,
  v131 := Tryd.zeroValue75,
  t182 := Tryd.underlying79,
  a182 := Tryd.isAgg79,
  z182 := Tryd.sizeOf79,
  v182 := Tryd.zeroValue79,
  t183 := Tryd.underlying80,
  a183 := Tryd.isAgg80,
  z183 := Tryd.sizeOf80,
  v183 := Tryd.zeroValue80,
  t218 := Tryd.underlying109,
  a218 := Tryd.isAgg109,
  z218 := Tryd.sizeOf109,
  v218 := Tryd.zeroValue109,
  t222 := Tryd.underlying113,
  a222 := Tryd.isAgg113,
  z222 := Tryd.sizeOf113,
  v222 := Tryd.zeroValue113,
  t228 := Tryd.underlying123,
  a228 := Tryd.isAgg123,
  z228 := Tryd.sizeOf123,
  v228 := Tryd.zeroValue123,
  t229 := Tryd.underlying124,
  a229 := Tryd.isAgg124,
  z229 := Tryd.sizeOf124,
  v229 := Tryd.zeroValue124 }
def compactS_ren : Go.Shelf.Ren := ⟨fun | 194 => 29 | n => n, fun | 31 => 36 | 9 => 9 | 3 => 3 | 4 => 4 | 0 => 0 | n => n, fun n => n⟩
theorem compactS : Lays.n194 Tryd.prog compactS_ren := {
  mixed := by kernel_rfl,
  f194 := Tryd.func29.trans (congrArg some (by kernel_rfl)),
  t0 := Tryd.underlying0,
  a0 := Tryd.isAgg0,
  z0 := Tryd.sizeOf0,
  v0 := Tryd.zeroValue0,
  t3 := Tryd.underlying3,
  a3 := Tryd.isAgg3,
  z3 := Tryd.sizeOf3,
  v3 := Tryd.zeroValue3,
  t4 := Tryd.underlying4,
  a4 := Tryd.isAgg4,
  z4 := Tryd.sizeOf4,
  v4 := Tryd.zeroValue4,
  t9 := Tryd.underlying9,
  a9 := Tryd.isAgg9,
  z9 := Tryd.sizeOf9,
  v9 := Tryd.zeroValue9,
  t31 := Tryd.underlying36,
  a31 := Tryd.isAgg36,
  z31 := Tryd.sizeOf36,
  v31 := Tryd.zeroValue36 }
end Go.Proofs.YtmdpjahhhfajaaaDoor
namespace Wh
open Go Go.Proofs.YtmdpjahhhfajaaaDoor
def colsN (ts : List Nd) : List (List UInt8) := (ts.filter fun t => decide (t.op = 1)).map fun t => bts t.nm
def colsS (ts : List Nd) : List (List UInt8) := Lib.compact ((colsN ts).mergeSort fun x y => decide (x ≤ y))
theorem colsN_take {ts : List Nd} {k : Nat} {t : Nd} (h : ts[k]? = some t) : colsN (ts.take (k + 1)) = if t.op = 1 then colsN (ts.take k) ++ [bts t.nm] else colsN (ts.take k) := by
  unfold colsN
  rw [List.take_add_one, h]
  by_cases h1 : t.op = 1
  · rw [if_pos h1]; simp [h1]
  · rw [if_neg h1]; simp [h1]
theorem colsN_len (ts : List Nd) : (colsN ts).length ≤ ts.length := by
  unfold colsN
  rw [List.length_map]
  exact List.length_filter_le _ _
end Wh
namespace Go.Proofs.YtmdpjahhhfajaaaDoor
open Go.RowKit Go.Shelf Go.Sort Wh
theorem below_put {w : World} {base blk off : Nat} {d : Array (List UInt8)} (h : base ≤ blk) : Below base w (putRow encStr w blk off d) := by
  refine ⟨rfl, rfl, rfl, by rw [size_putRow]; exact Nat.le_refl _, fun k hk => ?_⟩
  unfold putRow mapBlock
  simp only [Array.getElem?_modify]
  rw [if_neg (by omega)]
theorem below_gro {w : World} {os : Array Obj} : Below w.heap.size w (grow w os) :=
  ⟨rfl, rfl, rfl, by rw [size_grow]; omega, fun k hk => heap_grow_old w os hk⟩
theorem below_ahd {w : World} {base n : Nat} : Below base w (Sort.ahead w n) := ⟨rfl, rfl, rfl, Nat.le_refl _, fun _ _ => rfl⟩
theorem own_strs {w : World} {base n : Nat} {v : Value} {l : List (List UInt8)} (h : w.ownsRow base 9 1 v n (l.map encStr)) (hn : l.length = n) :
    (v = .slice none 0 0 ∧ l = []) ∨ ∃ g cap, v = .slice (some ⟨g, 0, none⟩) l.length cap ∧ base ≤ g ∧ g < w.heap.size ∧ l.length ≤ cap ∧ cap ≤ maxLen ∧ Holds encStr w g 0 l.toArray := by
  rcases h.2 with ⟨rfl, rfl⟩ | ⟨g, cap, cur, rfl, hg, hh, hnc, hmc, hsz, ht⟩
  · exact .inl ⟨rfl, List.eq_nil_of_length_eq_zero hn⟩
  · have hlt : g < w.heap.size := (Array.getElem?_eq_some_iff.1 hh).1
    refine .inr ⟨g, cap, by rw [hn], hg, hlt, by omega, hmc, fun j hj => ⟨?_, by simp [World.frozen?, hh]⟩⟩
    have hj2 : j < l.length := by simpa using hj
    rw [Nat.zero_add, h.cellAt j (by omega), List.getElem?_map, List.getElem?_eq_getElem hj2]
    simp [hj2]
set_option maxHeartbeats 8000000 in
theorem pcolumns_any (a : Option Addr) (len cap : Nat) (ts : List Nd) (w : World) (hs : IsNodes w a len ts) (hl : len ≤ 1000000) :
    Calls Tryd.prog 15 #[.slice a len cap] w fun e w' => ∃ A C, e = .returned (.slice A (colsS ts).length C) ∧ IsStrs w' A (colsS ts).length ((colsS ts).map fun l => (⟨l.toArray⟩ : ByteArray)) ∧ Below w.heap.size w w' := by
  have hln := hs.1
  obtain ⟨i0, hi, hz0, hz1, hz2⟩ := info_parts info_str
  have HS := Lib.hid hs
  clear hs
  go_enter Tryd.func15, Tryd.ntmps15
  go_wp2_with fail
  go_loopw [3, 8] (fun ov iv wr => ∃ k : Nat, k ≤ len ∧ iv = .int .i64 k ∧ wr.ownsRow w.heap.size 9 1 ov (colsN (ts.take k)).length ((colsN (ts.take k)).map encStr) ∧ Hid (Below w.heap.size w wr)) (fun _ iv _ => len - (intOf iv).toNat)
  case atStart => exact ⟨0, Nat.zero_le _, rfl, World.ownsRow_nil _ _ _ _, Below.refl _ _⟩
  case round =>
    obtain ⟨k, hk, rfl, hown, HB⟩ := hrel
    have hsz := HB.out.size
    by_cases hlt : k < len
    · obtain ⟨t, b, off, ht, rfl, hbl, hat⟩ := (HS.out.below HB.out (Nat.le_refl _)).at hlt
      have hki : (k : Int) < (len : Int) := by omega
      have hct := colsN_take ht
      have hcl := colsN_len (ts.take k)
      rw [List.length_take] at hcl
      obtain ⟨op, ⟨vk, vn, vs⟩, nm, ar⟩ := t
      obtain ⟨c0, c1, c2, c3, c4, c5⟩ := hat
      simp only at hct c0 c1 c2 c3 c4 c5
      have HB1 := Lib.hid (HB.out.alloc hsz (.cells #[.int .i64 op, .int .i64 vk, .int .i64 vn, .string vs, .string nm, .int .i64 ar] 26))
      by_cases h1 : op = 1
      · rw [if_pos h1] at hct
        subst h1
        have HCT := Lib.hid hct
        clear hct ht
        generalize colsN (ts.take k) = L at *
        go_wp2_with (at_builtin; refine wpList_append_own _ rfl _ _ 36 rfl w.heap.size 9 i0 _ 1 16 Tryd.underlying36 hi hz0 hz1 hz2 rfl (by decide) _ _ _ rfl ((hown.alloc _).alloc _) ⟨wr.heap.size + 1, 0, none⟩ 1 1 [.string nm] rfl rfl ?c1 ?c2 ?c3 ?c4 ?c5 ?_)
        case c1 =>
          have h := World.news_of_block (cs := #[.string nm]) (t := 9) (fr := (0, 0)) (heap_alloc_new (wr.alloc (.cells #[.int .i64 1, .int .i64 vk, .int .i64 vn, .string vs, .string nm, .int .i64 ar] 26)) (.cells #[.string nm] 9))
          rw [World.size_alloc] at h
          exact h
        case c2 => simp [Value.oneCell']
        case c3 => simp [maxLen]; omega
        case c4 => omega
        case c5 => simp; omega
        intro v5 w5 hown5 hgrow _
        have hB5 : Hid (Below w.heap.size w w5) := (HB1.out.alloc HB1.out.size _).grown hgrow (by simp; omega) (fun j hj => (hown.lt j hj).1)
        have HO5 : Hid (w5.ownsRow w.heap.size 9 1 v5 (colsN (ts.take (k + 1))).length ((colsN (ts.take (k + 1))).map encStr)) := by
          show World.ownsRow _ _ _ _ _ _ _
          rw [HCT.out, List.length_append, List.map_append]
          exact hown5
        clear hown5 hgrow hown
        go_wp2_with fail
        go_roundw
        case rel => exact ⟨k + 1, by omega, by go_num, HO5.out, hB5⟩
        case measure => simp [intOf]; omega
      · rw [if_neg h1] at hct
        have h1b : (op == 1) = false := by simpa using h1
        have ho5 := hown.alloc (.cells #[.int .i64 op, .int .i64 vk, .int .i64 vn, .string vs, .string nm, .int .i64 ar] 26)
        rw [← hct] at ho5
        have HO5 := Lib.hid ho5
        clear ho5
        clear hct ht hown
        go_wp2_with fail
        go_roundw
        case rel => exact ⟨k + 1, by omega, by go_num, HO5.out, HB1⟩
        case measure => simp [intOf]; omega
    · obtain rfl : k = len := by omega
      have hki : ¬ (k : Int) < (k : Int) := by omega
      rw [List.take_of_length_le (by omega)] at hown
      have hcl := colsN_len ts
      rcases own_strs hown rfl with ⟨rfl, hn⟩ | ⟨g, cap, rfl, hg, hgl, hlc, hcm, hH⟩
      · have hcs : colsS ts = [] := by
          unfold colsS
          rw [hn]
          simp [Lib.compact, Lib.compactUpTo]
        have HCS := Lib.hid hcs
        have CS := Lib.hid (Any.slices_Sort_string_none sortS none 0 wr)
        have CC := Lib.hid (Any.slices_Compact_string_empty compactS none 0 wr)
        clear hown hn hcs
        go_wp2_with fail
        refine CS.out.mono ?_
        rintro e w2 ⟨rfl, rfl⟩
        go_wp2_with fail
        refine CC.out.mono ?_
        rintro e w3 ⟨rfl, rfl⟩
        go_wp2_with fail
        go_ret
        rw [HCS.out]
        exact ⟨none, 0, rfl, ⟨rfl, .inl rfl⟩, HB.out⟩
      · have CS := Lib.hid (Any.slices_Sort_string sortS g 0 cap (colsN ts) wr hH hgl (by omega))
        obtain ⟨S, hS⟩ : ∃ S, (colsN ts).mergeSort (fun x y => decide (x ≤ y)) = S := ⟨_, rfl⟩
        have hSl : S.length = (colsN ts).length := by rw [← hS, List.length_mergeSort]
        have hcs : colsS ts = Lib.compact S := by unfold colsS; rw [hS]
        rw [hS] at CS
        have HCS := Lib.hid hcs
        have HH := Lib.hid hH
        clear hown hS hcs hH
        go_wp2_with fail
        refine CS.out.mono ?_
        rintro e w2 ⟨rfl, n, os, rfl⟩
        have hH2 : Holds encStr (grow (putRow encStr (Sort.ahead wr n) g 0 S.toArray) os) g 0 S.toArray :=
          holds_grow _ _ _ _ _ _ (by rw [size_putRow]; exact hgl) (holds_putRow _ _ _ _ _ _ (holds_ahead _ _ _ _ _ _ HH.out) (by simp [hSl]))
        have hB2 : Below w.heap.size w (grow (putRow encStr (Sort.ahead wr n) g 0 S.toArray) os) :=
          ((HB.out.trans below_ahd).trans (below_put hg)).trans (below_gro.mono (by rw [size_putRow]; exact hsz))
        have CC := Lib.hid (Any.slices_Compact_string compactS g 0 cap S _ hH2 (by omega) (by omega))
        rw [hSl] at CC
        have HB2 := Lib.hid hB2
        have hgl2 : g < (grow (putRow encStr (Sort.ahead wr n) g 0 S.toArray) os).heap.size := by rw [size_grow, size_putRow]; exact Nat.lt_of_lt_of_le hgl (Nat.le_add_right _ _)
        have HH2 := Lib.hid hH2
        clear hB2 CS hH2
        generalize grow (putRow encStr (Sort.ahead wr n) g 0 S.toArray) os = w2 at *
        go_wp2_with fail
        refine CC.out.mono ?_
        rintro e w3 ⟨rfl, q, rfl⟩
        go_wp2_with fail
        go_ret
        rw [HCS.out]
        have hcl2 : (Lib.compact S).length ≤ S.length := by
          unfold Lib.compact Lib.compactUpTo
          rw [List.length_map]
          refine Nat.le_trans (List.length_filter_le _ _) ?_
          rw [List.length_range]
          exact Nat.le_refl _
        have hH3 := holds_putRow encStr (Sort.ahead w2 q) g 0 S.toArray (Lib.compact S ++ List.replicate (S.length - (Lib.compact S).length) []).toArray (holds_ahead _ _ _ _ _ _ HH2.out) (by simp; omega)
        rw [hSl] at hH3
        refine ⟨some ⟨g, 0, none⟩, cap, rfl, ⟨by rw [List.length_map], .inr ⟨g, 0, rfl, by rw [size_putRow]; exact hgl2, fun i s hs => ?_⟩⟩, (HB2.out.trans below_ahd).trans (below_put hg)⟩
        rw [List.getElem?_map] at hs
        obtain ⟨x, hx, rfl⟩ := Option.map_eq_some_iff.1 hs
        have hil := (List.getElem?_eq_some_iff.1 hx).1
        have h3 := (hH3 i (by simp; omega)).1
        rw [h3]
        congr 1
        have : (Lib.compact S ++ List.replicate ((colsN ts).length - (Lib.compact S).length) [])[i]? = some x := by rw [List.getElem?_append_left hil, hx]
        simp [this]
end Go.Proofs.YtmdpjahhhfajaaaDoor
