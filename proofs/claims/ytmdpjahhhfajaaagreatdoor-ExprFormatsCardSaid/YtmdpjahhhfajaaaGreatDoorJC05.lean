/-
  IsQualified, of schema and of its reference; strings.Cut at the separa · What the program holds of the library's strings.ReplaceAll, strings.Jo
-/
import Derived.Test.YtmdpjahhhfajaaaGreatDoorJC04
import Derived.Lib.IndexLaws
import Derived.Test.YtmdpjahhhfajaaaGreatDoorRows
import Derived.Shelf.Strings.OnBuilder
import Derived.Shelf.Strings.Replace
import Derived.Shelf.Strconv.Itoa3
import Derived.Shelf.Strconv.AtoiAll
set_option linter.unusedVariables false
set_option maxRecDepth 100000
namespace Go.Proofs.YtmdpjahhhfajaaaGreatDoor
open Go.RowKit Wh
def dotI (s : ByteArray) : Int := Lib.indexByte s.data.toList 46
def qualB (s : ByteArray) : Bool := if dotI s < 0 then nameB s else nameB (s.extract 0 (dotI s).toNat) && nameB (s.extract ((dotI s).toNat + 1) s.size)
theorem qualB_no {s : ByteArray} (h : dotI s = -1) : qualB s = nameB s := by unfold qualB; rw [if_pos (by omega)]
theorem qualB_at {s : ByteArray} {i : Nat} (h : dotI s = i) : qualB s = (nameB (s.extract 0 i) && nameB (s.extract (i + 1) s.size)) := by
 unfold qualB
 rw [if_neg (by omega), h]
 rfl
theorem dot_cases (s : ByteArray) : dotI s = -1 ∨ ∃ i : Nat, dotI s = i ∧ i < s.size := by
 have h := Lib.indexByte_ge s.data.toList 46
 by_cases h1 : dotI s = -1
 ·exact .inl h1
 ·obtain ⟨i, hi⟩ : ∃ i : Nat, dotI s = i := ⟨(dotI s).toNat, by unfold dotI at *; omega⟩
  refine .inr ⟨i, hi, ?_⟩
  have := (Lib.indexByte_some hi).1
  have := (List.getElem?_eq_some_iff.1 this).1
  rwa [show s.data.toList.length = s.size from Array.length_toList] at this
theorem dot_first {s : ByteArray} {k : Nat} (h : ∀ j, j < k → ¬ btN s j = 46) (hk : k < s.size) (hd : btN s k = 46) : dotI s = k := by
 have e : (bts s)[k]? = some 46 := by
  obtain ⟨x, hx⟩ := bts_at hk
  rw [hx]
  rw [btN_of hx] at hd
  congr 1
  exact UInt8.toNat_inj.1 hd
 rcases dot_cases s with h1 | ⟨i, hi, hs⟩
 ·exact absurd e (Lib.indexByte_none h1 k)
 ·obtain ⟨p1, p2⟩ := Lib.indexByte_some hi
  by_cases hik : i < k
  ·exact absurd (by rw [btN_of (x := 46) p1]; rfl) (h i hik)
  ·by_cases hki : k < i
   ·exact absurd e (p2 k hki)
   ·rw [hi]; omega
theorem dot_none {s : ByteArray} (h : ∀ j, j < s.size → ¬ btN s j = 46) : dotI s = -1 := by
 rcases dot_cases s with h1 | ⟨i, hi, hs⟩
 ·exact h1
 ·exact absurd (by rw [btN_of (x := 46) (Lib.indexByte_some hi).1]; rfl) (h i hs)
theorem indexByteString_any (s : ByteArray) (w : World) :
  Calls Tryz.prog 144 #[.string s, .int .u8 46] w fun e w' => e = .returned (.int .i64 (dotI s)) ∧ w = w' := by
 go_enter Tryz.func144, Tryz.ntmps144
 go_wp2
 rw [run_callFunc_extern Tryz.func174 (by kernel_rfl) (by kernel_rfl) (by kernel_rfl) (e := Extern.BytealgIndexByte.indexByte) (by kernel_rfl), Lib.run_indexByteString]
 simp only [Result.andThen]
 rw [Oper.upon_value]
 go_wp2
 go_ret
 exact ⟨rfl, rfl⟩
set_option maxRecDepth 100000 in
theorem index_any (s : ByteArray) (w : World) :
  Calls Tryz.prog 182 #[.string s, .string ⟨#[46]⟩] w fun e w' => e = .returned (.int .i64 (dotI s)) ∧ w = w' := by
 cases he : eqS ⟨#[46]⟩ s with
 | true =>
  obtain rfl := eqS_iff.1 he
  rw [show dotI ⟨#[46]⟩ = 0 by decide +kernel]
  clear he
  go_enter Tryz.func182, Tryz.ntmps182
  go_wp2_with (go_at_call 144; refine (indexByteString_any _ _).mono ?_; rintro e w' ⟨rfl, rfl⟩)
  go_ret
  exact ⟨rfl, rfl⟩
 | false =>
  have he2 : ([46] == s.toList) = false := by
   unfold eqS at he
   rw [toList_bts (⟨#[46]⟩ : ByteArray)] at he
   exact he
  clear he
  go_enter Tryz.func182, Tryz.ntmps182
  go_wp2_with (go_at_call 144; refine (indexByteString_any _ _).mono ?_; rintro e w' ⟨rfl, rfl⟩)
  go_ret
  exact ⟨rfl, rfl⟩
def IsCut (a b : ByteArray) (f : Bool) (w : World) (e : Ending) (w' : World) : Prop := e = .returned (.tuple #[.string a, .string b, .bool f]) ∧ Below w.heap.size w w'
theorem litecut_no (s : ByteArray) (h : dotI s = -1) (w : World) : Calls Tryz.prog 159 #[.string s, .string ⟨#[46]⟩] w (IsCut s ⟨#[]⟩ false w) := by
 have c := fun W => index_any s W
 rw [h] at c
 clear h
 go_enter Tryz.func159, Tryz.ntmps159
 go_wp2_with (go_at_call 182; refine (c _).mono ?_; rintro e w' ⟨rfl, rfl⟩)
 go_ret3
 exact ⟨rfl, Below.refl _ _⟩
theorem litecut_at (s : ByteArray) (i : Nat) (h : dotI s = i) (hi : i < s.size) (hs : s.size ≤ 9223372036854775800) (w : World) :
  Calls Tryz.prog 159 #[.string s, .string ⟨#[46]⟩] w (IsCut (s.extract 0 i) (s.extract (i + 1) s.size) true w) := by
 have c := fun W => index_any s W
 rw [h] at c
 have s1 := fun W => slice_str_to s i (by omega) W
 have s2 := fun W => slice_str_from s (i + 1) (by omega) W
 rw [show ((i + 1 : Nat) : Int) = (i : Int) + 1 by omega] at s2
 generalize s.extract 0 i = t1 at *
 generalize s.extract (i + 1) s.size = t2 at *
 clear h
 go_enter Tryz.func159, Tryz.ntmps159
 go_wp2_with (go_at_call 182; refine (c _).mono ?_; rintro e w' ⟨rfl, rfl⟩)
 go_quiet (fail)
 go_wp2_with fail
 go_ret3
 exact ⟨rfl, below_drewN (Below.refl _ _) _⟩
theorem cut_no (s : ByteArray) (h : dotI s = -1) (w : World) : Calls Tryz.prog 125 #[.string s, .string ⟨#[46]⟩] w (IsCut s ⟨#[]⟩ false w) := by
 go_enter Tryz.func125, Tryz.ntmps125
 go_wp2_with (go_at_call 159; refine (litecut_no s h _).mono ?_; rintro e w' ⟨rfl, hb⟩)
 go_ret3
 exact ⟨rfl, hb⟩
theorem cut_at (s : ByteArray) (i : Nat) (h : dotI s = i) (hi : i < s.size) (hs : s.size ≤ 9223372036854775800) (w : World) :
  Calls Tryz.prog 125 #[.string s, .string ⟨#[46]⟩] w (IsCut (s.extract 0 i) (s.extract (i + 1) s.size) true w) := by
 have c := fun W => litecut_at s i h hi hs W
 generalize s.extract 0 i = t1 at *
 generalize s.extract (i + 1) s.size = t2 at *
 go_enter Tryz.func125, Tryz.ntmps125
 go_wp2_with (go_at_call 159; refine (c _).mono ?_; rintro e w' ⟨rfl, hb⟩)
 go_ret3
 exact ⟨rfl, hb⟩
theorem areNames_any (a : Option Addr) (len cap : Nat) (ss : List ByteArray) (w : World) (hs : IsStrs w a len ss) (hl : len ≤ 9223372036854775807) :
  Calls Tryz.prog 126 #[.slice a len cap] w fun e w' => e = .returned (.bool (ss.all nameB)) ∧ Below w.heap.size w w' := by
 have NO := Lib.hid (fun i s (h : ss[i]? = some s) (hn : nameB s = false) => show ss.all nameB = false by
  rw [List.all_eq_false]
  exact ⟨s, List.mem_of_getElem? h, by simp [hn]⟩)
 have YE := Lib.hid (fun (h : ∀ i s, ss[i]? = some s → nameB s = true) => show ss.all nameB = true by
  rw [List.all_eq_true]
  intro s hs
  obtain ⟨i, hi⟩ := List.mem_iff_getElem?.1 hs
  exact h i s hi)
 have HS := Lib.hid hs
 generalize ss.all nameB = E at *
 clear hs
 go_enter Tryz.func126, Tryz.ntmps126
 go_wp2_with fail
 go_loopw [7] (fun iv wr => ∃ k : Nat, k ≤ len ∧ iv = .int .i64 k ∧ Hid (∀ i s, i < k → ss[i]? = some s → nameB s = true) ∧ Below w.heap.size w wr) (fun i _ => len - (intOf i).toNat)
 case atStart => exact ⟨0, Nat.zero_le _, rfl, fun i s hi => absurd hi (by omega), Below.refl _ _⟩
 case round =>
  obtain ⟨k, hk, rfl, HI, hbel⟩ := hrel
  have hsz := hbel.size
  by_cases hlt : k < len
  ·obtain ⟨s, b, off, hx, rfl, hbl, hc0⟩ := (HS.out.below hbel (Nat.le_refl _)).at hlt
   have HX := Lib.hid hx
   clear hx
   have c := fun W => isName_any s W
   cases hn : nameB s with
   | true =>
    have HI2 : Hid (∀ i s, i < k + 1 → ss[i]? = some s → nameB s = true) := fun i t hi ht => by
     by_cases e : i = k
     ·subst e
      have := HX.out
      rw [ht] at this
      cases this
      exact hn
     ·exact HI.out i t (by omega) ht
    rw [hn] at c
    clear hn HI NO YE
    go_wp2_with (go_at_call 131; refine (c _).mono ?_; rintro e w1 ⟨rfl, hb⟩)
    go_roundw
    case rel => exact ⟨k + 1, by omega, by go_num, HI2, hbel.trans (hb.mono hsz)⟩
    case measure => simp [intOf]; omega
   | false =>
    obtain rfl := NO.out k s HX.out hn
    rw [hn] at c
    clear hn HI NO YE
    go_wp2_with (go_at_call 131; refine (c _).mono ?_; rintro e w1 ⟨rfl, hb⟩)
    go_ret
    exact ⟨rfl, hbel.trans (hb.mono hsz)⟩
  ·obtain rfl := YE.out fun i s hi => HI.out i s (by have := (List.getElem?_eq_some_iff.1 hi).1; have := HS.out.1; omega) hi
   clear NO YE HI
   go_wp2_with fail
   go_ret
   exact ⟨rfl, hbel⟩
theorem new_strs1 (w : World) (s : ByteArray) : IsStrs (w.alloc (.cells #[.string s] 9)) (some ⟨w.heap.size, 0, none⟩) 1 [s] := by
 refine ⟨rfl, .inr ⟨w.heap.size, 0, rfl, by simp, fun i t ht => ?_⟩⟩
 cases i with
 | zero => simp at ht; subst ht; exact cell_of_row _ _ 0 _ _ _ (heap_alloc_new w _)
 | succ i => simp at ht
theorem new_strs2 (w : World) (s u : ByteArray) : IsStrs (w.alloc (.cells #[.string s, .string u] 9)) (some ⟨w.heap.size, 0, none⟩) 2 [s, u] := by
 refine ⟨rfl, .inr ⟨w.heap.size, 0, rfl, by simp, fun i t ht => ?_⟩⟩
 match i, ht with
 | 0, ht => simp at ht; subst ht; exact cell_of_row _ _ 0 _ _ _ (heap_alloc_new w _)
 | 1, ht => simp at ht; subst ht; exact cell_of_row _ _ 1 _ _ _ (heap_alloc_new w _)
 | i + 2, ht => simp at ht
theorem isQualified_any (s : ByteArray) (hs : s.size ≤ 9223372036854775800) (w : World) : Calls Tryz.prog 86 #[.string s] w fun e w' => e = .returned (.bool (qualB s)) ∧ Below w.heap.size w w' := by
 rcases dot_cases s with h | ⟨i, h, hi⟩
 ·rw [qualB_no h]
  have c := fun W => cut_no s h W
  clear h
  go_enter Tryz.func86, Tryz.ntmps86
  go_wp2_with (go_at_call 125; refine (c _).mono ?_; rintro e w1 ⟨rfl, hb⟩)
  refine (areNames_any _ 1 1 [s] _ (new_strs1 _ s) (by omega)).mono ?_
  rintro e w2 ⟨rfl, hb2⟩
  go_wp2_with fail
  go_ret
  refine ⟨ret_bool (by simp), (hb.alloc hb.size _).trans (hb2.mono (by have := hb.size; simp; omega))⟩
 ·rw [qualB_at h]
  have c := fun W => cut_at s i h hi hs W
  generalize s.extract 0 i = t1 at *
  generalize s.extract (i + 1) s.size = t2 at *
  clear h hi
  go_enter Tryz.func86, Tryz.ntmps86
  go_wp2_with (go_at_call 125; refine (c _).mono ?_; rintro e w1 ⟨rfl, hb⟩)
  refine (areNames_any _ 2 2 [t1, t2] _ (new_strs2 _ t1 t2) (by omega)).mono ?_
  rintro e w2 ⟨rfl, hb2⟩
  go_wp2_with fail
  go_ret
  refine ⟨ret_bool (by simp), (hb.alloc hb.size _).trans (hb2.mono (by have := hb.size; simp; omega))⟩
theorem rIsQualified_any (s : ByteArray) (hs : s.size ≤ 9223372036854775800) (w : World) : Calls Tryz.prog 98 #[.string s] w fun e w' => e = .returned (.bool (qualB s)) ∧ w = w' := by
 have IX := Lib.hid (fun i (hi : i < s.size) W => index_str s i hi W)
 have QA := Lib.hid (fun (i : Nat) (h : dotI s = i) => qualB_at h)
 have QN := Lib.hid (fun (h : dotI s = -1) => qualB_no h)
 generalize qualB s = E at *
 go_enter Tryz.func98, Tryz.ntmps98
 go_wp2_with fail
 go_loop [3] (fun i => ∃ k : Nat, k ≤ s.size ∧ i = .int .i64 k ∧ Hid (∀ j, j < k → ¬ btN s j = 46)) (fun i => s.size - (intOf i).toNat)
 case atStart => exact ⟨0, by omega, rfl, fun j hj => absurd hj (by omega)⟩
 case round =>
  obtain ⟨k, hk, rfl, HI⟩ := hrel
  by_cases hlt : k < s.size
  ·have hi := IX.out k hlt
   by_cases hd : btN s k = 46
   ·rw [hd] at hi
    have h := dot_first HI.out hlt hd
    have hE := QA.out k h
    clear QA QN
    have s1 := fun W => slice_str_to s k (by omega) W
    have s2 := fun W => slice_str_from s (k + 1) (by omega) W
    rw [show ((k + 1 : Nat) : Int) = (k : Int) + 1 by omega] at s2
    generalize s.extract 0 k = t1 at *
    generalize s.extract (k + 1) s.size = t2 at *
    have c1 := fun W => rIsName_any t1 W
    have c2 := fun W => rIsName_any t2 W
    generalize nameB t1 = b1 at *
    generalize nameB t2 = b2 at *
    clear hd h HI IX
    subst hE
    cases b1 <;> cases b2
    all_goals
     go_wp2_with (first | (go_at_call_of 110 (Value.string t1); refine (c1 _).mono ?_; rintro e w' ⟨rfl, rfl⟩) | (go_at_call_of 110 (Value.string t2); refine (c2 _).mono ?_; rintro e w' ⟨rfl, rfl⟩))
     go_ret
     exact ⟨rfl, rfl⟩
   ·have HI2 : Hid (∀ j, j < k + 1 → ¬ btN s j = 46) := fun j hj => by
     by_cases e : j = k
     ·subst e; exact hd
     ·exact HI.out j (by omega)
    have hd2 : ¬ (btN s k : Int) = 46 := by omega
    generalize btN s k = x at hi hd2
    clear hd HI IX
    go_wp2_with fail
    go_round
    case rel => exact ⟨k + 1, by omega, by go_num, HI2⟩
    case measure => simp [intOf]; omega
  ·obtain rfl := QN.out (dot_none fun j hj => HI.out j (by omega))
   have c1 := fun W => rIsName_any s W
   clear HI IX
   go_wp2_with (go_at_call 110; refine (c1 _).mono ?_; rintro e w' ⟨rfl, rfl⟩)
   go_ret
   exact ⟨rfl, rfl⟩
end Go.Proofs.YtmdpjahhhfajaaaGreatDoor
namespace Go.Proofs.YtmdpjahhhfajaaaGreatDoor
open Go.Shelf
def lays155_ren : Go.Shelf.Ren := ⟨fun | 155 => 148 | 154 => 177 | 138 => 198 | 165 => 141 | 143 => 199 | 166 => 142 | 197 => 200 | 169 => 143 | 195 => 218 | 218 => 219 | 240 => 172 | 241 => 173 | 219 => 182 | 260 => 220 | 276 => 191 | 277 => 192 | 217 => 144 | 225 => 204 | 224 => 205 | 267 => 206 | 266 => 174 | 314 => 223 | n => n, fun | 9 => 9 | 3 => 3 | 4 => 4 | 72 => 163 | 0 => 0 | 76 => 167 | 105 => 207 | 21 => 21 | 5 => 5 | 70 => 161 | 20 => 20 | 37 => 127 | 75 => 166 | 127 => 186 | 164 => 198 | 46 => 32 | 119 => 228 | 139 => 231 | 138 => 230 | 146 => 221 | 51 => 211 | 80 => 121 | n => n, fun | 1 => 2 | 3 => 7 | 4 => 8 | n => n⟩
theorem lays155 : Lays.n155 Tryz.prog lays155_ren := {
 mixed := by kernel_rfl,
 f138 := Tryz.func198.trans (congrArg some (by kernel_rfl)),
 f143 := Tryz.func199.trans (congrArg some (by kernel_rfl)),
 f154 := Tryz.func177.trans (congrArg some (by kernel_rfl)),
 f155 := Tryz.func148.trans (congrArg some (by kernel_rfl)),
 f165 := Tryz.func141.trans (congrArg some (by kernel_rfl)),
 f166 := Tryz.func142.trans (congrArg some (by kernel_rfl)),
 f169 := Tryz.func143.trans (congrArg some (by kernel_rfl)),
 f195 := Tryz.func218.trans (congrArg some (by kernel_rfl)),
 f197 := Tryz.func200.trans (congrArg some (by kernel_rfl)),
 f217 := Tryz.func144.trans (congrArg some (by kernel_rfl)),
 f218 := Tryz.func219.trans (congrArg some (by kernel_rfl)),
 f219 := Tryz.func182.trans (congrArg some (by kernel_rfl)),
 f224 := Tryz.func205.trans (congrArg some (by kernel_rfl)),
 f225 := Tryz.func204.trans (congrArg some (by kernel_rfl)),
 f240 := Tryz.func172.trans (congrArg some (by kernel_rfl)),
 f241 := Tryz.func173.trans (congrArg some (by kernel_rfl)),
 f260 := Tryz.func220.trans (congrArg some (by kernel_rfl)),
 f266 := Tryz.func174.trans (congrArg some (by kernel_rfl)),
 f267 := Tryz.func206.trans (congrArg some (by kernel_rfl)),
 f276 := Tryz.func191.trans (congrArg some (by kernel_rfl)),
 f277 := Tryz.func192.trans (congrArg some (by kernel_rfl)),
 f314 := Tryz.func223.trans (congrArg some (by kernel_rfl)),
 t0 := Tryz.underlying0,
 a0 := Tryz.isAgg0,
 z0 := Tryz.sizeOf0,
 v0 := Tryz.zeroValue0,
 t3 := Tryz.underlying3,
 a3 := Tryz.isAgg3,
 z3 := Tryz.sizeOf3,
 v3 := Tryz.zeroValue3,
 t4 := Tryz.underlying4,
 a4 := Tryz.isAgg4,
 z4 := Tryz.sizeOf4,
 v4 := Tryz.zeroValue4,
 t5 := Tryz.underlying5,
 a5 := Tryz.isAgg5,
 z5 := Tryz.sizeOf5,
 v5 := Tryz.zeroValue5,
 t9 := Tryz.underlying9,
 a9 := Tryz.isAgg9,
 z9 := Tryz.sizeOf9,
 v9 := Tryz.zeroValue9,
 t20 := Tryz.underlying20,
 a20 := Tryz.isAgg20,
 z20 := Tryz.sizeOf20,
 v20 := Tryz.zeroValue20,
 t21 := Tryz.underlying21,
 a21 := Tryz.isAgg21,
 z21 := Tryz.sizeOf21,
 v21 := Tryz.zeroValue21,
 t37 := Tryz.underlying127,
 a37 := Tryz.isAgg127,
 z37 := Tryz.sizeOf127,
 v37 := Tryz.zeroValue127,
 t46 := Tryz.underlying32,
 a46 := Tryz.isAgg32,
 z46 := Tryz.sizeOf32,
 v46 := Tryz.zeroValue32,
 t51 := Tryz.underlying211,
 a51 := Tryz.isAgg211,
 z51 := Tryz.sizeOf211,
 v51 := Tryz.zeroValue211,
 t70 := Tryz.underlying161,
 a70 := Tryz.isAgg161,
 z70 := Tryz.sizeOf161,
 v70 := Tryz.zeroValue161,
 t72 := Tryz.underlying163,
 a72 := Tryz.isAgg163,
 z72 := Tryz.sizeOf163,
 v72 := Tryz.zeroValue163,
 t75 := Tryz.underlying166,
 a75 := Tryz.isAgg166,
 z75 := Tryz.sizeOf166,
 v75 := Tryz.zeroValue166,
 t76 := Tryz.underlying167,
 a76 := Tryz.isAgg167,
 z76 := Tryz.sizeOf167,
 v76 := Tryz.zeroValue167,
 t105 := Tryz.underlying207,
 a105 := Tryz.isAgg207,
 z105 := Tryz.sizeOf207,
 v105 := Tryz.zeroValue207,
 t119 := Tryz.underlying228,
 a119 := Tryz.isAgg228,
 z119 := Tryz.sizeOf228,
 t127 := Tryz.underlying186,
 a127 := Tryz.isAgg186,
 z127 := Tryz.sizeOf186,
 v127 := Tryz.zeroValue186,
 t138 := Tryz.underlying230,
 a138 := Tryz.isAgg230,
 z138 := Tryz.sizeOf230,
 v138 := Tryz.zeroValue230,
 t139 := Tryz.underlying231,
 a139 := Tryz.isAgg231,
 z139 := Tryz.sizeOf231,
 v139 := Tryz.zeroValue231,
 t146 := Tryz.underlying221,
 a146 := Tryz.isAgg221,
 z146 := Tryz.sizeOf221,
 v146 := Tryz.zeroValue221,
 t164 := Tryz.underlying198,
 a164 := Tryz.isAgg198,
 z164 := Tryz.sizeOf198,
 v164 := Tryz.zeroValue198,
 g1 := by kernel_rfl,
 g3 := by kernel_rfl,
 g4 := by kernel_rfl }
def lays156_ren : Go.Shelf.Ren := ⟨fun | 156 => 108 | 165 => 141 | 166 => 142 | 169 => 143 | 240 => 172 | 241 => 173 | 276 => 191 | 277 => 192 | n => n, fun | 31 => 46 | 9 => 9 | 3 => 3 | 4 => 4 | 0 => 0 | 20 => 20 | 72 => 163 | 76 => 167 | 70 => 161 | 37 => 127 | 75 => 166 | 127 => 186 | 164 => 198 | 5 => 5 | 80 => 121 | n => n, fun n => n⟩
theorem lays156 : Lays.n156 Tryz.prog lays156_ren := {
 mixed := by kernel_rfl,
 f156 := Tryz.func108.trans (congrArg some (by kernel_rfl)),
 f165 := Tryz.func141.trans (congrArg some (by kernel_rfl)),
 f166 := Tryz.func142.trans (congrArg some (by kernel_rfl)),
 f169 := Tryz.func143.trans (congrArg some (by kernel_rfl)),
 f240 := Tryz.func172.trans (congrArg some (by kernel_rfl)),
 f241 := Tryz.func173.trans (congrArg some (by kernel_rfl)),
 f276 := Tryz.func191.trans (congrArg some (by kernel_rfl)),
 f277 := Tryz.func192.trans (congrArg some (by kernel_rfl)),
 t0 := Tryz.underlying0,
 a0 := Tryz.isAgg0,
 z0 := Tryz.sizeOf0,
 v0 := Tryz.zeroValue0,
 t3 := Tryz.underlying3,
 a3 := Tryz.isAgg3,
 z3 := Tryz.sizeOf3,
 v3 := Tryz.zeroValue3,
 t4 := Tryz.underlying4,
 a4 := Tryz.isAgg4,
 z4 := Tryz.sizeOf4,
 v4 := Tryz.zeroValue4,
 t9 := Tryz.underlying9,
 a9 := Tryz.isAgg9,
 z9 := Tryz.sizeOf9,
 v9 := Tryz.zeroValue9,
 t20 := Tryz.underlying20,
 a20 := Tryz.isAgg20,
 z20 := Tryz.sizeOf20,
 v20 := Tryz.zeroValue20,
 t31 := Tryz.underlying46,
 a31 := Tryz.isAgg46,
 z31 := Tryz.sizeOf46,
 v31 := Tryz.zeroValue46,
 t37 := Tryz.underlying127,
 a37 := Tryz.isAgg127,
 z37 := Tryz.sizeOf127,
 v37 := Tryz.zeroValue127,
 t70 := Tryz.underlying161,
 a70 := Tryz.isAgg161,
 z70 := Tryz.sizeOf161,
 v70 := Tryz.zeroValue161,
 t72 := Tryz.underlying163,
 a72 := Tryz.isAgg163,
 z72 := Tryz.sizeOf163,
 v72 := Tryz.zeroValue163,
 t75 := Tryz.underlying166,
 a75 := Tryz.isAgg166,
 z75 := Tryz.sizeOf166,
 v75 := Tryz.zeroValue166,
 t76 := Tryz.underlying167,
 a76 := Tryz.isAgg167,
 z76 := Tryz.sizeOf167,
 v76 := Tryz.zeroValue167,
 t127 := Tryz.underlying186,
 a127 := Tryz.isAgg186,
 z127 := Tryz.sizeOf186,
 v127 := Tryz.zeroValue186,
 t164 := Tryz.underlying198,
 a164 := Tryz.isAgg198,
 z164 := Tryz.sizeOf198,
 v164 := Tryz.zeroValue198 }
def laysM171_ren : Go.Shelf.Ren := ⟨fun | 171 => 105 | 243 => 139 | 246 => 170 | 283 => 186 | 284 => 187 | 285 => 188 | 286 => 189 | 129 => 209 | 317 => 208 | 318 => 210 | 319 => 211 | 320 => 212 | 337 => 225 | 338 => 226 | n => n, fun | 3 => 3 | 9 => 9 | 2 => 2 | 4 => 4 | 171 => 192 | 0 => 0 | 53 => 193 | 37 => 127 | 5 => 5 | 173 => 196 | 212 => 210 | 51 => 211 | 20 => 20 | 213 => 212 | 46 => 32 | 232 => 232 | 233 => 233 | n => n, fun | 17 => 3 | 18 => 9 | 19 => 10 | n => n⟩
theorem laysM171 : LaysM.n171 Tryz.prog laysM171_ren := {
 mixed := by kernel_rfl,
 f129 := Tryz.func209.trans (congrArg some (by kernel_rfl)),
 f171 := Tryz.func105.trans (congrArg some (by kernel_rfl)),
 f243 := Tryz.func139.trans (congrArg some (by kernel_rfl)),
 f246 := Tryz.func170.trans (congrArg some (by kernel_rfl)),
 f283 := Tryz.func186.trans (congrArg some (by kernel_rfl)),
 f284 := Tryz.func187.trans (congrArg some (by kernel_rfl)),
 f285 := Tryz.func188.trans (congrArg some (by kernel_rfl)),
 f286 := Tryz.func189.trans (congrArg some (by kernel_rfl)),
 f317 := Tryz.func208.trans (congrArg some (by kernel_rfl)),
 f318 := Tryz.func210.trans (congrArg some (by kernel_rfl)),
 f319 := Tryz.func211.trans (congrArg some (by kernel_rfl)),
 f320 := Tryz.func212.trans (congrArg some (by kernel_rfl)),
 f337 := Tryz.func225.trans (congrArg some (by kernel_rfl)),
 f338 := Tryz.func226.trans (congrArg some (by kernel_rfl)),
 t0 := Tryz.underlying0,
 a0 := Tryz.isAgg0,
 z0 := Tryz.sizeOf0,
 v0 := Tryz.zeroValue0,
 t2 := Tryz.underlying2,
 a2 := Tryz.isAgg2,
 z2 := Tryz.sizeOf2,
 v2 := Tryz.zeroValue2,
 t3 := Tryz.underlying3,
 a3 := Tryz.isAgg3,
 z3 := Tryz.sizeOf3,
 v3 := Tryz.zeroValue3,
 t4 := Tryz.underlying4,
 a4 := Tryz.isAgg4,
 z4 := Tryz.sizeOf4,
 v4 := Tryz.zeroValue4,
 t5 := Tryz.underlying5,
 a5 := Tryz.isAgg5,
 z5 := Tryz.sizeOf5,
 v5 := Tryz.zeroValue5,
 t9 := Tryz.underlying9,
 a9 := Tryz.isAgg9,
 z9 := Tryz.sizeOf9,
 v9 := Tryz.zeroValue9,
 t20 := Tryz.underlying20,
 a20 := Tryz.isAgg20,
 z20 := Tryz.sizeOf20,
 v20 := Tryz.zeroValue20,
 t37 := Tryz.underlying127,
 a37 := Tryz.isAgg127,
 z37 := Tryz.sizeOf127,
 v37 := Tryz.zeroValue127,
 t46 := Tryz.underlying32,
 a46 := Tryz.isAgg32,
 z46 := Tryz.sizeOf32,
 v46 := Tryz.zeroValue32,
 t51 := Tryz.underlying211,
 a51 := Tryz.isAgg211,
 z51 := Tryz.sizeOf211,
 v51 := Tryz.zeroValue211,
 t53 := Tryz.underlying193,
 a53 := Tryz.isAgg193,
 z53 := Tryz.sizeOf193,
 v53 := Tryz.zeroValue193,
 t171 := Tryz.underlying192,
 a171 := Tryz.isAgg192,
 z171 := Tryz.sizeOf192,
 v171 := Tryz.zeroValue192,
 t173 := Tryz.underlying196,
 a173 := Tryz.isAgg196,
 z173 := Tryz.sizeOf196,
 v173 := Tryz.zeroValue196,
 t212 := Tryz.underlying210,
 a212 := Tryz.isAgg210,
 z212 := Tryz.sizeOf210,
 v212 := Tryz.zeroValue210,
 t213 := Tryz.underlying212,
 a213 := Tryz.isAgg212,
 z213 := Tryz.sizeOf212,
 t232 := Tryz.underlying232,
 a232 := Tryz.isAgg232,
 z232 := Tryz.sizeOf232,
 v232 := Tryz.zeroValue232,
 t233 := Tryz.underlying233,
 a233 := Tryz.isAgg233,
 z233 := Tryz.sizeOf233,
 v233 := Tryz.zeroValue233,
 g17 := by kernel_rfl,
 g18 := by kernel_rfl,
 g19 := by kernel_rfl,
 i0 := by kernel_rfl,
 i2 := by kernel_rfl,
 i3 := by kernel_rfl,
 i4 := by kernel_rfl,
 i5 := by kernel_rfl,
 i9 := by kernel_rfl,
 i20 := by kernel_rfl,
 i37 := by kernel_rfl,
 i46 := by kernel_rfl,
 i51 := by kernel_rfl,
 i53 := by kernel_rfl,
 i171 := by kernel_rfl,
 i173 := by kernel_rfl,
 i212 := by kernel_rfl,
 i232 := by kernel_rfl,
 i233 := by kernel_rfl,
 m17 := by kernel_rfl,
 m18 := by kernel_rfl,
 m19 := by kernel_rfl }
def laysC172_ren : Go.Shelf.Ren := ⟨fun | 172 => 146 | 244 => 175 | 245 => 176 | 247 => 193 | 279 => 194 | 280 => 195 | 281 => 196 | 282 => 197 | 287 => 215 | 316 => 216 | 171 => 105 | 205 => 217 | 321 => 227 | 322 => 228 | 243 => 139 | 246 => 170 | 283 => 186 | 284 => 187 | 285 => 188 | 286 => 189 | 129 => 209 | 317 => 208 | 318 => 210 | 319 => 211 | 320 => 212 | 337 => 225 | 338 => 226 | n => n, fun | 9 => 9 | 3 => 3 | 75 => 166 | 76 => 167 | 4 => 4 | 5 => 5 | 167 => 201 | 37 => 127 | 0 => 0 | 85 => 202 | 2 => 2 | 168 => 204 | 53 => 193 | 175 => 215 | 46 => 32 | 210 => 218 | 127 => 186 | 145 => 227 | 143 => 225 | 21 => 21 | 171 => 192 | 173 => 196 | 212 => 210 | 51 => 211 | 20 => 20 | 213 => 212 | 232 => 232 | 233 => 233 | 80 => 121 | n => n, fun | 15 => 4 | 16 => 5 | 17 => 3 | 18 => 9 | 19 => 10 | n => n⟩
theorem laysC172 : LaysC.n172 Tryz.prog laysC172_ren := {
 mixed := by kernel_rfl,
 f129 := Tryz.func209.trans (congrArg some (by kernel_rfl)),
 f171 := Tryz.func105.trans (congrArg some (by kernel_rfl)),
 f172 := Tryz.func146.trans (congrArg some (by kernel_rfl)),
 f205 := Tryz.func217.trans (congrArg some (by kernel_rfl)),
 f243 := Tryz.func139.trans (congrArg some (by kernel_rfl)),
 f244 := Tryz.func175.trans (congrArg some (by kernel_rfl)),
 f245 := Tryz.func176.trans (congrArg some (by kernel_rfl)),
 f246 := Tryz.func170.trans (congrArg some (by kernel_rfl)),
 f247 := Tryz.func193.trans (congrArg some (by kernel_rfl)),
 f279 := Tryz.func194.trans (congrArg some (by kernel_rfl)),
 f280 := Tryz.func195.trans (congrArg some (by kernel_rfl)),
 f281 := Tryz.func196.trans (congrArg some (by kernel_rfl)),
 f282 := Tryz.func197.trans (congrArg some (by kernel_rfl)),
 f283 := Tryz.func186.trans (congrArg some (by kernel_rfl)),
 f284 := Tryz.func187.trans (congrArg some (by kernel_rfl)),
 f285 := Tryz.func188.trans (congrArg some (by kernel_rfl)),
 f286 := Tryz.func189.trans (congrArg some (by kernel_rfl)),
 f287 := Tryz.func215.trans (congrArg some (by kernel_rfl)),
 f316 := Tryz.func216.trans (congrArg some (by kernel_rfl)),
 f317 := Tryz.func208.trans (congrArg some (by kernel_rfl)),
 f318 := Tryz.func210.trans (congrArg some (by kernel_rfl)),
 f319 := Tryz.func211.trans (congrArg some (by kernel_rfl)),
 f320 := Tryz.func212.trans (congrArg some (by kernel_rfl)),
 f321 := Tryz.func227.trans (congrArg some (by kernel_rfl)),
 f322 := Tryz.func228.trans (congrArg some (by kernel_rfl)),
 f337 := Tryz.func225.trans (congrArg some (by kernel_rfl)),
 f338 := Tryz.func226.trans (congrArg some (by kernel_rfl)),
 t0 := Tryz.underlying0,
 a0 := Tryz.isAgg0,
 z0 := Tryz.sizeOf0,
 v0 := Tryz.zeroValue0,
 t2 := Tryz.underlying2,
 a2 := Tryz.isAgg2,
 z2 := Tryz.sizeOf2,
 v2 := Tryz.zeroValue2,
 t3 := Tryz.underlying3,
 a3 := Tryz.isAgg3,
 z3 := Tryz.sizeOf3,
 v3 := Tryz.zeroValue3,
 t4 := Tryz.underlying4,
 a4 := Tryz.isAgg4,
 z4 := Tryz.sizeOf4,
 v4 := Tryz.zeroValue4,
 t5 := Tryz.underlying5,
 a5 := Tryz.isAgg5,
 z5 := Tryz.sizeOf5,
 v5 := Tryz.zeroValue5,
 t9 := Tryz.underlying9,
 a9 := Tryz.isAgg9,
 z9 := Tryz.sizeOf9,
 v9 := Tryz.zeroValue9,
 t20 := Tryz.underlying20,
 a20 := Tryz.isAgg20,
 z20 := Tryz.sizeOf20,
 v20 := Tryz.zeroValue20,
 t21 := Tryz.underlying21,
 a21 := Tryz.isAgg21,
 z21 := Tryz.sizeOf21,
 v21 := Tryz.zeroValue21,
 t37 := Tryz.underlying127,
 a37 := Tryz.isAgg127,
 z37 := Tryz.sizeOf127,
 v37 := Tryz.zeroValue127,
 t46 := Tryz.underlying32,
 a46 := Tryz.isAgg32,
 z46 := Tryz.sizeOf32,
 v46 := Tryz.zeroValue32,
 t51 := Tryz.underlying211,
 a51 := Tryz.isAgg211,
 z51 := Tryz.sizeOf211,
 v51 := Tryz.zeroValue211,
 t53 := Tryz.underlying193,
 a53 := Tryz.isAgg193,
 z53 := Tryz.sizeOf193,
 v53 := Tryz.zeroValue193,
 t75 := Tryz.underlying166,
 a75 := Tryz.isAgg166,
 z75 := Tryz.sizeOf166,
 v75 := Tryz.zeroValue166,
 t76 := Tryz.underlying167,
 a76 := Tryz.isAgg167,
 z76 := Tryz.sizeOf167,
 v76 := Tryz.zeroValue167,
 t85 := Tryz.underlying202,
 a85 := Tryz.isAgg202,
 z85 := Tryz.sizeOf202,
 v85 := Tryz.zeroValue202,
 t127 := Tryz.underlying186,
 a127 := Tryz.isAgg186,
 z127 := Tryz.sizeOf186,
 v127 := Tryz.zeroValue186,
 t143 := Tryz.underlying225,
 a143 := Tryz.isAgg225,
 z143 := Tryz.sizeOf225,
 v143 := Tryz.zeroValue225,
 t145 := Tryz.underlying227,
 a145 := Tryz.isAgg227,
 z145 := Tryz.sizeOf227,
 v145 := Tryz.zeroValue227,
 t167 := Tryz.underlying201,
 a167 := Tryz.isAgg201,
 z167 := Tryz.sizeOf201,
 v167 := Tryz.zeroValue201,
 t168 := Tryz.underlying204,
 a168 := Tryz.isAgg204,
 z168 := Tryz.sizeOf204,
 v168 := Tryz.zeroValue204,
 t171 := Tryz.underlying192,
 a171 := Tryz.isAgg192,
 z171 := Tryz.sizeOf192,
 v171 := Tryz.zeroValue192,
 t173 := Tryz.underlying196,
 a173 := Tryz.isAgg196,
 z173 := Tryz.sizeOf196,
 v173 := Tryz.zeroValue196,
 t175 := Tryz.underlying215,
 a175 := Tryz.isAgg215,
 z175 := Tryz.sizeOf215,
 v175 := Tryz.zeroValue215,
 t210 := Tryz.underlying218,
 a210 := Tryz.isAgg218,
 z210 := Tryz.sizeOf218,
 v210 := Tryz.zeroValue218,
 t212 := Tryz.underlying210,
 a212 := Tryz.isAgg210,
 z212 := Tryz.sizeOf210,
 v212 := Tryz.zeroValue210,
 t213 := Tryz.underlying212,
 a213 := Tryz.isAgg212,
 z213 := Tryz.sizeOf212,
 t232 := Tryz.underlying232,
 a232 := Tryz.isAgg232,
 z232 := Tryz.sizeOf232,
 v232 := Tryz.zeroValue232,
 t233 := Tryz.underlying233,
 a233 := Tryz.isAgg233,
 z233 := Tryz.sizeOf233,
 v233 := Tryz.zeroValue233,
 g15 := by kernel_rfl,
 g16 := by kernel_rfl,
 g17 := by kernel_rfl,
 g18 := by kernel_rfl,
 g19 := by kernel_rfl,
 t80 := Tryz.underlying121,
 a80 := Tryz.isAgg121,
 z80 := Tryz.sizeOf121,
 v80 := Tryz.zeroValue121,
 i0 := by kernel_rfl,
 i2 := by kernel_rfl,
 i3 := by kernel_rfl,
 i4 := by kernel_rfl,
 i5 := by kernel_rfl,
 i9 := by kernel_rfl,
 i20 := by kernel_rfl,
 i21 := by kernel_rfl,
 i37 := by kernel_rfl,
 i46 := by kernel_rfl,
 i51 := by kernel_rfl,
 i53 := by kernel_rfl,
 i75 := by kernel_rfl,
 i76 := by kernel_rfl,
 i80 := by kernel_rfl,
 i85 := by kernel_rfl,
 i127 := by kernel_rfl,
 i143 := by kernel_rfl,
 i145 := by kernel_rfl,
 i167 := by kernel_rfl,
 i168 := by kernel_rfl,
 i171 := by kernel_rfl,
 i173 := by kernel_rfl,
 i175 := by kernel_rfl,
 i210 := by kernel_rfl,
 i212 := by kernel_rfl,
 i232 := by kernel_rfl,
 i233 := by kernel_rfl,
 m15 := by kernel_rfl,
 m16 := by kernel_rfl,
 m17 := by kernel_rfl,
 m18 := by kernel_rfl,
 m19 := by kernel_rfl,
 c0 := by kernel_rfl,
 c2 := by kernel_rfl,
 c3 := by kernel_rfl,
 c4 := by kernel_rfl,
 c5 := by kernel_rfl,
 c9 := by kernel_rfl,
 c20 := by kernel_rfl,
 c21 := by kernel_rfl,
 c37 := by kernel_rfl,
 c46 := by kernel_rfl,
 c51 := by kernel_rfl,
 c53 := by kernel_rfl,
 c75 := by kernel_rfl,
 c76 := by kernel_rfl,
 c80 := by kernel_rfl,
 c85 := by kernel_rfl,
 c127 := by kernel_rfl,
 c143 := by kernel_rfl,
 c145 := by kernel_rfl,
 c167 := by kernel_rfl,
 c168 := by kernel_rfl,
 c171 := by kernel_rfl,
 c173 := by kernel_rfl,
 c175 := by kernel_rfl,
 c210 := by kernel_rfl,
 c212 := by kernel_rfl,
 c213 := by kernel_rfl,
 c232 := by kernel_rfl,
 c233 := by kernel_rfl }
theorem extra155 : Builder.Extra Tryz.prog lays155_ren := {
 sizeBuilder := by kernel_rfl,
 liesBuilder := by kernel_rfl,
 t5 := Tryz.underlying5,
 a5 := Tryz.isAgg5,
 z5 := Tryz.sizeOf5,
 v5 := Tryz.zeroValue5,
 infoByte := by kernel_rfl,
 cellsByte := by kernel_rfl,
 sizeByte := by kernel_rfl,
 neB5 := by decide }
theorem extra156 : Builder.Extra Tryz.prog lays156_ren := {
 sizeBuilder := by kernel_rfl,
 liesBuilder := by kernel_rfl,
 t5 := Tryz.underlying5,
 a5 := Tryz.isAgg5,
 z5 := Tryz.sizeOf5,
 v5 := Tryz.zeroValue5,
 infoByte := by kernel_rfl,
 cellsByte := by kernel_rfl,
 sizeByte := by kernel_rfl,
 neB5 := by decide }
end Go.Proofs.YtmdpjahhhfajaaaGreatDoor
