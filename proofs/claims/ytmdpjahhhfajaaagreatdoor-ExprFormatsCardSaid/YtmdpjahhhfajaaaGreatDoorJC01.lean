/-
  For every layer: a string's bytes; its index and its pieces, in a form · For every layer: equal results make equal endings; a pair of an intege · Pieces of a text, plainly: how far a kind of byte goes; blanks and com · Plain functions on integers: leap years, lengths of months, day number
-/
import Derived.Test.YtmdpjahhhfajaaaGreatDoorRows
import Derived.WalkKit
import Derived.WalkSpells
import Derived.Lib.Hide
import Derived.Laws.IdiomStrings
import Derived.Deep.QuietTactic
import Derived.OwnWalk
import Derived.Lib.Replace
import Derived.Lib.ReplaceLaws
import Derived.Laws.Entries
set_option linter.unusedVariables false
set_option maxRecDepth 100000
namespace Wh
open Go
def bts (s : ByteArray) : List UInt8 := s.data.toList
def btN (s : ByteArray) (i : Nat) : Nat := ((bts s).getD i 0).toNat
theorem bts_length (s : ByteArray) : (bts s).length = s.size := Array.length_toList
theorem bts_mk (l : List UInt8) : bts ⟨l.toArray⟩ = l := rfl
theorem btN_lt (s : ByteArray) (i : Nat) : btN s i < 256 := ((bts s).getD i 0).toNat_lt
theorem btN_of {s : ByteArray} {i : Nat} {x : UInt8} (h : (bts s)[i]? = some x) : btN s i = x.toNat := by simp [btN, List.getD, h]
theorem bts_at {s : ByteArray} {i : Nat} (h : i < s.size) : ∃ x, (bts s)[i]? = some x := ⟨_, List.getElem?_eq_getElem (by rw [bts_length]; exact h)⟩
theorem bts_extract (s : ByteArray) (a b : Nat) : bts (s.extract a b) = ((bts s).drop a).take (b - a) := by
 show (s.extract a b).data.toList = _
 rw [ByteArray.data_extract, Array.toList_extract, List.extract_eq_take_drop]
 rfl
theorem btN_extract (s : ByteArray) (a b i : Nat) (h : i < b - a) : btN (s.extract a b) i = btN s (a + i) := by
 unfold btN
 rw [bts_extract]
 simp only [List.getD]
 rw [List.getElem?_take_of_lt h, List.getElem?_drop]
theorem ba_append (a b : List UInt8) : (⟨a.toArray⟩ : ByteArray) ++ ⟨b.toArray⟩ = ⟨(a ++ b).toArray⟩ := by
 apply ByteArray.ext
 rw [ByteArray.data_append]
 simp
theorem size_extract {s : ByteArray} {a b : Nat} (h : a ≤ b) (hb : b ≤ s.size) : (s.extract a b).size = b - a := by
 rw [ByteArray.size_extract]
 omega
end Wh
namespace Go.Proofs.YtmdpjahhhfajaaaGreatDoor
open Go.RowKit Wh
theorem index_str (s : ByteArray) (i : Nat) (h : i < s.size) (W : World) : (Instr.index 9 (.string s) (.int .i64 i)).run Tryz.prog W = .ok (.int .u8 (btN s i)) W := by
 rw [run_index_string W 9 s .i64 i Tryz.underlying9, dif_pos (by omega)]
 have e : (s[((i : Int)).toNat]'(by omega)).toNat = btN s i := by
  rw [btN_of (x := s[((i : Int)).toNat]'(by omega))]
  show s.data.toList[i]? = _
  rw [Array.getElem?_toList]
  exact Array.getElem?_eq_getElem (show i < s.data.size from h)
 rw [e]
theorem slice_str (s : ByteArray) (a b : Nat) (h : a ≤ b) (hb : b ≤ s.size) (W : World) :
  (Instr.slice 9 (.string s) (some (.int .i64 a)) (some (.int .i64 b)) none).run Tryz.prog W = .ok (.string (s.extract a b)) W := by
 rw [run_slice_string_if W 9 s .i64 .i64 a b Tryz.underlying9, if_pos (by omega), if_pos (by omega)]
 rfl
theorem slice_str_from (s : ByteArray) (a : Nat) (h : a ≤ s.size) (W : World) :
  (Instr.slice 9 (.string s) (some (.int .i64 a)) none none).run Tryz.prog W = .ok (.string (s.extract a s.size)) W := by
 rw [run_slice_string_from_if W 9 s .i64 a Tryz.underlying9, if_pos (by omega)]
 rfl
theorem slice_str_to (s : ByteArray) (b : Nat) (hb : b ≤ s.size) (W : World) :
  (Instr.slice 9 (.string s) none (some (.int .i64 b)) none).run Tryz.prog W = .ok (.string (s.extract 0 b)) W := by
 rw [run_slice_string_to_if W 9 s .i64 b Tryz.underlying9, if_pos (by omega)]
 rfl
theorem conv_str {W : World} {b off c y : Nat} {l : List UInt8} (hy : l.length = y) (h : ∀ (j : Nat) (x : UInt8), l[j]? = some x → W.cell? ⟨b, off + j, none⟩ = some (.int .u8 x.toNat)) :
  (convert 127 9 (.slice (some ⟨b, off, none⟩) y c)).run Tryz.prog W = .ok (.string ⟨l.toArray⟩) W := by
 subst hy
 refine run_convert_bytes_back W _ _ 5 ⟨b, off, none⟩ c l Tryz.underlying127 Tryz.underlying5 Tryz.underlying9 fun j hj => ?_
 have hadd : (⟨b, off, none⟩ : Addr).add j = ⟨b, off + j, none⟩ := by unfold Addr.add; split <;> simp_all
 rw [hadd]
 exact h j _ (List.getElem?_eq_getElem hj)
end Go.Proofs.YtmdpjahhhfajaaaGreatDoor
namespace Go.Proofs.YtmdpjahhhfajaaaGreatDoor
theorem ret_bool {a b : Bool} (h : a = b) : Ending.returned (.bool a) = .returned (.bool b) := by rw [h]
theorem ret_int {k : IntKind} {a b : Int} (h : a = b) : Ending.returned (.int k a) = .returned (.int k b) := by rw [h]
theorem ret_pair {k : IntKind} {a b : Int} {x y : Bool} (h : a = b) (g : x = y) : Ending.returned (.tuple #[.int k a, .bool x]) = .returned (.tuple #[.int k b, .bool y]) := by rw [h, g]
theorem results_tmp4 {fn : Func} {t u v x : Tmp} (h : fn.results = #[.tmp t, .tmp u, .tmp v, .tmp x]) (tmps : Array Value) (P : Program) (w : World) :
  (results fn tmps).run P w = .ok (.tuple #[tmps.getD t undef, tmps.getD u undef, tmps.getD v undef, tmps.getD x undef]) w := by
 simp [results, h]
theorem quiet_eq {P : Program} {f : FuncId} {args : Array Value} {w : World} {n : Nat} {v : Value}
  (h : Calls P f args (w.drewN n) fun e w' => e = .returned v ∧ w.drewN n = w') : Calls P f args (w.drewN n) fun e w'' => e = .returned v ∧ ∃ m, w'' = w.drewN m :=
 h.mono fun _ _ ⟨he, hm⟩ => ⟨he, n, hm.symm⟩
def IsPair (z : Int) (x : Bool) (w : World) (e : Ending) (w' : World) : Prop := e = .returned (.tuple #[.int .i64 z, .bool x]) ∧ w = w'
end Go.Proofs.YtmdpjahhhfajaaaGreatDoor
namespace Wh
open Go
def lowB (c : Nat) : Bool := decide (97 ≤ c) && decide (c ≤ 122)
def numB (c : Nat) : Bool := decide (48 ≤ c) && decide (c ≤ 57)
def wordB (c : Nat) : Bool := lowB c || numB c || decide (c = 95)
def spanN (p : Nat → Bool) (s : ByteArray) : Nat := ((bts s).takeWhile fun x => p x.toNat).length
theorem takeWhile_stop {α : Type} (q : α → Bool) : ∀ (l : List α) (n : Nat), (∀ j x, j < n → l[j]? = some x → q x = true) → n ≤ l.length → (n = l.length ∨ ∃ x, l[n]? = some x ∧ q x = false) → (l.takeWhile q).length = n
 | [], n, _, h2, _ => by
  simp at h2
  subst h2
  rfl
 | x :: l, 0, _, _, h3 => by
  rcases h3 with h3 | ⟨y, hy, hq⟩
  ·simp at h3
  ·simp at hy
   subst hy
   rw [List.takeWhile_cons, hq]
   rfl
 | x :: l, n + 1, h1, h2, h3 => by
  have hx := h1 0 x (by omega) rfl
  rw [List.takeWhile_cons, hx]
  simp only [if_true, List.length_cons, Nat.add_right_cancel_iff]
  refine takeWhile_stop q l n (fun j y hj hy => h1 (j + 1) y (by omega) (by simpa using hy)) (by simpa using h2) ?_
  rcases h3 with h3 | ⟨y, hy, hq⟩
  ·left; simpa using h3
  ·right; exact ⟨y, by simpa using hy, hq⟩
theorem spanN_eq {p : Nat → Bool} {s : ByteArray} {n : Nat} (h1 : ∀ j, j < n → p (btN s j) = true) (h2 : n ≤ s.size) (h3 : n = s.size ∨ p (btN s n) = false) : spanN p s = n := by
 unfold spanN
 refine takeWhile_stop _ (bts s) n (fun j x hj hx => by rw [← btN_of hx]; exact h1 j hj) (by rw [bts_length]; exact h2) ?_
 by_cases hn : n = s.size
 ·left; rw [bts_length]; exact hn
 ·obtain ⟨x, hx⟩ := bts_at (s := s) (i := n) (by omega)
  right
  refine ⟨x, hx, ?_⟩
  rw [← btN_of hx]
  rcases h3 with h3 | h3
  ·exact absurd h3 hn
  ·exact h3
def skipG (inC : Bool) : List UInt8 → Nat
 | [] => 0
 | x :: l => if inC = true then 1 + skipG (decide (x.toNat ≠ 10)) l else if x.toNat = 32 ∨ x.toNat = 9 ∨ x.toNat = 10 then 1 + skipG false l else if x.toNat = 35 then 1 + skipG true l else 0
def skipN (s : ByteArray) (inC : Bool) (i : Nat) : Nat := i + skipG inC ((bts s).drop i)
theorem drop_at {s : ByteArray} {i : Nat} (h : i < s.size) : ∃ x, (bts s).drop i = x :: (bts s).drop (i + 1) ∧ x.toNat = btN s i := by
 obtain ⟨x, hx⟩ := bts_at h
 have hk := List.getElem?_eq_some_iff.1 hx
 exact ⟨x, by rw [List.drop_eq_getElem_cons hk.1, hk.2], (btN_of hx).symm⟩
theorem skip_end {s : ByteArray} {i : Nat} (c : Bool) (h : s.size ≤ i) : skipN s c i = i := by
 unfold skipN
 rw [List.drop_of_length_le (by rw [bts_length]; exact h)]
 rfl
theorem skip_blank {s : ByteArray} {i : Nat} (h : i < s.size) (hb : btN s i = 32 ∨ btN s i = 9 ∨ btN s i = 10) : skipN s false i = skipN s false (i + 1) := by
 obtain ⟨x, e, hx⟩ := drop_at h
 unfold skipN
 rw [e]
 simp only [skipG, hx, if_pos hb]
 simp
 omega
theorem skip_hash {s : ByteArray} {i : Nat} (h : i < s.size) (hb : btN s i = 35) : skipN s false i = skipN s true (i + 1) := by
 obtain ⟨x, e, hx⟩ := drop_at h
 unfold skipN
 rw [e]
 simp only [skipG, hx, hb]
 simp
 omega
theorem skip_stop {s : ByteArray} {i : Nat} (h : i < s.size) (h1 : ¬ btN s i = 32) (h2 : ¬ btN s i = 9) (h3 : ¬ btN s i = 10) (h4 : ¬ btN s i = 35) : skipN s false i = i := by
 obtain ⟨x, e, hx⟩ := drop_at h
 unfold skipN
 rw [e]
 simp [skipG, hx, h1, h2, h3, h4]
theorem skip_in {s : ByteArray} {i : Nat} (h : i < s.size) (hb : ¬ btN s i = 10) : skipN s true i = skipN s true (i + 1) := by
 obtain ⟨x, e, hx⟩ := drop_at h
 unfold skipN
 rw [e]
 simp [skipG, hx, hb]
 omega
theorem skip_out {s : ByteArray} {i : Nat} (h : i < s.size) (hb : btN s i = 10) : skipN s true i = skipN s false i := by
 obtain ⟨x, e, hx⟩ := drop_at h
 unfold skipN
 rw [e]
 simp [skipG, hx, hb]
end Wh
namespace Go.Proofs.YtmdpjahhhfajaaaGreatDoor
open Go.RowKit Wh
end Go.Proofs.YtmdpjahhhfajaaaGreatDoor
namespace Wh
def nameT (s : ByteArray) : Int × Int :=
 if 24 < spanN wordB s then (0, 4)
 else if spanN wordB s + 1 < s.size ∧ btN s (spanN wordB s) = 46 ∧ lowB (btN s (spanN wordB s + 1)) = true then
  (if 24 < spanN wordB (s.extract (spanN wordB s + 1) s.size) then (0, 4) else ((spanN wordB s : Int) + (1 + (spanN wordB (s.extract (spanN wordB s + 1) s.size) : Int)), 0))
 else ((spanN wordB s : Int), 0)
theorem takeWhile_le {α : Type} (q : α → Bool) : ∀ l : List α, (l.takeWhile q).length ≤ l.length
 | [] => Nat.le_refl _
 | x :: l => by
  have := takeWhile_le q l
  rw [List.takeWhile_cons]
  split
  ·simp; exact this
  ·simp
theorem spanN_le (p : Nat → Bool) (s : ByteArray) : spanN p s ≤ s.size := by
 unfold spanN
 rw [← bts_length]
 exact takeWhile_le _ _
end Wh
namespace Go.Proofs.YtmdpjahhhfajaaaGreatDoor
open Go.RowKit Wh
end Go.Proofs.YtmdpjahhhfajaaaGreatDoor
namespace Wh
def decV (s : ByteArray) : Nat → Int
 | 0 => 0
 | k + 1 => min (decV s k * 10 + ((btN s k : Int) - 48)) 1073741825
def badI (s : ByteArray) : Bool := (decide (1 < spanN numB s) && decide (btN s 0 = 48)) || (decide (spanN numB s < s.size) && (lowB (btN s (spanN numB s)) || decide (btN s (spanN numB s) = 95)))
def intT (s : ByteArray) : Int × Int × Int :=
 if badI s = true then (0, 0, 3) else if 1073741824 < decV s (spanN numB s) then (0, 0, 1) else (decV s (spanN numB s), (spanN numB s : Int), 0)
theorem numB_bd {c : Nat} (h : numB c = true) : 48 ≤ c ∧ c ≤ 57 := by
 unfold numB at h
 simpa using h
theorem decV_bd {s : ByteArray} : ∀ k, (∀ j, j < k → numB (btN s j) = true) → 0 ≤ decV s k ∧ decV s k ≤ 1073741825
 | 0, _ => by simp [decV]
 | k + 1, h => by
  have ih := decV_bd k fun j hj => h j (by omega)
  have := numB_bd (h k (by omega))
  unfold decV
  omega
end Wh
namespace Go.Proofs.YtmdpjahhhfajaaaGreatDoor
open Go.RowKit Wh
end Go.Proofs.YtmdpjahhhfajaaaGreatDoor
namespace Wh
def twoL (i : Nat) : ByteArray := [⟨#[43, 43]⟩, ⟨#[60, 61]⟩, ⟨#[62, 61]⟩, ⟨#[33, 61]⟩].getD i ⟨#[]⟩
def oneL : ByteArray := ⟨#[40, 41, 44, 59, 58, 124, 61, 43, 45, 42, 47, 37, 60, 62]⟩
def isTwo (s : ByteArray) (i : Nat) : Bool := decide (2 ≤ s.size) && ((s.extract 0 2).toList == (twoL i).toList)
def isOne (s : ByteArray) (i : Nat) : Bool := decide (1 ≤ s.size) && decide (btN s 0 = btN oneL i)
def symS (s : ByteArray) : ByteArray :=
 match (List.range 4).find? (isTwo s) with
 | some i => twoL i
 | none => if (List.range 14).any (isOne s) = true then s.extract 0 1 else ⟨#[]⟩
theorem symS_one {s : ByteArray} (h : ∀ j, j < 4 → isTwo s j = false) : symS s = if (List.range 14).any (isOne s) = true then s.extract 0 1 else ⟨#[]⟩ := by
 unfold symS
 rw [show List.range 4 = [0, 1, 2, 3] from rfl]
 simp [h 0, h 1, h 2, h 3]
end Wh
namespace Wh
open Go
theorem replaceK_eq (F : List UInt8 → List UInt8) {old new : List UInt8} (h1 : old ≠ [])
  (hno : ∀ s, Lib.index s old = -1 → F s = s)
  (hat : ∀ s (i : Nat), Lib.index s old = i → F s = s.take i ++ new ++ F (s.drop (i + old.length))) :
  ∀ (k : Nat) (s : List UInt8), Lib.count s old = k → Lib.replaceK old new k s = F s
 | 0, s, h => by
  have hm : Lib.index s old = -1 := by
   have hge := Lib.index_ge s old
   by_cases hm : Lib.index s old = -1
   ·exact hm
   ·obtain ⟨i, hi⟩ : ∃ i : Nat, Lib.index s old = i := ⟨(Lib.index s old).toNat, by omega⟩
    rw [Lib.count_hit h1 hi] at h
    omega
  rw [Lib.replaceK, hno s hm]
 | k + 1, s, h => by
  obtain ⟨i, hi⟩ := Lib.index_of_count (s := s) (old := old) (by omega)
  rw [Lib.count_hit h1 hi] at h
  rw [Lib.replaceK_hit _ _ _ _ _ hi, hat s i hi, replaceK_eq F h1 hno hat k _ (by omega)]
theorem replaceAll_eq (F : List UInt8 → List UInt8) {old new : List UInt8} (h1 : old ≠ []) (h2 : (old == new) = false)
  (hno : ∀ s, Lib.index s old = -1 → F s = s)
  (hat : ∀ s (i : Nat), Lib.index s old = i → F s = s.take i ++ new ++ F (s.drop (i + old.length))) (s : List UInt8) :
  Lib.replaceAll s old new = F s := by
 have hn : Lib.replaceNum s old (-1) = Lib.count s old := by unfold Lib.replaceNum; rw [if_pos (by omega)]
 unfold Lib.replaceAll Lib.replace
 rw [hn, h2]
 exact replaceK_eq F h1 hno hat _ s rfl
def dbl : List UInt8 → List UInt8
 | [] => []
 | x :: l => if x = 39 then 39 :: 39 :: dbl l else x :: dbl l
def unp : List UInt8 → List UInt8
 | [] => []
 | [x] => [x]
 | x :: y :: l => if x = 39 ∧ y = 39 then 39 :: unp l else x :: unp (y :: l)
theorem index_cons (b : UInt8) (l sub : List UInt8) : Lib.index (b :: l) sub = if sub.isPrefixOf (b :: l) then 0 else if Lib.index l sub == -1 then -1 else Lib.index l sub + 1 := rfl
theorem index_cons_no {b : UInt8} {l sub : List UInt8} (h : Lib.index (b :: l) sub = -1) : sub.isPrefixOf (b :: l) = false ∧ Lib.index l sub = -1 := by
 rw [index_cons] at h
 cases hp : sub.isPrefixOf (b :: l) with
 | true => rw [hp] at h; simp at h
 | false =>
  rw [hp] at h
  have hge := Lib.index_ge l sub
  by_cases hm : Lib.index l sub = -1
  ·exact ⟨rfl, hm⟩
  ·have : (Lib.index l sub == -1) = false := by rw [beq_eq_false_iff_ne]; exact hm
   rw [this] at h
   simp at h
   omega
theorem index_cons_at {b : UInt8} {l sub : List UInt8} {i : Nat} (h : Lib.index (b :: l) sub = i) : (sub.isPrefixOf (b :: l) = true ∧ i = 0) ∨ (sub.isPrefixOf (b :: l) = false ∧ ∃ j : Nat, i = j + 1 ∧ Lib.index l sub = j) := by
 rw [index_cons] at h
 cases hp : sub.isPrefixOf (b :: l) with
 | true => rw [hp] at h; simp at h; exact .inl ⟨rfl, by omega⟩
 | false =>
  rw [hp] at h
  have hge := Lib.index_ge l sub
  by_cases hm : Lib.index l sub = -1
  ·rw [hm] at h; simp at h
  ·have : (Lib.index l sub == -1) = false := by rw [beq_eq_false_iff_ne]; exact hm
   rw [this] at h
   simp at h
   exact .inr ⟨rfl, (Lib.index l sub).toNat, by omega, by omega⟩
theorem dbl_replace (s : List UInt8) : Lib.replaceAll s [39] [39, 39] = dbl s := by
 refine replaceAll_eq dbl (by simp) (by decide) ?_ ?_ s
 ·intro s
  induction s with
  | nil => intro _; rfl
  | cons x l ih =>
   intro h
   obtain ⟨h1, h2⟩ := index_cons_no h
   have hx : ¬ x = 39 := by rintro rfl; simp [List.isPrefixOf] at h1
   rw [dbl, if_neg hx, ih h2]
 ·intro s
  induction s with
  | nil => intro i h; simp [Lib.index] at h
  | cons x l ih =>
   intro i h
   rcases index_cons_at h with ⟨h1, rfl⟩ | ⟨h1, j, rfl, h2⟩
   ·have hx : x = 39 := by simp [List.isPrefixOf] at h1; exact h1.symm
    subst hx
    simp [dbl]
   ·have hx : ¬ x = 39 := by rintro rfl; simp [List.isPrefixOf] at h1
    rw [dbl, if_neg hx, ih j h2, List.take_succ_cons]
    have : j + 1 + ([39] : List UInt8).length = (j + ([39] : List UInt8).length) + 1 := by simp
    rw [this, List.drop_succ_cons]
    simp
theorem unp_replace (s : List UInt8) : Lib.replaceAll s [39, 39] [39] = unp s := by
 refine replaceAll_eq unp (by simp) (by decide) ?_ ?_ s
 ·intro s
  induction s with
  | nil => intro _; rfl
  | cons x l ih =>
   intro h
   obtain ⟨h1, h2⟩ := index_cons_no h
   cases l with
   | nil => rfl
   | cons y l =>
    have hx : ¬ (x = 39 ∧ y = 39) := by rintro ⟨rfl, rfl⟩; simp [List.isPrefixOf] at h1
    rw [unp, if_neg hx, ih h2]
 ·intro s
  induction s with
  | nil => intro i h; simp [Lib.index] at h
  | cons x l ih =>
   intro i h
   rcases index_cons_at h with ⟨h1, rfl⟩ | ⟨h1, j, rfl, h2⟩
   ·cases l with
    | nil => simp [List.isPrefixOf] at h1
    | cons y l =>
     have hx : x = 39 ∧ y = 39 := by simp [List.isPrefixOf] at h1; exact ⟨h1.1.symm, h1.2.symm⟩
     rw [unp, if_pos hx]
     simp
   ·cases l with
    | nil => simp [Lib.index] at h2
    | cons y l =>
     have hx : ¬ (x = 39 ∧ y = 39) := by rintro ⟨rfl, rfl⟩; simp [List.isPrefixOf] at h1
     rw [unp, if_neg hx, ih j h2, List.take_succ_cons]
     have : j + 1 + ([39, 39] : List UInt8).length = (j + ([39, 39] : List UInt8).length) + 1 := by simp
     rw [this, List.drop_succ_cons]
     simp
theorem dbl_length_le (l : List UInt8) : (dbl l).length ≤ 2 * l.length := by
 induction l with
 | nil => simp [dbl]
 | cons x l ih => unfold dbl; split <;> simp <;> omega
def litL : List UInt8 → Option (List UInt8 × Nat)
 | [] => none
 | [x] => if x = 39 then some ([], 1) else none
 | x :: y :: l => if x = 39 then (if y = 39 then (litL l).map fun p => (39 :: p.1, p.2 + 2) else some ([], 1)) else (litL (y :: l)).map fun p => (x :: p.1, p.2 + 1)
theorem litL_stop {l : List UInt8} (h : ∀ y, l[0]? = some y → ¬ y = 39) : litL (39 :: l) = some ([], 1) := by
 cases l with
 | nil => simp [litL]
 | cons y l => rw [litL, if_pos rfl, if_neg (h y rfl)]
theorem litL_pair (l : List UInt8) : litL (39 :: 39 :: l) = (litL l).map fun p => (39 :: p.1, p.2 + 2) := by rw [litL, if_pos rfl, if_pos rfl]
theorem litL_byte {x : UInt8} (hx : ¬ x = 39) (l : List UInt8) : litL (x :: l) = (litL l).map fun p => (x :: p.1, p.2 + 1) := by
 cases l with
 | nil => simp [litL, hx]
 | cons y l => rw [litL, if_neg hx]
theorem litL_facts : ∀ (k : Nat) (l : List UInt8), l.length ≤ k → ∀ c n, litL l = some (c, n) → 1 ≤ n ∧ n ≤ l.length ∧ unp (l.take (n - 1)) = c ∧ n = (dbl c).length + 1
 | _, [], _, c, n, h => by simp [litL] at h
 | 0, x :: l, hk, _, _, _ => by simp at hk
 | k + 1, x :: l, hk, c, n, h => by
  by_cases hx : x = 39
  ·subst hx
   cases l with
   | nil =>
    rw [litL_stop (by simp)] at h
    cases h
    simp [unp, dbl]
   | cons y l =>
    by_cases hy : y = 39
    ·subst hy
     rw [litL_pair] at h
     cases hl : litL l with
     | none => rw [hl] at h; cases h
     | some p =>
      obtain ⟨c1, n1⟩ := p
      rw [hl] at h
      cases h
      obtain ⟨a, b, d, e⟩ := litL_facts k l (by simp at hk; omega) c1 n1 hl
      refine ⟨by omega, by simp; omega, ?_, ?_⟩
      ·rw [show n1 + 2 - 1 = (n1 - 1) + 1 + 1 by omega, List.take_succ_cons, List.take_succ_cons, unp, if_pos ⟨rfl, rfl⟩, d]
      ·rw [dbl, if_pos rfl]; simp; omega
    ·rw [litL_stop (by simp; exact hy)] at h
     cases h
     simp [unp, dbl]
  ·rw [litL_byte hx] at h
   cases hl : litL l with
   | none => rw [hl] at h; cases h
   | some p =>
    obtain ⟨c1, n1⟩ := p
    rw [hl] at h
    cases h
    obtain ⟨a, b, d, e⟩ := litL_facts k l (by simp at hk; omega) c1 n1 hl
    refine ⟨by omega, by simp; omega, ?_, ?_⟩
    ·rw [show n1 + 1 - 1 = (n1 - 1) + 1 by omega, List.take_succ_cons]
     cases hz : l.take (n1 - 1) with
     | nil => rw [hz] at d; rw [← d]; rfl
     | cons y z => rw [hz] at d; rw [unp, if_neg (fun h => hx h.1), d]
    ·rw [dbl, if_neg hx]; simp; omega
end Wh
namespace Wh
def leapB (y : Int) : Bool := (decide (y % 4 = 0) && !decide (y % 100 = 0)) || decide (y % 400 = 0)
def leapZ (y : Int) : Int := if leapB y = true then 1 else 0
theorem leapZ_bd (y : Int) : 0 ≤ leapZ y ∧ leapZ y ≤ 1 := by unfold leapZ; split <;> omega
def lenZ (y m : Int) : Int := if m = 2 then 28 + leapZ y else if m = 4 ∨ m = 6 ∨ m = 9 ∨ m = 11 then 30 else 31
theorem lenZ_bd (y m : Int) : 28 ≤ lenZ y m ∧ lenZ y m ≤ 31 := by
 have := leapZ_bd y
 unfold lenZ
 split
 ·omega
 ·split <;> omega
def lyZ (y : Int) : Int := y / 4 - y / 100 + y / 400
theorem lyZ_step (y : Int) : lyZ y = lyZ (y - 1) + leapZ y := by
 unfold lyZ leapZ leapB
 by_cases h4 : y % 4 = 0
 ·by_cases h100 : y % 100 = 0
  ·by_cases h400 : y % 400 = 0
   ·simp [h4, h100, h400]; omega
   ·simp [h4, h100, h400]; omega
  ·have h400 : ¬ y % 400 = 0 := by omega
   simp [h4, h100, h400]; omega
 ·have h100 : ¬ y % 100 = 0 := by omega
  have h400 : ¬ y % 400 = 0 := by omega
  simp [h4, h100, h400]; omega
def yzZ (y : Int) : Int := (y - 1970) * 365 + lyZ (y - 1) - 477
theorem yzZ_first : yzZ 1970 = 0 := by decide
theorem yzZ_step (y : Int) : yzZ (y + 1) = yzZ y + 365 + leapZ y := by
 unfold yzZ
 have h := lyZ_step y
 rw [show y + 1 - 1 = y by omega, h]
 omega
theorem yzZ_low {y : Int} (h : 1970 ≤ y) : (y - 1970) * 365 ≤ yzZ y := by
 unfold yzZ lyZ
 omega
theorem yzZ_high {y : Int} (h : 1970 ≤ y) : yzZ y ≤ (y - 1970) * 366 := by
 unfold yzZ lyZ
 omega
def msZ (y : Int) : Nat → Int
 | 0 => 0
 | k + 1 => msZ y k + lenZ y ((k : Int) + 1)
theorem msZ_low (y : Int) : ∀ k : Nat, 28 * (k : Int) ≤ msZ y k
 | 0 => by simp [msZ]
 | k + 1 => by
  have := msZ_low y k
  have := lenZ_bd y ((k : Int) + 1)
  simp only [msZ, Int.natCast_add]
  omega
theorem msZ_high (y : Int) : ∀ k : Nat, msZ y k ≤ 31 * (k : Int)
 | 0 => by simp [msZ]
 | k + 1 => by
  have := msZ_high y k
  have := lenZ_bd y ((k : Int) + 1)
  simp only [msZ, Int.natCast_add]
  omega
theorem msZ_mono (y : Int) {i j : Nat} (h : i ≤ j) : msZ y i ≤ msZ y j := by
 induction j with
 | zero => obtain rfl : i = 0 := by omega
           exact Int.le_refl _
 | succ j ih =>
  by_cases e : i = j + 1
  ·subst e; exact Int.le_refl _
  ·have := ih (by omega)
   have := lenZ_bd y ((j : Int) + 1)
   simp only [msZ]
   omega
theorem msZ_year (y : Int) : msZ y 12 = 365 + leapZ y := by
 simp only [msZ, lenZ]
 simp
 omega
def dayZ (y : Int) (k : Nat) (d : Int) : Int := yzZ y + msZ y k + d - 1
structure Dt (y : Int) (k : Nat) (d : Int) : Prop where
 y0 : 1970 ≤ y
 k1 : k < 12
 d0 : 1 ≤ d
 d1 : d ≤ lenZ y ((k : Int) + 1)
 n1 : dayZ y k d ≤ 400000
theorem Dt.year {y : Int} {k : Nat} {d : Int} (h : Dt y k d) : y ≤ 3065 := by
 have h1 := h.n1
 unfold dayZ at h1
 have := yzZ_low h.y0
 have := msZ_low y k
 have := h.d0
 omega
theorem Dt.n0 {y : Int} {k : Nat} {d : Int} (h : Dt y k d) : 0 ≤ dayZ y k d := by
 unfold dayZ
 have := yzZ_low h.y0
 have := h.y0
 have := msZ_low y k
 have := h.d0
 omega
theorem yzZ_mono {y z : Int} (h : y < z) : yzZ y + 365 + leapZ y ≤ yzZ z := by
 obtain ⟨n, rfl⟩ : ∃ n : Nat, z = y + 1 + n := ⟨(z - y - 1).toNat, by omega⟩
 clear h
 induction n with
 | zero => rw [show y + 1 + ((0 : Nat) : Int) = y + 1 by omega, yzZ_step]; exact Int.le_refl _
 | succ n ih =>
  have h1 := yzZ_step (y + 1 + (n : Int))
  have := leapZ_bd (y + 1 + (n : Int))
  rw [show y + 1 + ((n + 1 : Nat) : Int) = y + 1 + (n : Int) + 1 by omega, h1]
  omega
theorem day_in_year {y : Int} {k : Nat} {d : Int} (hk : k < 12) (h0 : 1 ≤ d) (h1 : d ≤ lenZ y ((k : Int) + 1)) : 0 ≤ msZ y k + d - 1 ∧ msZ y k + d - 1 < 365 + leapZ y := by
 have a := msZ_low y k
 have b := msZ_mono y (show k + 1 ≤ 12 by omega)
 rw [msZ_year] at b
 simp only [msZ] at b
 omega
theorem date_one {y z : Int} {k l : Nat} {d e : Int} (hk : k < 12) (hl : l < 12) (hd : 1 ≤ d) (hd1 : d ≤ lenZ y ((k : Int) + 1)) (he : 1 ≤ e) (he1 : e ≤ lenZ z ((l : Int) + 1)) (h : dayZ y k d = dayZ z l e) : y = z ∧ k = l ∧ d = e := by
 have a := day_in_year hk hd hd1
 have b := day_in_year hl he he1
 unfold dayZ at h
 rcases (show y < z ∨ y = z ∨ z < y by omega) with c | c | c
 ·have := yzZ_mono c
  omega
 ·subst c
  refine ⟨rfl, ?_⟩
  rcases (show k < l ∨ k = l ∨ l < k by omega) with c | c | c
  ·have := msZ_mono y (show k + 1 ≤ l by omega)
   simp only [msZ] at this
   omega
  ·subst c
   exact ⟨rfl, by omega⟩
  ·have := msZ_mono y (show l + 1 ≤ k by omega)
   simp only [msZ] at this
   omega
 ·have := yzZ_mono c
  omega
theorem year_le {x y : Int} {k : Nat} {d : Int} (hk : k < 12) (hd : 1 ≤ d) (hd1 : d ≤ lenZ y ((k : Int) + 1)) (h : yzZ x ≤ dayZ y k d) : x ≤ y := by
 have a := day_in_year hk hd hd1
 unfold dayZ at h
 by_cases c : y < x
 ·have := yzZ_mono c
  omega
 ·omega
theorem date_next {y : Int} {k : Nat} {d : Int} (hk : k < 12) (h0 : 1 ≤ d) (h1 : d ≤ lenZ y ((k : Int) + 1)) :
  ∃ (z : Int) (l : Nat) (e : Int), l < 12 ∧ 1 ≤ e ∧ e ≤ lenZ z ((l : Int) + 1) ∧ dayZ z l e = dayZ y k d + 1 ∧ (z = y ∧ l = k ∧ e = d + 1 ∨ e = 1 ∧ (z = y ∧ l = k + 1 ∨ z = y + 1 ∧ l = 0 ∧ k = 11)) := by
 by_cases a : d < lenZ y ((k : Int) + 1)
 ·exact ⟨y, k, d + 1, hk, by omega, by omega, by unfold dayZ; omega, .inl ⟨rfl, rfl, rfl⟩⟩
 ·by_cases b : k < 11
  ·refine ⟨y, k + 1, 1, by omega, by omega, Int.le_trans (by decide) (lenZ_bd _ _).1, ?_, .inr ⟨rfl, .inl ⟨rfl, rfl⟩⟩⟩
   unfold dayZ
   simp only [msZ]
   omega
  ·obtain rfl : k = 11 := by omega
   refine ⟨y + 1, 0, 1, by omega, by omega, Int.le_trans (by decide) (lenZ_bd _ _).1, ?_, .inr ⟨rfl, .inr ⟨rfl, rfl, rfl⟩⟩⟩
   unfold dayZ
   have h2 := msZ_year y
   have h3 := yzZ_step y
   simp only [msZ] at h2 ⊢
   omega
theorem date_some (n : Nat) : ∃ (y : Int) (k : Nat) (d : Int), 1970 ≤ y ∧ k < 12 ∧ 1 ≤ d ∧ d ≤ lenZ y ((k : Int) + 1) ∧ dayZ y k d = n := by
 induction n with
 | zero => exact ⟨1970, 0, 1, by omega, by omega, by omega, by decide, by decide⟩
 | succ n ih =>
  obtain ⟨y, k, d, h0, hk, hd, hd1, e⟩ := ih
  obtain ⟨z, l, f, hl, hf, hf1, e2, h⟩ := date_next hk hd hd1
  exact ⟨z, l, f, by omega, hl, hf, hf1, by omega⟩
theorem date_of {n : Int} (h0 : 0 ≤ n) (h1 : n ≤ 400000) : ∃ (y : Int) (k : Nat) (d : Int), Dt y k d ∧ dayZ y k d = n := by
 obtain ⟨y, k, d, a, b, c, e, f⟩ := date_some n.toNat
 exact ⟨y, k, d, ⟨a, b, c, e, by omega⟩, by omega⟩
def daysB (y m d : Int) : Bool := decide (1970 ≤ y) && decide (1 ≤ m) && decide (m ≤ 12) && decide (1 ≤ d) && decide (d ≤ lenZ y m) && decide (dayZ y (m - 1).toNat d ≤ 400000)
def daysZ (y m d : Int) : Int := if daysB y m d = true then dayZ y (m - 1).toNat d else 0
theorem daysB_dt {y m d : Int} (h : daysB y m d = true) : ∃ k : Nat, m = (k : Int) + 1 ∧ Dt y k d ∧ daysZ y m d = dayZ y k d := by
 have hz : daysZ y m d = dayZ y (m - 1).toNat d := by unfold daysZ; rw [if_pos h]
 unfold daysB at h
 simp only [Bool.and_eq_true, decide_eq_true_eq] at h
 obtain ⟨⟨⟨⟨⟨h0, h1⟩, h2⟩, h3⟩, h4⟩, h5⟩ := h
 refine ⟨(m - 1).toNat, by omega, ⟨h0, by omega, h3, ?_, h5⟩, hz⟩
 rw [show (((m - 1).toNat : Nat) : Int) + 1 = m by omega]
 exact h4
theorem daysB_of {y : Int} {k : Nat} {d : Int} (h : Dt y k d) : daysB y ((k : Int) + 1) d = true ∧ daysZ y ((k : Int) + 1) d = dayZ y k d := by
 have e : ((k : Int) + 1 - 1).toNat = k := by omega
 have hb : daysB y ((k : Int) + 1) d = true := by
  unfold daysB
  rw [e]
  simp only [Bool.and_eq_true, decide_eq_true_eq]
  have := h.k1
  exact ⟨⟨⟨⟨⟨h.y0, by omega⟩, by omega⟩, h.d0⟩, h.d1⟩, h.n1⟩
 exact ⟨hb, by unfold daysZ; rw [if_pos hb, e]⟩
theorem daysZ_no {y m d : Int} (h : daysB y m d = false) : daysZ y m d = 0 := by unfold daysZ; rw [h]; rfl
theorem daysB_out {y m d : Int} (h : y < 1970 ∨ 3065 < y ∨ m < 1 ∨ 12 < m ∨ d < 1 ∨ lenZ y m < d) : daysB y m d = false := by
 cases e : daysB y m d with
 | false => rfl
 | true =>
  exfalso
  obtain ⟨k, rfl, hd, _⟩ := daysB_dt e
  have a := hd.year
  have b := hd.y0
  have c := hd.k1
  have := hd.d0
  have := hd.d1
  omega
end Wh
