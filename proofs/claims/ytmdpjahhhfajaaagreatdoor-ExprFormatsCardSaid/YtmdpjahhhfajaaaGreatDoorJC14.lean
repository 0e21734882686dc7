/-
  Number, Quote, Moment and written, of the reference. · The texts of expressions, plainly. No program's functions. · The texts of times: Parse reads them again; they are ordered as the ti · What was written is read: the token with which a text begins whose beg · What a valid expression's nodes find on the stack. No program's functi · The texts of expressions, plainly: how long they are; what a valid exp
-/
import Derived.Test.YtmdpjahhhfajaaaGreatDoorJC06
import Derived.Test.YtmdpjahhhfajaaaGreatDoorJC03
import Derived.Test.YtmdpjahhhfajaaaGreatDoorJC13
import Derived.Test.YtmdpjahhhfajaaaGreatDoorJC07
import Derived.Test.YtmdpjahhhfajaaaGreatDoorJC02
set_option linter.unusedVariables false
set_option maxRecDepth 100000
set_option linter.unusedSimpArgs false
namespace Wh
open Go Go.Proofs.YtmdpjahhhfajaaaGreatDoor
theorem decDigits_step (x : Nat) : Lib.decDigits x = if x / 10 = 0 then [dig x] else Lib.decDigits (x / 10) ++ [dig x] := by
 by_cases h : x < 10
 ·rw [Lib.decDigits, dif_pos h, if_pos (by omega)]
  unfold dig
  rw [Nat.mod_eq_of_lt h]
 ·rw [Lib.decDigits, dif_neg h, if_neg (by omega)]
  rfl
def numR (x : Nat) (l : List UInt8) : List UInt8 := if x = 0 then l else Lib.decDigits x ++ l
theorem numR_start (n : Nat) : numR (n / 10) [dig n] = Lib.decDigits n := by
 rw [decDigits_step n]
 unfold numR
 rfl
theorem numR_step {x : Nat} (h : 0 < x) (l : List UInt8) : numR x l = numR (x / 10) (dig x :: l) := by
 unfold numR
 rw [if_neg (by omega), decDigits_step x]
 by_cases h1 : x / 10 = 0
 ·rw [if_pos h1, if_pos h1]; rfl
 ·rw [if_neg h1, if_neg h1, List.append_assoc]; rfl
theorem numR_len {n x : Nat} {l : List UInt8} (h : numR x l = Lib.decDigits n) (hn : n ≤ 1073741824) : l.length ≤ 1073741825 := by
 have h1 : ∀ m, Lib.nDigits m ≤ m + 1 := by
  intro m
  induction m using Nat.strongRecOn with
  | _ m ih =>
   by_cases h : m < 10
   ·rw [Lib.nDigits_small h]; omega
   ·rw [Lib.nDigits_big h]
    have := ih (m / 10) (by omega)
    omega
 have h2 := h1 n
 rw [← Lib.decDigits_length, ← h] at h2
 unfold numR at h2
 split at h2
 ·omega
 ·rw [List.length_append] at h2; omega
theorem dbl_push (l : List UInt8) (x : UInt8) : dbl (l ++ [x]) = dbl l ++ (if x = 39 then [39, 39] else [x]) := by
 induction l with
 | nil => unfold dbl; split <;> simp_all [dbl]
 | cons y l ih =>
  rw [List.cons_append]
  unfold dbl
  rw [ih]
  split <;> simp
theorem dbl_take {s : ByteArray} {k : Nat} {x : UInt8} (h : (bts s)[k]? = some x) : dbl ((bts s).take (k + 1)) = dbl ((bts s).take k) ++ (if x = 39 then [39, 39] else [x]) := by
 rw [List.take_add_one, h]
 exact dbl_push _ _
theorem mk_bts (s : ByteArray) : (⟨(bts s).toArray⟩ : ByteArray) = s := by
 apply ByteArray.ext
 show (bts s).toArray = s.data
 unfold bts
 simp
end Wh
namespace Go.Proofs.YtmdpjahhhfajaaaGreatDoor
open Go.RowKit Wh
set_option maxHeartbeats 1000000 in
theorem number7_any (n : Nat) (hn : n ≤ 1073741824) (w : World) : Calls Tryz.prog 80 #[.int .i64 n] w (IsStr (Lib.decDigits n) w) := by
 have CV := Lib.hid (fun (W : World) (x : Nat) => conv_str (W := W.alloc (.cells #[.int .u8 (48 + (x : Int) % 10)] 5)) (b := W.heap.size) (off := 0) (c := 1) (y := 1) (l := [dig x]) rfl (fun j y hj => by
  cases j with
  | zero =>
   simp only [List.getElem?_cons_zero, Option.some.injEq] at hj
   subst hj
   rw [dig_nat]
   simp
  | succ j => simp at hj))
 have hcv := CV.out w n
 go_enter Tryz.func80, Tryz.ntmps80
 go_wp2_with fail
 clear hcv
 go_loopw [0, 3] (fun nv sv wr => ∃ (x : Nat) (l : List UInt8), x ≤ 1073741824 ∧ nv = .int .i64 x ∧ sv = .string ⟨l.toArray⟩ ∧ Hid (numR x l = Lib.decDigits n) ∧ Below w.heap.size w wr) (fun nv _ _ => (intOf nv).toNat)
 case atStart => exact ⟨n / 10, [dig n], by omega, by go_num, rfl, numR_start n, (Below.refl _ _).alloc (Nat.le_refl _) _⟩
 case round =>
  obtain ⟨x, l, hx, rfl, rfl, HD, hbel⟩ := hrel
  have hl := numR_len HD.out hn
  have hs := hbel.size
  by_cases hlt : 0 < x
  ·have hcv := CV.out wr x
   have HD2 := Lib.hid ((numR_step hlt l).symm.trans HD.out)
   have hsz : ¬ (9223372036854775807 < (⟨#[dig x]⟩ : ByteArray).size + (⟨l.toArray⟩ : ByteArray).size) := by
    show ¬ (9223372036854775807 < 1 + l.toArray.size)
    simp
    omega
   have HT : Hid ((⟨#[dig x]⟩ : ByteArray) ++ ⟨l.toArray⟩ = ⟨(dig x :: l).toArray⟩) := ba_append [dig x] l
   clear HD
   generalize (⟨l.toArray⟩ : ByteArray) = t0 at *
   go_wp2_with fail
   go_roundw
   case rel => exact ⟨x / 10, dig x :: l, by omega, by go_num, by rw [← HT.out], HD2, hbel.alloc hs _⟩
   case measure => simp [intOf]; omega
  ·obtain rfl : x = 0 := by omega
   go_wp2_with fail
   go_ret
   rw [← show l = Lib.decDigits n from HD.out]
   exact ⟨rfl, hbel⟩
set_option maxHeartbeats 2000000 in
theorem quote_any (s : ByteArray) (hs : s.size ≤ 1000000) (w : World) : Calls Tryz.prog 81 #[.string s] w (IsStr (39 :: (dbl (bts s) ++ [39])) w) := by
 obtain ⟨i0, hi, hz0, hz1, hz2⟩ := info_parts info_u8
 go_enter Tryz.func81, Tryz.ntmps81
 go_wp2_with fail
 go_loopw [3, 4] (fun bv iv wr => ∃ (k : Nat) (l : List UInt8), k ≤ s.size ∧ iv = .int .i64 k ∧ wr.ownsRow w.heap.size 5 1 bv l.length (byC l) ∧ l.length ≤ 1 + 2 * k ∧ Hid (l = 39 :: dbl ((bts s).take k)) ∧ Below w.heap.size w wr) (fun _ iv _ => s.size - (intOf iv).toNat)
 case atStart => exact ⟨0, [39], Nat.zero_le _, rfl, World.ownsRow_lit w #[.int .u8 39] 1 (Nat.le_refl _) (by unfold maxLen; omega) rfl, by simp, by show _ = _; simp [dbl], (Below.refl _ _).alloc (Nat.le_refl _) _⟩
 case round =>
  obtain ⟨k, l, hk, rfl, hown, hln, HL, hbel⟩ := hrel
  have hs9 := hbel.size
  by_cases hlt : k < s.size
  ·have ix := fun W => index_str s k hlt W
   obtain ⟨x, hx⟩ := bts_at hlt
   have hbx := btN_of hx
   have HD := Lib.hid (dbl_take hx)
   by_cases h39 : x = 39
   ·subst h39
    have HL2 : Hid ((l ++ [39]) ++ [39] = 39 :: dbl ((bts s).take (k + 1))) := by
     show _ = _
     rw [HD.out, HL.out, if_pos rfl]
     simp
    rw [hbx] at ix
    have ix2 : ∀ W, (Instr.index 9 (.string s) (.int .i64 k)).run Tryz.prog W = .ok (.int .u8 39) W := fun W => ix W
    clear HD HL hx hbx ix
    go_wp2_with (at_builtin; refine wpList_append_lies _ rfl _ _ 127 rfl w.heap.size 5 i0 _ 1 1 Tryz.underlying127 hi hz0 hz1 hz2 rfl (by decide) _ _ _ rfl (hown.alloc _) ⟨wr.heap.size, 0, none⟩ 1 1 [.int .u8 39] rfl rfl (by have h := heap_alloc_new wr (.cells #[.int .u8 39] 5); exact World.news_of_block (cs := #[.int .u8 39]) (t := 5) (fr := (0, 0)) h) (by simp [Value.oneCell']) (by omega) (by unfold maxLen; omega) (by omega) (by simp; omega) (wr.heap.size + 1) (by simp) ?_)
    intro gg cc w9 hown9 hgrow9 hat9 hlt9
    have hB9 := (hbel.alloc (by omega) _).grown hgrow9 (by simp; omega) (fun j hj => (hown.lt j hj).1)
    have hs99 := hB9.size
    have hO9 : w9.ownsRow w.heap.size 5 1 (.slice (some ⟨gg, 0, none⟩) (l.length + 1) cc) (l.length + 1) (byC (l ++ [39])) := by
     rw [← byC_push l 39 39 rfl]
     exact hown9
    clear hown9 hgrow9 hat9 hlt9 hown
    go_wp2_with (at_builtin; refine wpList_append_lies _ rfl _ _ 127 rfl w.heap.size 5 i0 _ 1 1 Tryz.underlying127 hi hz0 hz1 hz2 rfl (by decide) _ _ _ rfl (hO9.alloc _) ⟨w9.heap.size, 0, none⟩ 1 1 [.int .u8 39] rfl rfl (by have h := heap_alloc_new w9 (.cells #[.int .u8 39] 5); exact World.news_of_block (cs := #[.int .u8 39]) (t := 5) (fr := (0, 0)) h) (by simp [Value.oneCell']) (by omega) (by unfold maxLen; omega) (by omega) (by simp; omega) (w9.heap.size + 1) (by simp) ?_)
    intro g2 c2 w8 hown8 hgrow8 hat8 hlt8
    have hB8 := (hB9.alloc (by omega) _).grown hgrow8 (by simp; omega) (fun j hj => (hO9.lt j hj).1)
    have hO8 : w8.ownsRow w.heap.size 5 1 (.slice (some ⟨g2, 0, none⟩) (l.length + 1 + 1) c2) (l.length + 1 + 1) (byC ((l ++ [39]) ++ [39])) := by
     rw [← byC_push (l ++ [39]) 39 39 rfl]
     exact hown8
    clear hown8 hgrow8 hat8 hlt8 hO9 hB9
    go_wp2_with fail
    go_roundw
    case rel => exact ⟨k + 1, (l ++ [39]) ++ [39], by omega, by go_num, by rw [List.length_append, List.length_append]; exact hO8, by simp; omega, HL2, hB8⟩
    case measure => simp [intOf]; omega
   ·have HL2 : Hid (l ++ [x] = 39 :: dbl ((bts s).take (k + 1))) := by
     show _ = _
     rw [HD.out, HL.out, if_neg h39]
     simp
    rw [hbx] at ix
    have hne : ((x.toNat : Int) == 39) = false := by
     have : ¬ x.toNat = 39 := fun h => h39 (UInt8.toNat_inj.1 h)
     simp
     omega
    clear HD HL hx hbx h39
    have HP := Lib.hid (byC_push l x x.toNat rfl)
    generalize (x.toNat : Int) = c at *
    go_wp2_with (at_builtin; refine wpList_append_lies _ rfl _ _ 127 rfl w.heap.size 5 i0 _ 1 1 Tryz.underlying127 hi hz0 hz1 hz2 rfl (by decide) _ _ _ rfl (hown.alloc _) ⟨wr.heap.size, 0, none⟩ 1 1 [.int .u8 c] rfl rfl (by have h := heap_alloc_new wr (.cells #[.int .u8 c] 5); exact World.news_of_block (cs := #[.int .u8 c]) (t := 5) (fr := (0, 0)) h) (by simp [Value.oneCell']) (by omega) (by unfold maxLen; omega) (by omega) (by simp; omega) (wr.heap.size + 1) (by simp) ?_)
    intro gg cc w9 hown9 hgrow9 hat9 hlt9
    have hB9 := (hbel.alloc (by omega) _).grown hgrow9 (by simp; omega) (fun j hj => (hown.lt j hj).1)
    rw [HP.out] at hown9
    clear hgrow9 hat9 hlt9 hown
    go_wp2_with fail
    go_roundw
    case rel => exact ⟨k + 1, l ++ [x], by omega, by go_num, by rw [List.length_append]; exact hown9, by simp; omega, HL2, hB9⟩
    case measure => simp [intOf]; omega
  ·obtain rfl : k = s.size := by omega
   have HL2 : Hid (l ++ [39] = 39 :: (dbl (bts s) ++ [39])) := by
    show _ = _
    have := HL.out
    rw [List.take_of_length_le (by rw [bts_length]; exact Nat.le_refl _)] at this
    rw [this]
    rfl
   clear HL
   go_wp2_with (at_builtin; refine wpList_append_lies _ rfl _ _ 127 rfl w.heap.size 5 i0 _ 1 1 Tryz.underlying127 hi hz0 hz1 hz2 rfl (by decide) _ _ _ rfl (hown.alloc _) ⟨wr.heap.size, 0, none⟩ 1 1 [.int .u8 39] rfl rfl (by have h := heap_alloc_new wr (.cells #[.int .u8 39] 5); exact World.news_of_block (cs := #[.int .u8 39]) (t := 5) (fr := (0, 0)) h) (by simp [Value.oneCell']) (by omega) (by unfold maxLen; omega) (by omega) (by simp; omega) (wr.heap.size + 1) (by simp) ?_)
   intro gg cc w9 hown9 hgrow9 hat9 hlt9
   have hB9 := (hbel.alloc (by omega) _).grown hgrow9 (by simp; omega) (fun j hj => (hown.lt j hj).1)
   rw [byC_push l 39 39 rfl] at hown9
   have hcv := conv_own hown9 (by simp)
   have HCV := Lib.hid hB9
   clear hown9 hgrow9 hat9 hlt9 hown hB9
   go_wp2_with fail
   go_ret
   rw [← HL2.out]
   exact ⟨rfl, HCV.out⟩
set_option maxHeartbeats 1000000 in
theorem moment7_any (y : Int) (k : Nat) (d : Int) (t : Nat) (hd : Dt y k d) (ht : t < 1440) (hn : dayZ y k d ≤ 399999) (w : World) :
  Calls Tryz.prog 82 #[.int .i64 (dayZ y k d * 1440 + (t : Int))] w (IsStr (64 :: fmtL y k d t) w) := by
 have C := Lib.hid (rformat_any y k d t hd ht hn w)
 have hl := fmtL_length y k d t
 have HT : Hid ((⟨#[64]⟩ : ByteArray) ++ ⟨(fmtL y k d t).toArray⟩ = ⟨(64 :: fmtL y k d t).toArray⟩) := ba_append [64] _
 have hsz : ¬ (9223372036854775807 < (⟨#[64]⟩ : ByteArray).size + (⟨(fmtL y k d t).toArray⟩ : ByteArray).size) := by
  show ¬ (9223372036854775807 < 1 + (fmtL y k d t).toArray.size)
  simp
  omega
 unfold IsTxt at C
 unfold IsStr
 rw [← HT.out]
 generalize (⟨(fmtL y k d t).toArray⟩ : ByteArray) = tx at *
 generalize dayZ y k d * 1440 + (t : Int) = m at *
 clear hd ht hn hl
 go_enter Tryz.func82, Tryz.ntmps82
 go_wp2_with fail
 refine C.out.mono ?_
 rintro e w1 ⟨rfl, hb⟩
 go_wp2_with fail
 go_ret
 exact ⟨rfl, hb⟩
end Go.Proofs.YtmdpjahhhfajaaaGreatDoor
namespace Wh
open Go Go.Proofs.YtmdpjahhhfajaaaGreatDoor
structure Pc where
 tx : List UInt8
 lv : Int
 ig : Bool
def noPc : Pc := ⟨[], 0, false⟩
theorem time_ex (n : Int) : ∃ l : List UInt8, (0 ≤ n → n ≤ 575999999 → ∃ (y : Int) (k : Nat) (d : Int) (t : Nat), Dt y k d ∧ t < 1440 ∧ dayZ y k d ≤ 399999 ∧ n = dayZ y k d * 1440 + t ∧ l = fmtL y k d t) ∧ l.length ≤ 16 := by
 by_cases h : 0 ≤ n ∧ n ≤ 575999999
 ·obtain ⟨y, k, d, t, a, b, c, e⟩ := time_of h.1 h.2
  exact ⟨fmtL y k d t, fun _ _ => ⟨y, k, d, t, a, b, c, e, rfl⟩, by rw [fmtL_length]; exact Nat.le_refl _⟩
 ·exact ⟨[], fun a b => absurd ⟨a, b⟩ h, by simp⟩
noncomputable def timL (n : Int) : List UInt8 := Classical.choose (time_ex n)
theorem timL_of {n : Int} (h0 : 0 ≤ n) (h1 : n ≤ 575999999) : ∃ (y : Int) (k : Nat) (d : Int) (t : Nat), Dt y k d ∧ t < 1440 ∧ dayZ y k d ≤ 399999 ∧ n = dayZ y k d * 1440 + t ∧ timL n = fmtL y k d t :=
 (Classical.choose_spec (time_ex n)).1 h0 h1
theorem timL_len (n : Int) : (timL n).length ≤ 16 := (Classical.choose_spec (time_ex n)).2
def encL (x : Pc) (l : Int) : List UInt8 := if x.lv < l then 40 :: (x.tx ++ [41]) else x.tx
noncomputable def cstP (v : V) : Pc :=
 if v.k = 1 then ⟨if v.n = 1 then bts truS else bts falS, 8, false⟩
 else if v.k = 2 then (if v.n < 0 then ⟨45 :: Lib.decDigits (-v.n).toNat, 7, true⟩ else ⟨Lib.decDigits v.n.toNat, 8, true⟩)
 else if v.k = 3 then ⟨39 :: (dbl (bts v.s) ++ [39]), 8, false⟩
 else if v.k = 4 then ⟨64 :: timL v.n, 8, false⟩
 else ⟨bts nulS, 8, false⟩
def binP (op : Int) : ByteArray × Int × Int × Int :=
 if op = 4 then (⟨#[43]⟩, 5, 5, 6) else if op = 5 then (minS, 5, 5, 6)
 else if op = 6 then (⟨#[42]⟩, 6, 6, 7) else if op = 7 then (⟨#[47]⟩, 6, 6, 7) else if op = 8 then (⟨#[37]⟩, 6, 6, 7)
 else if op = 9 then (⟨#[43, 43]⟩, 4, 4, 5) else if op = 14 then (andS, 1, 1, 2) else if op = 15 then (orS, 0, 0, 1)
 else if op = 10 then (⟨#[61]⟩, 3, 4, 4) else if op = 11 then (⟨#[33, 61]⟩, 3, 4, 4) else if op = 12 then (⟨#[60]⟩, 3, 4, 4) else (⟨#[60, 61]⟩, 3, 4, 4)
def fnS (t : Nd) : ByteArray :=
 if t.op = 17 then ⟨#[105, 102]⟩ else if t.op = 18 then ⟨#[99, 111, 97, 108, 101, 115, 99, 101]⟩ else if t.op = 16 then ⟨#[105, 115, 110, 117, 108, 108]⟩ else if t.op = 19 then ⟨#[108, 101, 110, 103, 116, 104]⟩ else if t.op = 20 then dayS else t.nm
def comL (ls : List (List UInt8)) : List UInt8 := Lib.join ls [44, 32]
noncomputable def nodP (t : Nd) (xs : List Pc) : Pc :=
 if t.op = 0 then cstP t.v
 else if t.op = 1 then ⟨bts t.nm, 8, false⟩
 else if t.op = 2 then ⟨bts notS ++ 32 :: encL (xs.getD 0 noPc) 2, 2, false⟩
 else if t.op = 3 then ⟨45 :: (if (xs.getD 0 noPc).ig = true then 40 :: ((xs.getD 0 noPc).tx ++ [41]) else encL (xs.getD 0 noPc) 7), 7, false⟩
 else if 4 ≤ t.op ∧ t.op ≤ 15 then ⟨encL (xs.getD 0 noPc) (binP t.op).2.2.1 ++ 32 :: (bts (binP t.op).1 ++ 32 :: encL (xs.getD 1 noPc) (binP t.op).2.2.2), (binP t.op).2.1, false⟩
 else ⟨bts (fnS t) ++ 40 :: (comL (xs.map (·.tx) ++ if t.op = 20 then [bts t.nm] else []) ++ [41]), 8, false⟩
noncomputable def fmtS : List Nd → List Pc → List Pc
 | [], st => st
 | t :: l, st => fmtS l (st.take (st.length - (arN t).toNat) ++ [nodP t (st.drop (st.length - (arN t).toNat))])
noncomputable def fmtE (l : List Nd) : List UInt8 := ((fmtS l []).getD 0 noPc).tx
def totP (st : List Pc) : Nat := (st.map fun x => x.tx.length).sum
theorem totP_app (a b : List Pc) : totP (a ++ b) = totP a + totP b := by unfold totP; simp
theorem totP_mem {st : List Pc} {x : Pc} (h : x ∈ st) : x.tx.length ≤ totP st := by
 unfold totP
 induction st with
 | nil => cases h
 | cons y st ih =>
  rw [List.map_cons, List.sum_cons]
  rcases List.mem_cons.1 h with rfl | h
  ·omega
  ·have := ih h; omega
theorem totP_getD (st : List Pc) (i : Nat) : (st.getD i noPc).tx.length ≤ totP st := by
 rw [List.getD_eq_getElem?_getD]
 cases h : st[i]? with
 | none => exact Nat.zero_le _
 | some x => exact totP_mem (List.mem_of_getElem? h)
theorem encL_len (x : Pc) (l : Int) : (encL x l).length ≤ x.tx.length + 2 := by
 unfold encL
 split <;> simp
theorem tot2 (st : List Pc) (h : 2 ≤ st.length) : (st.getD 0 noPc).tx.length + (st.getD 1 noPc).tx.length ≤ totP st := by
 match st, h with
 | a :: b :: st, _ =>
  unfold totP
  simp only [List.getD_cons_zero, List.getD_cons_succ, List.map_cons, List.sum_cons]
  omega
theorem comL_len (ls : List (List UInt8)) : (comL ls).length ≤ (ls.map List.length).sum + 2 * ls.length := by
 unfold comL
 cases ls with
 | nil => simp [Lib.join_nil]
 | cons x ls =>
  have : ∀ (ls : List (List UInt8)), (Lib.joinTail [44, 32] ls).length = (ls.map List.length).sum + 2 * ls.length := by
   intro ls
   unfold Lib.joinTail
   induction ls with
   | nil => rfl
   | cons y ls ih =>
    simp only [List.map_cons, List.flatten_cons, List.length_append, ih, List.sum_cons, List.length_cons, List.length_nil]
    omega
  rw [Lib.join_cons]
  simp only [List.length_append, this, List.map_cons, List.sum_cons, List.length_cons]
  omega
end Wh
namespace Wh
open Go
end Wh
namespace Wh
open Go Go.Proofs.YtmdpjahhhfajaaaGreatDoor
def txt (l r : List UInt8) : ByteArray := ⟨(l ++ r).toArray⟩
theorem ext_bts {a b : ByteArray} (h : bts a = bts b) : a = b := by
 apply ByteArray.ext
 exact Array.toList_inj.1 h
theorem nameB_all {s : ByteArray} (h : nameB s = true) : 1 ≤ s.size ∧ s.size ≤ 24 ∧ lowB (btN s 0) = true ∧ ∀ j, j < s.size → wordB (btN s j) = true := by
 unfold nameB at h
 rw [Bool.and_eq_true, Bool.and_eq_true, decide_eq_true_eq, decide_eq_true_eq, List.all_eq_true] at h
 obtain ⟨⟨h1, h2⟩, h3⟩ := h
 have h0 := h3 0 (List.mem_range.2 (by omega))
 rw [okN_low] at h0
 refine ⟨h1, h2, h0, fun j hj => ?_⟩
 by_cases e : j = 0
 ·subst e; exact low_word h0
 ·have := h3 j (List.mem_range.2 hj)
  rw [okN_word e] at this
  exact this
theorem mk_eq {s : ByteArray} : (⟨(bts s).toArray⟩ : ByteArray) = s := mk_bts s
theorem nDigits_le : ∀ (k u : Nat), u < 10 ^ (k + 1) → Lib.nDigits u ≤ k + 1
 | 0, u, h => by rw [Lib.nDigits_small (by simpa using h)]; omega
 | k + 1, u, h => by
  by_cases h1 : u < 10
  ·rw [Lib.nDigits_small h1]; omega
  ·rw [Lib.nDigits_big h1]
   have := nDigits_le k (u / 10) (by rw [Nat.pow_succ] at h; omega)
   omega
end Wh
namespace Wh
open Go Go.Proofs.YtmdpjahhhfajaaaGreatDoor
theorem valS_step {t : Nd} {l : List Nd} {hs : List Int} (h : valS (t :: l) hs = 0) :
  nodB t = true ∧ ∃ p : Nat, arN t = (p : Int) ∧ p ≤ hs.length ∧ p ≤ 8 ∧ ¬ 64 < maxL (hs.drop (hs.length - p)) + 1 ∧ valS l (hs.take (hs.length - p) ++ [maxL (hs.drop (hs.length - p)) + 1]) = 0 := by
 unfold valS at h
 by_cases c1 : nodB t = false ∨ (hs.length : Int) < arN t
 ·rw [if_pos c1] at h; cases h
 ·rw [if_neg c1] at h
  have hf : nodB t = true := by
   cases hb : nodB t with
   | true => rfl
   | false => exact absurd (.inl hb) c1
  obtain ⟨q0, q8⟩ := nodB_ar hf
  have hp : arN t = ((arN t).toNat : Int) := by omega
  by_cases c2 : 64 < maxL (hs.drop (hs.length - (arN t).toNat)) + 1
  ·rw [if_pos c2] at h; cases h
  ·rw [if_neg c2] at h
   refine ⟨hf, (arN t).toNat, hp, ?_, by omega, c2, h⟩
   have : ¬ (hs.length : Int) < arN t := fun hh => c1 (.inr hh)
   omega
theorem valS_end {hs : List Int} (h : valS [] hs = 0) : hs.length = 1 := by
 unfold valS at h
 by_cases c : hs.length = 1
 ·exact c
 ·rw [if_neg c] at h; cases h
theorem valN_zero {l : List Nd} (h : valN l = 0) : l.length ≤ 256 ∧ valS l [] = 0 := by
 unfold valN at h
 by_cases c : 256 < l.length
 ·rw [if_pos c] at h; cases h
 ·rw [if_neg c] at h; exact ⟨by omega, h⟩
end Wh
namespace Wh
open Go Go.Proofs.YtmdpjahhhfajaaaGreatDoor
theorem qual_sz {s : ByteArray} (hq : qualB s = true) : s.size ≤ 49 := by
 rcases dot_cases s with hd | ⟨i, hd, hi⟩
 ·rw [qualB_no hd] at hq
  have := nameB_all hq
  omega
 ·rw [qualB_at hd, Bool.and_eq_true] at hq
  have ha := nameB_all hq.1
  have hb := nameB_all hq.2
  have s1 : (s.extract 0 i).size = i := by rw [size_extract (by omega) (by omega)]; omega
  have s2 : (s.extract (i + 1) s.size).size = s.size - (i + 1) := size_extract (by omega) (Nat.le_refl _)
  omega
theorem valN_cut (l : List Nd) : valN (l.take 257) = valN l := by
 unfold valN
 by_cases c : 256 < l.length
 ·rw [if_pos c, if_pos (by rw [List.length_take]; omega)]
 ·rw [List.take_of_length_le (by omega)]
theorem dec_le11 (n : Nat) (h : n ≤ 1073741824) : (Lib.decDigits n).length ≤ 10 := by
 rw [Lib.decDigits_length]
 exact nDigits_le 9 n (by have : (10 : Nat) ^ (9 + 1) = 10000000000 := rfl; omega)
theorem valid_cases8 {v : V} (h : validB v.k v.n v.s = true) :
  (v.k = 0 ∧ v.n = 0 ∧ v.s = ⟨#[]⟩) ∨ (v.k = 1 ∧ (v.n = 0 ∨ v.n = 1) ∧ v.s = ⟨#[]⟩) ∨ (v.k = 2 ∧ -1073741824 ≤ v.n ∧ v.n ≤ 1073741824 ∧ v.s = ⟨#[]⟩) ∨ (v.k = 3 ∧ v.n = 0 ∧ v.s.size ≤ 64) ∨ (v.k = 4 ∧ 0 ≤ v.n ∧ v.n ≤ 575999999 ∧ v.s = ⟨#[]⟩) := by
 have he : v.s.toList.isEmpty = true → v.s = ⟨#[]⟩ := fun h => by
  have h1 : v.s.toList = [] := by simpa using h
  rw [toList_bts] at h1
  exact ext_bts h1
 unfold validB at h
 simp only [Bool.or_eq_true, Bool.and_eq_true, decide_eq_true_eq] at h
 rcases h with (((⟨⟨a, b⟩, c⟩ | ⟨⟨a, b⟩, c⟩) | ⟨⟨⟨a, b⟩, b2⟩, c⟩) | ⟨⟨a, b⟩, c⟩) | ⟨⟨⟨a, b⟩, b2⟩, c⟩
 ·exact .inl ⟨a, b, he c⟩
 ·exact .inr (.inl ⟨a, b, he c⟩)
 ·exact .inr (.inr (.inl ⟨a, b, b2, he c⟩))
 ·exact .inr (.inr (.inr (.inl ⟨a, b, c⟩)))
 ·exact .inr (.inr (.inr (.inr ⟨a, b, b2, he c⟩)))
theorem cstP_len {v : V} (h : validB v.k v.n v.s = true) : (cstP v).tx.length ≤ 200 := by
 unfold cstP
 rcases valid_cases8 h with ⟨a, _⟩ | ⟨a, _⟩ | ⟨a, b, c, _⟩ | ⟨a, _, c⟩ | ⟨a, _⟩
 ·rw [a, if_neg (by decide), if_neg (by decide), if_neg (by decide), if_neg (by decide)]; decide
 ·rw [a, if_pos rfl]
  by_cases h1 : v.n = 1
  ·rw [if_pos h1]; decide
  ·rw [if_neg h1]; decide
 ·rw [a, if_neg (by decide), if_pos rfl]
  by_cases h1 : v.n < 0
  ·rw [if_pos h1]
   have := dec_le11 (-v.n).toNat (by omega)
   simp only [List.length_cons]
   omega
  ·rw [if_neg h1]
   have := dec_le11 v.n.toNat (by omega)
   simp only
   omega
 ·rw [a, if_neg (by decide), if_neg (by decide), if_pos rfl]
  have := dbl_length_le (bts v.s)
  rw [bts_length] at this
  simp only [List.length_cons, List.length_append, List.length_nil]
  omega
 ·rw [a, if_neg (by decide), if_neg (by decide), if_neg (by decide), if_pos rfl]
  have := timL_len v.n
  simp only [List.length_cons]
  omega
theorem binP_word (op : Int) : (bts (binP op).1).length ≤ 3 := by
 unfold binP
 repeat' split
 all_goals decide
theorem nodP_len {t : Nd} (h : nodB t = true) {xs : List Pc} (hx : (xs.length : Int) = arN t) : (nodP t xs).tx.length ≤ totP xs + 200 := by
 have hnm : qualB t.nm = true → (bts t.nm).length ≤ 49 := fun h => by rw [bts_length]; exact qual_sz h
 unfold nodB at h
 unfold nodP
 by_cases h0 : t.op = 0
 ·rw [if_pos h0] at h ⊢
  rw [Bool.and_eq_true] at h
  have := cstP_len h.1
  omega
 rw [if_neg h0] at h ⊢
 by_cases h1 : t.op = 1
 ·rw [if_pos h1] at h ⊢
  simp only [Bool.and_eq_true, colB] at h
  have := (nameB_all h.2.2.1).2.1
  simp only [bts_length]
  omega
 rw [if_neg h1] at h ⊢
 by_cases h2 : t.op = 2
 ·rw [if_pos h2]
  have a1 := encL_len (xs.getD 0 noPc) 2
  have a2 := totP_getD xs 0
  have a3 : (bts notS).length = 3 := by decide
  simp only [List.length_append, List.length_cons]
  omega
 rw [if_neg h2]
 by_cases h3 : t.op = 3
 ·rw [if_pos h3]
  have a1 := encL_len (xs.getD 0 noPc) 7
  have a2 := totP_getD xs 0
  by_cases hi : (xs.getD 0 noPc).ig = true
  ·rw [if_pos hi]
   simp only [List.length_append, List.length_cons, List.length_nil]
   omega
  ·rw [if_neg hi]
   simp only [List.length_cons]
   omega
 rw [if_neg h3]
 by_cases hb : 4 ≤ t.op ∧ t.op ≤ 15
 ·rw [if_pos hb]
  have ha : arN t = 2 := by
   unfold arN
   rw [if_neg (by omega), if_neg (by omega), if_neg (by omega), if_neg (by omega), if_pos (by omega)]
  have a0 := binP_word t.op
  have a1 := encL_len (xs.getD 0 noPc) (binP t.op).2.2.1
  have a2 := encL_len (xs.getD 1 noPc) (binP t.op).2.2.2
  have a3 := tot2 xs (by omega)
  simp only [List.length_append, List.length_cons]
  omega
 rw [if_neg hb]
 have hfn : (bts (fnS t)).length ≤ 49 ∧ (t.op = 20 → (bts t.nm).length ≤ 49) := by
  by_cases h20 : t.op = 20
  ·rw [if_pos h20] at h
   simp only [Bool.and_eq_true, refB] at h
   refine ⟨?_, fun _ => hnm h.2.2.1⟩
   unfold fnS
   rw [if_neg (by omega), if_neg (by omega), if_neg (by omega), if_neg (by omega), if_pos h20]
   decide
  ·refine ⟨?_, fun h => absurd h h20⟩
   rw [if_neg h20] at h
   unfold fnS
   by_cases c1 : t.op = 17
   ·rw [if_pos c1]; decide
   rw [if_neg c1]
   by_cases c2 : t.op = 18
   ·rw [if_pos c2]; decide
   rw [if_neg c2]
   by_cases c3 : t.op = 16
   ·rw [if_pos c3]; decide
   rw [if_neg c3]
   by_cases c4 : t.op = 19
   ·rw [if_pos c4]; decide
   rw [if_neg c4, if_neg h20]
   by_cases h21 : t.op = 21
   ·rw [if_pos h21] at h
    simp only [Bool.and_eq_true, refB] at h
    exact hnm h.2.2.2.1.1
   ·rw [if_neg h21] at h
    simp only [Bool.and_eq_true, decide_eq_true_eq] at h
    have h4 := h.1
    unfold arN at h4
    rw [if_neg h21, if_neg (by omega), if_neg (by omega), if_neg (by omega), if_neg (by omega)] at h4
    omega
 have hal : xs.length ≤ 8 := by
  have h' : nodB t = true := by
   unfold nodB
   rw [if_neg h0, if_neg h1]
   exact h
  have := nodB_ar h'
  omega
 have hc := comL_len (xs.map (·.tx) ++ if t.op = 20 then [bts t.nm] else [])
 have hm : ((xs.map (·.tx)).map List.length).sum = totP xs := by unfold totP; rw [List.map_map]; rfl
 by_cases h20 : t.op = 20
 ·rw [if_pos h20] at hc ⊢
  have := hfn.2 h20
  simp only [List.map_append, List.sum_append, hm, List.length_append, List.length_map, List.map_cons, List.map_nil, List.sum_cons, List.sum_nil, List.length_cons, List.length_nil] at hc ⊢
  omega
 ·rw [if_neg h20] at hc ⊢
  simp only [List.append_nil, hm, List.length_append, List.length_map, List.length_cons, List.length_nil] at hc ⊢
  omega
theorem take_take_app {α : Type} (k : Nat) (a b : List α) : (a.take k ++ b).take k = (a ++ b).take k := by
 rw [List.take_append, List.take_append, List.take_take, Nat.min_self, List.length_take]
 by_cases h : a.length ≤ k
 ·rw [Nat.min_eq_right h]
 ·rw [Nat.min_eq_left (by omega), Nat.sub_self, show k - a.length = 0 by omega]
theorem take_app_take {α : Type} (k : Nat) (a b : List α) : (a ++ b.take k).take k = (a ++ b).take k := by
 rw [List.take_append, List.take_append, List.take_take]
 congr 2
 omega
theorem cut_flat {α : Type} (k : Nat) (ls : List (List α)) (t : List α) : ((ls.map (·.take k)).flatten ++ t).take k = (ls.flatten ++ t).take k := by
 induction ls with
 | nil => rfl
 | cons x ls ih =>
  rw [List.map_cons, List.flatten_cons, List.flatten_cons, List.append_assoc, List.append_assoc, take_take_app, ← take_app_take, ih, take_app_take]
end Wh
