/-
  Number, Quote, Moment and written, of the reference. · The texts of expressions, plainly. No program's functions. · The texts of times: Parse reads them again; they are ordered as the times are.
-/
import Derived.Test.YtmdpjahhhfajaaaGreatDoorJA09
import Derived.Test.YtmdpjahhhfajaaaGreatDoorJA06
import Derived.Test.YtmdpjahhhfajaaaGreatDoorJA24
import Derived.Test.YtmdpjahhhfajaaaGreatDoorJA12
import Derived.Test.YtmdpjahhhfajaaaGreatDoorJA04
set_option linter.unusedVariables false
set_option maxRecDepth 100000
namespace Wh
open Go Go.Proofs.YtmdpjahhhfajaaaGreatDoor

theorem decDigits_step (x : Nat) : Lib.decDigits x = if x / 10 = 0 then [dig x] else Lib.decDigits (x / 10) ++ [dig x] := by
  by_cases h : x < 10
  · rw [Lib.decDigits, dif_pos h, if_pos (by omega)]
    unfold dig
    rw [Nat.mod_eq_of_lt h]
  · rw [Lib.decDigits, dif_neg h, if_neg (by omega)]
    rfl
/-- The digits that are left, and those that are written. -/
def numR (x : Nat) (l : List UInt8) : List UInt8 := if x = 0 then l else Lib.decDigits x ++ l
theorem numR_start (n : Nat) : numR (n / 10) [dig n] = Lib.decDigits n := by
  rw [decDigits_step n]
  unfold numR
  rfl
theorem numR_step {x : Nat} (h : 0 < x) (l : List UInt8) : numR x l = numR (x / 10) (dig x :: l) := by
  unfold numR
  rw [if_neg (by omega), decDigits_step x]
  by_cases h1 : x / 10 = 0
  · rw [if_pos h1, if_pos h1]; rfl
  · rw [if_neg h1, if_neg h1, List.append_assoc]; rfl
theorem numR_len {n x : Nat} {l : List UInt8} (h : numR x l = Lib.decDigits n) (hn : n ≤ 1073741824) : l.length ≤ 1073741825 := by
  have h1 : ∀ m, Lib.nDigits m ≤ m + 1 := by
    intro m
    induction m using Nat.strongRecOn with
    | _ m ih =>
      by_cases h : m < 10
      · rw [Lib.nDigits_small h]; omega
      · rw [Lib.nDigits_big h]
        have := ih (m / 10) (by omega)
        omega
  have h2 := h1 n
  rw [← Lib.decDigits_length, ← h] at h2
  unfold numR at h2
  split at h2
  · omega
  · rw [List.length_append] at h2; omega
theorem dbl_push (l : List UInt8) (x : UInt8) : dbl (l ++ [x]) = dbl l ++ (if x = 39 then [39, 39] else [x]) := by
  induction l with
  | nil => unfold dbl; split <;> simp_all [dbl]
  | cons y l ih =>
    rw [List.cons_append]
    unfold dbl
    rw [ih]
    split <;> simp
theorem dbl_take {s : ByteArray} {k : Nat} {x : UInt8} (h : (bts s)[k]? = some x) : dbl ((bts s).take (k + 1)) = dbl ((bts s).take k) ++ (if x = 39 then [39, 39] else [x]) := by
  rw [List.take_add_one, h]
  exact dbl_push _ _
theorem str_append (a b : List UInt8) {t : ByteArray} (h : t = ⟨b.toArray⟩) : (⟨a.toArray⟩ : ByteArray) ++ t = ⟨(a ++ b).toArray⟩ := by
  subst h
  exact ba_append a b
theorem mk_bts (s : ByteArray) : (⟨(bts s).toArray⟩ : ByteArray) = s := by
  apply ByteArray.ext
  show (bts s).toArray = s.data
  unfold bts
  simp

end Wh
namespace Go.Proofs.YtmdpjahhhfajaaaGreatDoor
open Go.RowKit Wh

set_option maxHeartbeats 1000000 in
theorem number7_any (n : Nat) (hn : n ≤ 1073741824) (w : World) : Calls Tryz.prog 80 #[.int .i64 n] w (IsStr (Lib.decDigits n) w) := by
  have CV := Lib.hid (fun (W : World) (x : Nat) => conv_str (W := W.alloc (.cells #[.int .u8 (48 + (x : Int) % 10)] 5)) (b := W.heap.size) (off := 0) (c := 1) (y := 1) (l := [dig x]) rfl (fun j y hj => by
    cases j with
    | zero =>
      simp only [List.getElem?_cons_zero, Option.some.injEq] at hj
      subst hj
      rw [dig_nat]
      simp
    | succ j => simp at hj))
  have hcv := CV.out w n
  go_enter Tryz.func80, Tryz.ntmps80
  go_wp2_with fail
  clear hcv
  go_loopw [0, 3] (fun nv sv wr => ∃ (x : Nat) (l : List UInt8), x ≤ 1073741824 ∧ nv = .int .i64 x ∧ sv = .string ⟨l.toArray⟩ ∧ Hid (numR x l = Lib.decDigits n) ∧ Below w.heap.size w wr) (fun nv _ _ => (intOf nv).toNat)
  case atStart => exact ⟨n / 10, [dig n], by omega, by go_num, rfl, numR_start n, (Below.refl _ _).alloc (Nat.le_refl _) _⟩
  case round =>
    obtain ⟨x, l, hx, rfl, rfl, HD, hbel⟩ := hrel
    have hl := numR_len HD.out hn
    have hs := hbel.size
    by_cases hlt : 0 < x
    · have hcv := CV.out wr x
      have HD2 := Lib.hid ((numR_step hlt l).symm.trans HD.out)
      have hsz : ¬ (9223372036854775807 < (⟨#[dig x]⟩ : ByteArray).size + (⟨l.toArray⟩ : ByteArray).size) := by
        show ¬ (9223372036854775807 < 1 + l.toArray.size)
        simp
        omega
      have HT : Hid ((⟨#[dig x]⟩ : ByteArray) ++ ⟨l.toArray⟩ = ⟨(dig x :: l).toArray⟩) := ba_append [dig x] l
      clear HD
      generalize (⟨l.toArray⟩ : ByteArray) = t0 at *
      go_wp2_with fail
      go_roundw
      case rel => exact ⟨x / 10, dig x :: l, by omega, by go_num, by rw [← HT.out], HD2, hbel.alloc hs _⟩
      case measure => simp [intOf]; omega
    · obtain rfl : x = 0 := by omega
      go_wp2_with fail
      go_ret
      rw [← show l = Lib.decDigits n from HD.out]
      exact ⟨rfl, hbel⟩

set_option maxHeartbeats 2000000 in
theorem quote_any (s : ByteArray) (hs : s.size ≤ 1000000) (w : World) : Calls Tryz.prog 81 #[.string s] w (IsStr (39 :: (dbl (bts s) ++ [39])) w) := by
  obtain ⟨i0, hi, hz0, hz1, hz2⟩ := info_parts info_u8
  go_enter Tryz.func81, Tryz.ntmps81
  go_wp2_with fail
  go_loopw [3, 4] (fun bv iv wr => ∃ (k : Nat) (l : List UInt8), k ≤ s.size ∧ iv = .int .i64 k ∧ wr.ownsRow w.heap.size 5 1 bv l.length (byC l) ∧ l.length ≤ 1 + 2 * k ∧ Hid (l = 39 :: dbl ((bts s).take k)) ∧ Below w.heap.size w wr) (fun _ iv _ => s.size - (intOf iv).toNat)
  case atStart => exact ⟨0, [39], Nat.zero_le _, rfl, World.ownsRow_lit w #[.int .u8 39] 1 (Nat.le_refl _) (by unfold maxLen; omega) rfl, by simp, by show _ = _; simp [dbl], (Below.refl _ _).alloc (Nat.le_refl _) _⟩
  case round =>
    obtain ⟨k, l, hk, rfl, hown, hln, HL, hbel⟩ := hrel
    have hs9 := hbel.size
    by_cases hlt : k < s.size
    · have ix := fun W => index_str s k hlt W
      obtain ⟨x, hx⟩ := bts_at hlt
      have hbx := btN_of hx
      have HD := Lib.hid (dbl_take hx)
      by_cases h39 : x = 39
      · subst h39
        have HL2 : Hid ((l ++ [39]) ++ [39] = 39 :: dbl ((bts s).take (k + 1))) := by
          show _ = _
          rw [HD.out, HL.out, if_pos rfl]
          simp
        rw [hbx] at ix
        have ix2 : ∀ W, (Instr.index 9 (.string s) (.int .i64 k)).run Tryz.prog W = .ok (.int .u8 39) W := fun W => ix W
        clear HD HL hx hbx ix
        go_wp2_with (at_builtin; refine wpList_append_lies _ rfl _ _ 127 rfl w.heap.size 5 i0 _ 1 1 Tryz.underlying127 hi hz0 hz1 hz2 rfl (by decide) _ _ _ rfl (hown.alloc _) ⟨wr.heap.size, 0, none⟩ 1 1 [.int .u8 39] rfl rfl (by have h := heap_alloc_new wr (.cells #[.int .u8 39] 5); exact World.news_of_block (cs := #[.int .u8 39]) (t := 5) (fr := (0, 0)) h) (by simp [Value.oneCell']) (by omega) (by unfold maxLen; omega) (by omega) (by simp; omega) (wr.heap.size + 1) (by simp) ?_)
        intro gg cc w9 hown9 hgrow9 hat9 hlt9
        have hB9 := (hbel.alloc (by omega) _).grown hgrow9 (by simp; omega) (fun j hj => (hown.lt j hj).1)
        have hs99 := hB9.size
        have hO9 : w9.ownsRow w.heap.size 5 1 (.slice (some ⟨gg, 0, none⟩) (l.length + 1) cc) (l.length + 1) (byC (l ++ [39])) := by
          rw [← byC_push l 39 39 rfl]
          exact hown9
        clear hown9 hgrow9 hat9 hlt9 hown
        go_wp2_with (at_builtin; refine wpList_append_lies _ rfl _ _ 127 rfl w.heap.size 5 i0 _ 1 1 Tryz.underlying127 hi hz0 hz1 hz2 rfl (by decide) _ _ _ rfl (hO9.alloc _) ⟨w9.heap.size, 0, none⟩ 1 1 [.int .u8 39] rfl rfl (by have h := heap_alloc_new w9 (.cells #[.int .u8 39] 5); exact World.news_of_block (cs := #[.int .u8 39]) (t := 5) (fr := (0, 0)) h) (by simp [Value.oneCell']) (by omega) (by unfold maxLen; omega) (by omega) (by simp; omega) (w9.heap.size + 1) (by simp) ?_)
        intro g2 c2 w8 hown8 hgrow8 hat8 hlt8
        have hB8 := (hB9.alloc (by omega) _).grown hgrow8 (by simp; omega) (fun j hj => (hO9.lt j hj).1)
        have hO8 : w8.ownsRow w.heap.size 5 1 (.slice (some ⟨g2, 0, none⟩) (l.length + 1 + 1) c2) (l.length + 1 + 1) (byC ((l ++ [39]) ++ [39])) := by
          rw [← byC_push (l ++ [39]) 39 39 rfl]
          exact hown8
        clear hown8 hgrow8 hat8 hlt8 hO9 hB9
        go_wp2_with fail
        go_roundw
        case rel => exact ⟨k + 1, (l ++ [39]) ++ [39], by omega, by go_num, by rw [List.length_append, List.length_append]; exact hO8, by simp; omega, HL2, hB8⟩
        case measure => simp [intOf]; omega
      · have HL2 : Hid (l ++ [x] = 39 :: dbl ((bts s).take (k + 1))) := by
          show _ = _
          rw [HD.out, HL.out, if_neg h39]
          simp
        rw [hbx] at ix
        have hne : ((x.toNat : Int) == 39) = false := by
          have : ¬ x.toNat = 39 := fun h => h39 (UInt8.toNat_inj.1 h)
          simp
          omega
        clear HD HL hx hbx h39
        have HP := Lib.hid (byC_push l x x.toNat rfl)
        generalize (x.toNat : Int) = c at *
        go_wp2_with (at_builtin; refine wpList_append_lies _ rfl _ _ 127 rfl w.heap.size 5 i0 _ 1 1 Tryz.underlying127 hi hz0 hz1 hz2 rfl (by decide) _ _ _ rfl (hown.alloc _) ⟨wr.heap.size, 0, none⟩ 1 1 [.int .u8 c] rfl rfl (by have h := heap_alloc_new wr (.cells #[.int .u8 c] 5); exact World.news_of_block (cs := #[.int .u8 c]) (t := 5) (fr := (0, 0)) h) (by simp [Value.oneCell']) (by omega) (by unfold maxLen; omega) (by omega) (by simp; omega) (wr.heap.size + 1) (by simp) ?_)
        intro gg cc w9 hown9 hgrow9 hat9 hlt9
        have hB9 := (hbel.alloc (by omega) _).grown hgrow9 (by simp; omega) (fun j hj => (hown.lt j hj).1)
        rw [HP.out] at hown9
        clear hgrow9 hat9 hlt9 hown
        go_wp2_with fail
        go_roundw
        case rel => exact ⟨k + 1, l ++ [x], by omega, by go_num, by rw [List.length_append]; exact hown9, by simp; omega, HL2, hB9⟩
        case measure => simp [intOf]; omega
    · obtain rfl : k = s.size := by omega
      have HL2 : Hid (l ++ [39] = 39 :: (dbl (bts s) ++ [39])) := by
        show _ = _
        have := HL.out
        rw [List.take_of_length_le (by rw [bts_length]; exact Nat.le_refl _)] at this
        rw [this]
        rfl
      clear HL
      go_wp2_with (at_builtin; refine wpList_append_lies _ rfl _ _ 127 rfl w.heap.size 5 i0 _ 1 1 Tryz.underlying127 hi hz0 hz1 hz2 rfl (by decide) _ _ _ rfl (hown.alloc _) ⟨wr.heap.size, 0, none⟩ 1 1 [.int .u8 39] rfl rfl (by have h := heap_alloc_new wr (.cells #[.int .u8 39] 5); exact World.news_of_block (cs := #[.int .u8 39]) (t := 5) (fr := (0, 0)) h) (by simp [Value.oneCell']) (by omega) (by unfold maxLen; omega) (by omega) (by simp; omega) (wr.heap.size + 1) (by simp) ?_)
      intro gg cc w9 hown9 hgrow9 hat9 hlt9
      have hB9 := (hbel.alloc (by omega) _).grown hgrow9 (by simp; omega) (fun j hj => (hown.lt j hj).1)
      rw [byC_push l 39 39 rfl] at hown9
      have hcv := conv_own hown9 (by simp)
      have HCV := Lib.hid hB9
      clear hown9 hgrow9 hat9 hlt9 hown hB9
      go_wp2_with fail
      go_ret
      rw [← HL2.out]
      exact ⟨rfl, HCV.out⟩

set_option maxHeartbeats 1000000 in
theorem moment7_any (y : Int) (k : Nat) (d : Int) (t : Nat) (hd : Dt y k d) (ht : t < 1440) (hn : dayZ y k d ≤ 399999) (w : World) :
    Calls Tryz.prog 82 #[.int .i64 (dayZ y k d * 1440 + (t : Int))] w (IsStr (64 :: fmtL y k d t) w) := by
  have C := Lib.hid (rformat_any y k d t hd ht hn w)
  have hl := fmtL_length y k d t
  have HT : Hid ((⟨#[64]⟩ : ByteArray) ++ ⟨(fmtL y k d t).toArray⟩ = ⟨(64 :: fmtL y k d t).toArray⟩) := ba_append [64] _
  have hsz : ¬ (9223372036854775807 < (⟨#[64]⟩ : ByteArray).size + (⟨(fmtL y k d t).toArray⟩ : ByteArray).size) := by
    show ¬ (9223372036854775807 < 1 + (fmtL y k d t).toArray.size)
    simp
    omega
  unfold IsTxt at C
  unfold IsStr
  rw [← HT.out]
  generalize (⟨(fmtL y k d t).toArray⟩ : ByteArray) = tx at *
  generalize dayZ y k d * 1440 + (t : Int) = m at *
  clear hd ht hn hl
  go_enter Tryz.func82, Tryz.ntmps82
  go_wp2_with fail
  refine C.out.mono ?_
  rintro e w1 ⟨rfl, hb⟩
  go_wp2_with fail
  go_ret
  exact ⟨rfl, hb⟩

end Go.Proofs.YtmdpjahhhfajaaaGreatDoor
set_option linter.unusedVariables false
set_option linter.unusedSimpArgs false
set_option maxRecDepth 100000
namespace Wh
open Go Go.Proofs.YtmdpjahhhfajaaaGreatDoor

/-- A text with its level, and whether it is an integer constant. -/
structure Pc where
  tx : List UInt8
  lv : Int
  ig : Bool
def noPc : Pc := ⟨[], 0, false⟩

theorem time_ex (n : Int) : ∃ l : List UInt8, (0 ≤ n → n ≤ 575999999 → ∃ (y : Int) (k : Nat) (d : Int) (t : Nat), Dt y k d ∧ t < 1440 ∧ dayZ y k d ≤ 399999 ∧ n = dayZ y k d * 1440 + t ∧ l = fmtL y k d t) ∧ l.length ≤ 16 := by
  by_cases h : 0 ≤ n ∧ n ≤ 575999999
  · obtain ⟨y, k, d, t, a, b, c, e⟩ := time_of h.1 h.2
    exact ⟨fmtL y k d t, fun _ _ => ⟨y, k, d, t, a, b, c, e, rfl⟩, by rw [fmtL_length]; exact Nat.le_refl _⟩
  · exact ⟨[], fun a b => absurd ⟨a, b⟩ h, by simp⟩
/-- The text of a time. -/
noncomputable def timL (n : Int) : List UInt8 := Classical.choose (time_ex n)
theorem timL_of {n : Int} (h0 : 0 ≤ n) (h1 : n ≤ 575999999) : ∃ (y : Int) (k : Nat) (d : Int) (t : Nat), Dt y k d ∧ t < 1440 ∧ dayZ y k d ≤ 399999 ∧ n = dayZ y k d * 1440 + t ∧ timL n = fmtL y k d t :=
  (Classical.choose_spec (time_ex n)).1 h0 h1
theorem timL_len (n : Int) : (timL n).length ≤ 16 := (Classical.choose_spec (time_ex n)).2

/-- The text at a place that needs a level. -/
def encL (x : Pc) (l : Int) : List UInt8 := if x.lv < l then 40 :: (x.tx ++ [41]) else x.tx
/-- A constant. -/
noncomputable def cstP (v : V) : Pc :=
  if v.k = 1 then ⟨if v.n = 1 then bts truS else bts falS, 8, false⟩
  else if v.k = 2 then (if v.n < 0 then ⟨45 :: Lib.decDigits (-v.n).toNat, 7, true⟩ else ⟨Lib.decDigits v.n.toNat, 8, true⟩)
  else if v.k = 3 then ⟨39 :: (dbl (bts v.s) ++ [39]), 8, false⟩
  else if v.k = 4 then ⟨64 :: timL v.n, 8, false⟩
  else ⟨bts nulS, 8, false⟩
/-- A binary operator: its word, its level, those of its operands. -/
def binP (op : Int) : ByteArray × Int × Int × Int :=
  if op = 4 then (⟨#[43]⟩, 5, 5, 6) else if op = 5 then (minS, 5, 5, 6)
  else if op = 6 then (⟨#[42]⟩, 6, 6, 7) else if op = 7 then (⟨#[47]⟩, 6, 6, 7) else if op = 8 then (⟨#[37]⟩, 6, 6, 7)
  else if op = 9 then (⟨#[43, 43]⟩, 4, 4, 5) else if op = 14 then (andS, 1, 1, 2) else if op = 15 then (orS, 0, 0, 1)
  else if op = 10 then (⟨#[61]⟩, 3, 4, 4) else if op = 11 then (⟨#[33, 61]⟩, 3, 4, 4) else if op = 12 then (⟨#[60]⟩, 3, 4, 4) else (⟨#[60, 61]⟩, 3, 4, 4)
/-- A called function's name. -/
def fnS (t : Nd) : ByteArray :=
  if t.op = 17 then ⟨#[105, 102]⟩ else if t.op = 18 then ⟨#[99, 111, 97, 108, 101, 115, 99, 101]⟩ else if t.op = 16 then ⟨#[105, 115, 110, 117, 108, 108]⟩ else if t.op = 19 then ⟨#[108, 101, 110, 103, 116, 104]⟩ else if t.op = 20 then dayS else t.nm
/-- Texts with commas between them. -/
def comL (ls : List (List UInt8)) : List UInt8 := Lib.join ls [44, 32]
/-- The text of a node with its operands. -/
noncomputable def nodP (t : Nd) (xs : List Pc) : Pc :=
  if t.op = 0 then cstP t.v
  else if t.op = 1 then ⟨bts t.nm, 8, false⟩
  else if t.op = 2 then ⟨bts notS ++ 32 :: encL (xs.getD 0 noPc) 2, 2, false⟩
  else if t.op = 3 then ⟨45 :: (if (xs.getD 0 noPc).ig = true then 40 :: ((xs.getD 0 noPc).tx ++ [41]) else encL (xs.getD 0 noPc) 7), 7, false⟩
  else if 4 ≤ t.op ∧ t.op ≤ 15 then ⟨encL (xs.getD 0 noPc) (binP t.op).2.2.1 ++ 32 :: (bts (binP t.op).1 ++ 32 :: encL (xs.getD 1 noPc) (binP t.op).2.2.2), (binP t.op).2.1, false⟩
  else ⟨bts (fnS t) ++ 40 :: (comL (xs.map (·.tx) ++ if t.op = 20 then [bts t.nm] else []) ++ [41]), 8, false⟩
/-- The texts of a list of nodes over a stack of texts. -/
noncomputable def fmtS : List Nd → List Pc → List Pc
  | [], st => st
  | t :: l, st => fmtS l (st.take (st.length - (arN t).toNat) ++ [nodP t (st.drop (st.length - (arN t).toNat))])
/-- The text of a list of nodes. -/
noncomputable def fmtE (l : List Nd) : List UInt8 := ((fmtS l []).getD 0 noPc).tx

/-- How much a stack of texts takes. -/
def totP (st : List Pc) : Nat := (st.map fun x => x.tx.length).sum
theorem totP_app (a b : List Pc) : totP (a ++ b) = totP a + totP b := by unfold totP; simp
theorem totP_mem {st : List Pc} {x : Pc} (h : x ∈ st) : x.tx.length ≤ totP st := by
  unfold totP
  induction st with
  | nil => cases h
  | cons y st ih =>
    rw [List.map_cons, List.sum_cons]
    rcases List.mem_cons.1 h with rfl | h
    · omega
    · have := ih h; omega
theorem totP_getD (st : List Pc) (i : Nat) : (st.getD i noPc).tx.length ≤ totP st := by
  rw [List.getD_eq_getElem?_getD]
  cases h : st[i]? with
  | none => exact Nat.zero_le _
  | some x => exact totP_mem (List.mem_of_getElem? h)
theorem encL_len (x : Pc) (l : Int) : (encL x l).length ≤ x.tx.length + 2 := by
  unfold encL
  split <;> simp
theorem tot2 (st : List Pc) (h : 2 ≤ st.length) : (st.getD 0 noPc).tx.length + (st.getD 1 noPc).tx.length ≤ totP st := by
  match st, h with
  | a :: b :: st, _ =>
    unfold totP
    simp only [List.getD_cons_zero, List.getD_cons_succ, List.map_cons, List.sum_cons]
    omega
theorem comL_len (ls : List (List UInt8)) : (comL ls).length ≤ (ls.map List.length).sum + 2 * ls.length := by
  unfold comL
  cases ls with
  | nil => simp [Lib.join_nil]
  | cons x ls =>
    have : ∀ (ls : List (List UInt8)), (Lib.joinTail [44, 32] ls).length = (ls.map List.length).sum + 2 * ls.length := by
      intro ls
      unfold Lib.joinTail
      induction ls with
      | nil => rfl
      | cons y ls ih =>
        simp only [List.map_cons, List.flatten_cons, List.length_append, ih, List.sum_cons, List.length_cons, List.length_nil]
        omega
    rw [Lib.join_cons]
    simp only [List.length_append, this, List.map_cons, List.sum_cons, List.length_cons]
    omega

end Wh
set_option linter.unusedVariables false
namespace Wh
open Go

/-! The order of bytes. -/

theorem less_irrefl : ∀ a : List UInt8, Op.bytesLess a a = false
  | [] => rfl
  | x :: a => by
    unfold Op.bytesLess
    rw [less_irrefl a]
    simp [UInt8.lt_irrefl]

theorem less_asymm : ∀ a b : List UInt8, Op.bytesLess a b = true → Op.bytesLess b a = false
  | [], [], h => by cases h
  | _ :: _, [], h => by cases h
  | [], _ :: _, _ => rfl
  | x :: a, y :: b, h => by
    unfold Op.bytesLess at h ⊢
    simp only [Bool.or_eq_true, decide_eq_true_eq, Bool.and_eq_true, beq_iff_eq] at h
    rcases h with h | ⟨rfl, h⟩
    · have h2 : ¬ y < x := UInt8.lt_asymm h
      have h3 : (y == x) = false := beq_eq_false_iff_ne.2 (fun e => by subst e; exact UInt8.lt_irrefl _ h)
      rw [decide_eq_false h2, h3]
      rfl
    · rw [less_asymm a b h]
      simp [UInt8.lt_irrefl]

theorem less_same (p a b : List UInt8) : Op.bytesLess (p ++ a) (p ++ b) = Op.bytesLess a b := by
  induction p with
  | nil => rfl
  | cons x p ih =>
    show (decide (x < x) || (x == x && Op.bytesLess (p ++ a) (p ++ b))) = _
    rw [ih]
    simp [UInt8.lt_irrefl]

theorem less_front : ∀ (a b r s : List UInt8), a.length = b.length → Op.bytesLess a b = true → Op.bytesLess (a ++ r) (b ++ s) = true
  | [], [], _, _, _, h => by cases h
  | [], _ :: _, _, _, h, _ => by simp at h
  | _ :: _, [], _, _, h, _ => by simp at h
  | x :: a, y :: b, r, s, hl, h => by
    unfold Op.bytesLess at h
    show (decide (x < y) || (x == y && Op.bytesLess (a ++ r) (b ++ s))) = true
    simp only [Bool.or_eq_true, decide_eq_true_eq, Bool.and_eq_true] at h ⊢
    rcases h with h | ⟨h1, h2⟩
    · exact .inl h
    · exact .inr ⟨h1, less_front a b r s (by simpa using hl) h2⟩

theorem digs_less : ∀ (k m n : Nat), m < n → n < 10 ^ k → Op.bytesLess (digs k m) (digs k n) = true
  | 0, m, n, h, h2 => by simp at h2; omega
  | k + 1, m, n, h, h2 => by
    have h3 : n / 10 < 10 ^ k := by
      rw [Nat.div_lt_iff_lt_mul (by omega)]
      rw [Nat.pow_succ] at h2
      exact h2
    simp only [digs]
    by_cases e : m / 10 < n / 10
    · exact less_front _ _ _ _ (by rw [digs_length, digs_length]) (digs_less k _ _ e h3)
    · rw [show m / 10 = n / 10 by omega, less_same]
      have : dig m < dig n := by
        rw [UInt8.lt_iff_toNat_lt, dig_nat, dig_nat]
        omega
      show (decide (dig m < dig n) || _) = true
      rw [decide_eq_true this]
      rfl

/-! The order of dates. -/

theorem dayZ_lt_year {y z : Int} {k l : Nat} {d e : Int} (hk : k < 12) (hl : l < 12) (hd : 1 ≤ d) (hd1 : d ≤ lenZ y ((k : Int) + 1)) (he : 1 ≤ e) (he1 : e ≤ lenZ z ((l : Int) + 1)) (h : y < z) : dayZ y k d < dayZ z l e := by
  have a := day_in_year hk hd hd1
  have b := day_in_year hl he he1
  have c := yzZ_mono h
  unfold dayZ
  omega

theorem dayZ_lt_month {y : Int} {k l : Nat} {d e : Int} (hd1 : d ≤ lenZ y ((k : Int) + 1)) (he : 1 ≤ e) (h : k < l) : dayZ y k d < dayZ y l e := by
  have c := msZ_mono y (show k + 1 ≤ l by omega)
  simp only [msZ] at c
  unfold dayZ
  omega

theorem fmt_less {y z : Int} {k l : Nat} {d e : Int} {t u : Nat} (h1 : Dt y k d) (h2 : Dt z l e) (ht : t < 1440) (hu : u < 1440) (h : dayZ y k d * 1440 + (t : Int) < dayZ z l e * 1440 + (u : Int)) :
    Op.bytesLess (fmtL y k d t) (fmtL z l e u) = true := by
  have y0 := h1.y0
  have y9 := h1.year
  have z0 := h2.y0
  have z9 := h2.year
  have k1 := h1.k1
  have l1 := h2.k1
  have d0 := h1.d0
  have e0 := h2.d0
  have d9 : d ≤ 31 := by have := h1.d1; have := lenZ_bd y ((k : Int) + 1); omega
  have e9 : e ≤ 31 := by have := h2.d1; have := lenZ_bd z ((l : Int) + 1); omega
  have hyz : y ≤ z := by
    by_cases c : z < y
    · have := dayZ_lt_year h2.k1 h1.k1 h2.d0 h2.d1 h1.d0 h1.d1 c
      omega
    · omega
  unfold fmtL
  simp only [List.append_assoc]
  by_cases c1 : y < z
  · exact less_front _ _ _ _ (by rw [digs_length, digs_length]) (digs_less 4 _ _ (by omega) (by omega))
  obtain rfl : y = z := by omega
  rw [less_same, less_same]
  have hkl : k ≤ l := by
    by_cases c : l < k
    · have := dayZ_lt_month (y := y) h2.d1 h1.d0 c
      omega
    · omega
  by_cases c2 : k < l
  · exact less_front _ _ _ _ (by rw [digs_length, digs_length]) (digs_less 2 _ _ (by omega) (by omega))
  obtain rfl : k = l := by omega
  rw [less_same, less_same]
  have hde : d ≤ e := by
    unfold dayZ at h
    omega
  by_cases c3 : d < e
  · exact less_front _ _ _ _ (by rw [digs_length, digs_length]) (digs_less 2 _ _ (by omega) (by omega))
  obtain rfl : d = e := by omega
  rw [less_same, less_same]
  have htu : t < u := by omega
  by_cases c4 : t / 60 < u / 60
  · exact less_front _ _ _ _ (by rw [digs_length, digs_length]) (digs_less 2 _ _ (by omega) (by omega))
  rw [show t / 60 = u / 60 by omega, less_same, less_same]
  exact digs_less 2 _ _ (by omega) (by omega)

theorem fmt_order {y z : Int} {k l : Nat} {d e : Int} {t u : Nat} (h1 : Dt y k d) (h2 : Dt z l e) (ht : t < 1440) (hu : u < 1440) :
    Op.bytesLess (fmtL y k d t) (fmtL z l e u) = decide (dayZ y k d * 1440 + (t : Int) < dayZ z l e * 1440 + (u : Int)) := by
  rcases (show dayZ y k d * 1440 + (t : Int) < dayZ z l e * 1440 + (u : Int) ∨ dayZ y k d * 1440 + (t : Int) = dayZ z l e * 1440 + (u : Int) ∨ dayZ z l e * 1440 + (u : Int) < dayZ y k d * 1440 + (t : Int) by omega) with h | h | h
  · rw [fmt_less h1 h2 ht hu h, decide_eq_true h]
  · have he : dayZ y k d = dayZ z l e := by omega
    obtain ⟨rfl, rfl, rfl⟩ := date_one h1.k1 h2.k1 h1.d0 h1.d1 h2.d0 h2.d1 he
    obtain rfl : t = u := by omega
    rw [less_irrefl, decide_eq_false (by omega)]
  · rw [less_asymm _ _ (fmt_less h2 h1 hu ht h), decide_eq_false (by omega)]

/-! Parse reads the text again. -/

theorem fmtL_eq (y : Int) (k : Nat) (d : Int) (t : Nat) : fmtL y k d t =
    [dig (y.toNat / 10 / 10 / 10), dig (y.toNat / 10 / 10), dig (y.toNat / 10), dig y.toNat, 45, dig ((k + 1) / 10), dig (k + 1), 45, dig (d.toNat / 10), dig d.toNat, 84, dig (t / 60 / 10), dig (t / 60), 58, dig (t % 60 / 10), dig (t % 60)] := rfl

theorem parse_fmt {y : Int} {k : Nat} {d : Int} {t : Nat} (h : Dt y k d) (ht : t < 1440) (hn : dayZ y k d ≤ 399999) :
    parseZ ⟨(fmtL y k d t).toArray⟩ = dayZ y k d * 1440 + t ∧ parseE ⟨(fmtL y k d t).toArray⟩ = 0 := by
  have y0 := h.y0
  have y9 := h.year
  have k1 := h.k1
  have d0 := h.d0
  have d9 : d ≤ 31 := by have := h.d1; have := lenZ_bd y ((k : Int) + 1); omega
  have hs : (⟨(fmtL y k d t).toArray⟩ : ByteArray).size = 16 := by rw [← bts_length, bts_mk, fmtL_length]
  have a : ∀ (i : Nat) (x : UInt8), (fmtL y k d t)[i]? = some x → btN ⟨(fmtL y k d t).toArray⟩ i = x.toNat := fun i x hx => btN_of hx
  rw [fmtL_eq] at a hs ⊢
  have b0 := a 0 _ rfl
  have b1 := a 1 _ rfl
  have b2 := a 2 _ rfl
  have b3 := a 3 _ rfl
  have b4 := a 4 _ rfl
  have b5 := a 5 _ rfl
  have b6 := a 6 _ rfl
  have b7 := a 7 _ rfl
  have b8 := a 8 _ rfl
  have b9 := a 9 _ rfl
  have b10 := a 10 _ rfl
  have b11 := a 11 _ rfl
  have b12 := a 12 _ rfl
  have b13 := a 13 _ rfl
  have b14 := a 14 _ rfl
  have b15 := a 15 _ rfl
  clear a
  rw [dig_nat] at b0 b1 b2 b3 b5 b6 b8 b9 b11 b12 b14 b15
  rw [show (45 : UInt8).toNat = 45 from rfl] at b4 b7
  rw [show (84 : UInt8).toNat = 84 from rfl] at b10
  rw [show (58 : UInt8).toNat = 58 from rfl] at b13
  generalize (⟨[dig (y.toNat / 10 / 10 / 10), dig (y.toNat / 10 / 10), dig (y.toNat / 10), dig y.toNat, 45, dig ((k + 1) / 10), dig (k + 1), 45, dig (d.toNat / 10), dig d.toNat, 84, dig (t / 60 / 10), dig (t / 60), 58, dig (t % 60 / 10), dig (t % 60)].toArray⟩ : ByteArray) = s at *
  have hf : formB s = true := by
    refine formB_yes hs fun i hi => ?_
    unfold okAt
    rcases (show i = 0 ∨ i = 1 ∨ i = 2 ∨ i = 3 ∨ i = 4 ∨ i = 5 ∨ i = 6 ∨ i = 7 ∨ i = 8 ∨ i = 9 ∨ i = 10 ∨ i = 11 ∨ i = 12 ∨ i = 13 ∨ i = 14 ∨ i = 15 by omega) with e | e | e | e | e | e | e | e | e | e | e | e | e | e | e | e
    all_goals
      subst e
      simp
      omega
  have n1 : numAt s 0 4 = y := by simp only [numAt, Nat.zero_add, b0, b1, b2, b3]; omega
  have n2 : numAt s 5 2 = (k : Int) + 1 := by simp only [numAt, Nat.reduceAdd, Nat.add_zero, b5, b6]; omega
  have n3 : numAt s 8 2 = d := by simp only [numAt, Nat.reduceAdd, Nat.add_zero, b8, b9]; omega
  have n4 : numAt s 11 2 = ((t / 60 : Nat) : Int) := by simp only [numAt, Nat.reduceAdd, Nat.add_zero, b11, b12]; omega
  have n5 : numAt s 14 2 = ((t % 60 : Nat) : Int) := by simp only [numAt, Nat.reduceAdd, Nat.add_zero, b14, b15]; omega
  obtain ⟨f1, f2⟩ := daysB_of h
  have hm : minZ y ((k : Int) + 1) d ((t / 60 : Nat) : Int) ((t % 60 : Nat) : Int) = dayZ y k d * 1440 + t := by unfold minZ; rw [f2]; omega
  obtain ⟨g1, g2⟩ := part_good (y := y) (mo := (k : Int) + 1) (d := d) (h := ((t / 60 : Nat) : Int)) (mi := ((t % 60 : Nat) : Int)) (by omega) (by omega) f1 (by rw [hm]; omega)
  unfold parseZ parseE
  rw [if_pos hf, if_pos hf, n1, n2, n3, n4, n5]
  exact ⟨g2.trans hm, g1⟩

end Wh
