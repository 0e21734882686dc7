/-
  The tokens of a text, plainly: the token with which a text begins; all · IsName, of schema and of its reference. · IsName of the reference.
-/
import Derived.Test.YtmdpjahhhfajaaaGreatDoorJC01
import Derived.Test.YtmdpjahhhfajaaaGreatDoorJC02
import Derived.Test.YtmdpjahhhfajaaaGreatDoorJC03
import Derived.Laws.RangeAny
set_option linter.unusedVariables false
set_option maxRecDepth 100000
namespace Wh
open Go.Proofs.YtmdpjahhhfajaaaGreatDoor
def litO (s : ByteArray) : Int × List UInt8 × Nat :=
 match litL ((bts s).drop 1) with
 | none => (3, [], 0)
 | some p => if 64 < p.1.length then (2, [], 0) else (0, p.1, p.2 + 1)
def nx (s : ByteArray) : Int × Tk × Nat :=
 if lowB (btN s 0) = true then ((nameT s).2, ⟨1, s.extract 0 (nameT s).1.toNat, 0⟩, (nameT s).1.toNat)
 else if numB (btN s 0) = true then ((intT s).2.2, ⟨2, ⟨#[]⟩, (intT s).1⟩, (intT s).2.1.toNat)
 else if btN s 0 = 39 then ((litO s).1, ⟨3, ⟨(litO s).2.1.toArray⟩, 0⟩, (litO s).2.2)
 else if btN s 0 = 64 then (if s.size < 17 then (3, noT, 0) else (parseE (s.extract 1 17), ⟨4, ⟨#[]⟩, parseZ (s.extract 1 17)⟩, 17))
 else if (symS s).size = 0 then (3, noT, 0) else (0, ⟨5, symS s, 0⟩, (symS s).size)
theorem nx_name {s : ByteArray} (h : lowB (btN s 0) = true) : nx s = ((nameT s).2, ⟨1, s.extract 0 (nameT s).1.toNat, 0⟩, (nameT s).1.toNat) := by unfold nx; rw [if_pos h]
theorem nx_int {s : ByteArray} (h0 : lowB (btN s 0) = false) (h : numB (btN s 0) = true) : nx s = ((intT s).2.2, ⟨2, ⟨#[]⟩, (intT s).1⟩, (intT s).2.1.toNat) := by unfold nx; rw [h0, if_neg (by simp), if_pos h]
theorem nx_lit {s : ByteArray} (h : btN s 0 = 39) : nx s = ((litO s).1, ⟨3, ⟨(litO s).2.1.toArray⟩, 0⟩, (litO s).2.2) := by
 unfold nx
 rw [if_neg (by rw [h]; decide), if_neg (by rw [h]; decide), if_pos h]
theorem nx_time {s : ByteArray} (h : btN s 0 = 64) : nx s = (if s.size < 17 then (3, noT, 0) else (parseE (s.extract 1 17), ⟨4, ⟨#[]⟩, parseZ (s.extract 1 17)⟩, 17)) := by
 unfold nx
 rw [if_neg (by rw [h]; decide), if_neg (by rw [h]; decide), if_neg (by rw [h]; decide), if_pos h]
theorem nx_sym {s : ByteArray} (h0 : lowB (btN s 0) = false) (h1 : numB (btN s 0) = false) (h2 : ¬ btN s 0 = 39) (h3 : ¬ btN s 0 = 64) : nx s = if (symS s).size = 0 then (3, noT, 0) else (0, ⟨5, symS s, 0⟩, (symS s).size) := by
 unfold nx
 rw [h0, h1, if_neg (by simp), if_neg (by simp), if_neg h2, if_neg h3]
theorem spanN_pos {p : Nat → Bool} {s : ByteArray} (h : 0 < s.size) (h0 : p (btN s 0) = true) : 1 ≤ spanN p s := by
 unfold spanN
 obtain ⟨x, hx⟩ := bts_at h
 cases hl : bts s with
 | nil => rw [hl] at hx; cases hx
 | cons y l =>
  rw [btN_of hx] at h0
  rw [hl] at hx
  cases hx
  rw [List.takeWhile_cons, h0]
  simp
theorem nameT_pos {s : ByteArray} (h : 0 < s.size) (h0 : lowB (btN s 0) = true) (he : (nameT s).2 = 0) : 1 ≤ (nameT s).1 ∧ (nameT s).1 ≤ s.size ∧ spanN wordB s ≤ 24 := by
 have h1 := spanN_pos (p := wordB) h (by unfold wordB; rw [h0]; rfl)
 have h2 := spanN_le wordB s
 unfold nameT at he ⊢
 by_cases h24 : 24 < spanN wordB s
 ·rw [if_pos h24] at he; cases he
 ·rw [if_neg h24] at he ⊢
  split at he
  ·rename_i hd
   rw [if_pos hd]
   split at he
   ·cases he
   ·rename_i hk
    rw [if_neg hk]
    have h3 := spanN_le wordB (s.extract (spanN wordB s + 1) s.size)
    rw [size_extract (by omega) (Nat.le_refl _)] at h3
    refine ⟨?_, ?_, by omega⟩
    ·show (1 : Int) ≤ (spanN wordB s : Int) + (1 + (spanN wordB (s.extract (spanN wordB s + 1) s.size) : Int))
     omega
    ·show (spanN wordB s : Int) + (1 + (spanN wordB (s.extract (spanN wordB s + 1) s.size) : Int)) ≤ (s.size : Int)
     omega
  ·rename_i hd
   rw [if_neg hd]
   refine ⟨?_, ?_, by omega⟩
   ·show (1 : Int) ≤ (spanN wordB s : Int); omega
   ·show (spanN wordB s : Int) ≤ (s.size : Int); omega
theorem intT_pos {s : ByteArray} (h : 0 < s.size) (h0 : numB (btN s 0) = true) (he : (intT s).2.2 = 0) : 1 ≤ (intT s).2.1 ∧ (intT s).2.1 ≤ s.size := by
 have h1 := spanN_pos (p := numB) h h0
 have h2 := spanN_le numB s
 unfold intT at he ⊢
 by_cases hb : badI s = true
 ·rw [if_pos hb] at he; cases he
 ·rw [if_neg hb] at he ⊢
  by_cases hv : 1073741824 < decV s (spanN numB s)
  ·rw [if_pos hv] at he; cases he
  ·rw [if_neg hv]
   refine ⟨?_, ?_⟩
   ·show (1 : Int) ≤ (spanN numB s : Int); omega
   ·show (spanN numB s : Int) ≤ (s.size : Int); omega
theorem symS_size {s : ByteArray} : (symS s).size ≤ s.size ∧ (symS s).size ≤ 2 := by
 unfold symS
 cases hf : (List.range 4).find? (isTwo s) with
 | some i =>
  have h1 := List.find?_some hf
  have h2 := List.mem_range.1 (List.mem_of_find?_eq_some hf)
  have h3 : 2 ≤ s.size := by
   unfold isTwo at h1
   rw [Bool.and_eq_true, decide_eq_true_eq] at h1
   exact h1.1
  simp only
  rcases (show i = 0 ∨ i = 1 ∨ i = 2 ∨ i = 3 by omega) with rfl | rfl | rfl | rfl
  all_goals
   constructor
   ·exact h3
   ·exact Nat.le_refl 2
 | none =>
  simp only
  split
  ·rename_i ha
   rw [List.any_eq_true] at ha
   obtain ⟨i, _, hi⟩ := ha
   unfold isOne at hi
   rw [Bool.and_eq_true, decide_eq_true_eq] at hi
   rw [size_extract (by omega) hi.1]
   omega
  ·exact ⟨Nat.zero_le _, Nat.zero_le _⟩
theorem nx_pos {s : ByteArray} (h : 0 < s.size) (he : (nx s).1 = 0) : 1 ≤ (nx s).2.2 ∧ (nx s).2.2 ≤ s.size := by
 cases h0 : lowB (btN s 0) with
 | true =>
  rw [nx_name h0] at he ⊢
  have := nameT_pos h h0 he
  constructor
  ·show 1 ≤ (nameT s).1.toNat; omega
  ·show (nameT s).1.toNat ≤ s.size; omega
 | false =>
  cases h1 : numB (btN s 0) with
  | true =>
   rw [nx_int h0 h1] at he ⊢
   have := intT_pos h h1 he
   constructor
   ·show 1 ≤ (intT s).2.1.toNat; omega
   ·show (intT s).2.1.toNat ≤ s.size; omega
  | false =>
   by_cases h2 : btN s 0 = 39
   ·rw [nx_lit h2] at he ⊢
    simp only at he ⊢
    unfold litO at he ⊢
    cases hl : litL ((bts s).drop 1) with
    | none => rw [hl] at he; cases he
    | some p =>
     rw [hl] at he
     simp only at he ⊢
     by_cases h64 : 64 < p.1.length
     ·rw [if_pos h64] at he; cases he
     ·rw [if_neg h64]
      obtain ⟨a, b, _⟩ := litL_facts _ _ (Nat.le_refl _) p.1 p.2 hl
      rw [List.length_drop, bts_length] at b
      simp only
      omega
   ·by_cases h3 : btN s 0 = 64
    ·rw [nx_time h3] at he ⊢
     by_cases h17 : s.size < 17
     ·rw [if_pos h17] at he; cases he
     ·rw [if_neg h17]
      simp only
      omega
    ·rw [nx_sym h0 h1 h2 h3] at he ⊢
     by_cases hz : (symS s).size = 0
     ·rw [if_pos hz] at he; cases he
     ·rw [if_neg hz]
      have := symS_size (s := s)
      simp only
      omega
structure Out where
 l : List (Tk × Int)
 i : Nat
 e : Int
def accO (a : List (Tk × Int)) (o : Out) : Out := if o.e = 0 then ⟨a ++ o.l, o.i, 0⟩ else o
theorem accO_nil {o : Out} : accO [] o = o := by
 unfold accO
 split
 ·rename_i h; cases o; simp at h ⊢; exact h.symm
 ·rfl
theorem accO_acc {a b : List (Tk × Int)} {o : Out} : accO a (accO b o) = accO (a ++ b) o := by
 unfold accO
 by_cases h : o.e = 0
 ·rw [if_pos h, if_pos rfl, if_pos h, List.append_assoc]
 ·rw [if_neg h, if_neg h, if_neg h]
theorem skip_ge (s : ByteArray) (c : Bool) (i : Nat) : i ≤ skipN s c i := Nat.le_add_right _ _
def splitF (s : ByteArray) : Nat → Nat → Out
 | 0, i => ⟨[], i, 3⟩
 | n + 1, i =>
  if s.size ≤ skipN s false i then ⟨[(noT, (s.size : Int))], 0, 0⟩
  else if (nx (s.extract (skipN s false i) s.size)).1 = 0 then accO [((nx (s.extract (skipN s false i) s.size)).2.1, (skipN s false i : Int))] (splitF s n (skipN s false i + (nx (s.extract (skipN s false i) s.size)).2.2))
  else ⟨[], skipN s false i, (nx (s.extract (skipN s false i) s.size)).1⟩
theorem splitF_enough (s : ByteArray) : ∀ n m i, s.size - i < n → s.size - i < m → splitF s n i = splitF s m i
 | 0, _, _, h, _ => absurd h (Nat.not_lt_zero _)
 | _, 0, _, _, h => absurd h (Nat.not_lt_zero _)
 | n + 1, m + 1, i, hn, hm => by
  have hge := skip_ge s false i
  unfold splitF
  by_cases h1 : s.size ≤ skipN s false i
  ·rw [if_pos h1, if_pos h1]
  ·rw [if_neg h1, if_neg h1]
   by_cases h2 : (nx (s.extract (skipN s false i) s.size)).1 = 0
   ·rw [if_pos h2, if_pos h2]
    have hs : (s.extract (skipN s false i) s.size).size = s.size - skipN s false i := size_extract (by omega) (Nat.le_refl _)
    have hp := nx_pos (s := s.extract (skipN s false i) s.size) (by omega) h2
    rw [splitF_enough s n m _ (by omega) (by omega)]
   ·rw [if_neg h2, if_neg h2]
def splitA (s : ByteArray) (i : Nat) : Out := splitF s (s.size - i + 1) i
theorem splitA_end {s : ByteArray} {i : Nat} (h : s.size ≤ skipN s false i) : splitA s i = ⟨[(noT, (s.size : Int))], 0, 0⟩ := by
 unfold splitA splitF
 rw [if_pos h]
theorem splitA_bad {s : ByteArray} {i j : Nat} (hj : skipN s false i = j) (h : j < s.size) (he : ¬ (nx (s.extract j s.size)).1 = 0) : splitA s i = ⟨[], j, (nx (s.extract j s.size)).1⟩ := by
 subst hj
 unfold splitA splitF
 rw [if_neg (by omega), if_neg he]
theorem splitA_ok {s : ByteArray} {i j : Nat} (hj : skipN s false i = j) (h : j < s.size) (he : (nx (s.extract j s.size)).1 = 0) : splitA s i = accO [((nx (s.extract j s.size)).2.1, (j : Int))] (splitA s (j + (nx (s.extract j s.size)).2.2)) := by
 subst hj
 have hge := skip_ge s false i
 have hs : (s.extract (skipN s false i) s.size).size = s.size - skipN s false i := size_extract (by omega) (Nat.le_refl _)
 have hp := nx_pos (s := s.extract (skipN s false i) s.size) (by omega) he
 conv => lhs; unfold splitA splitF
 rw [if_neg (by omega), if_pos he]
 unfold splitA
 rw [splitF_enough s _ (s.size - (skipN s false i + (nx (s.extract (skipN s false i) s.size)).2.2) + 1) _ (by omega) (by omega)]
theorem splitA_skip {s : ByteArray} {i j : Nat} (h : skipN s false i = skipN s false j) (hi : i ≤ s.size) (hj : j ≤ s.size) : splitA s i = splitA s j := by
 unfold splitA
 rw [splitF_enough s _ (s.size + 1) i (by omega) (by omega), splitF_enough s _ (s.size + 1) j (by omega) (by omega)]
 unfold splitF
 rw [h]
def splitP (s : ByteArray) : Out := if 65536 < s.size then ⟨[], 0, 2⟩ else splitA s 0
end Wh
namespace Go.Proofs.YtmdpjahhhfajaaaGreatDoor
open Go.RowKit Wh
def okN (i x : Nat) : Bool := letB x || (!decide (i = 0) && (digB x || decide (x = 95)))
def nameB (s : ByteArray) : Bool := decide (1 ≤ s.size) && decide (s.size ≤ 24) && (List.range s.size).all fun i => okN i (btN s i)
theorem nameB_size {s : ByteArray} (h : s.size = 0 ∨ 24 < s.size) : nameB s = false := by
 unfold nameB
 rcases h with h | h
 ·rw [decide_eq_false (by omega : ¬ 1 ≤ s.size)]; rfl
 ·rw [decide_eq_false (by omega : ¬ s.size ≤ 24), Bool.and_false]; rfl
theorem nameB_no {s : ByteArray} {i : Nat} (hi : i < s.size) (h : okN i (btN s i) = false) : nameB s = false := by
 unfold nameB
 rw [Bool.and_eq_false_iff]
 right
 rw [List.all_eq_false]
 exact ⟨i, List.mem_range.2 hi, by simp [h]⟩
theorem nameB_yes {s : ByteArray} (h1 : 1 ≤ s.size) (h2 : s.size ≤ 24) (h : ∀ i, i < s.size → okN i (btN s i) = true) : nameB s = true := by
 unfold nameB
 rw [decide_eq_true h1, decide_eq_true h2, List.all_eq_true.2 fun i hi => h i (List.mem_range.1 hi)]
 rfl
theorem btN_get {s : ByteArray} {pos : Nat} (h : pos < s.size) : (s[pos]'h).toNat = btN s pos := by
 rw [btN_of (x := s[pos]'h)]
 show s.data.toList[pos]? = _
 rw [Array.getElem?_toList]
 exact Array.getElem?_eq_getElem (show pos < s.data.size from h)
theorem empty_of_size {s : ByteArray} (h : s.size = 0) : s = ⟨#[]⟩ := by
 apply ByteArray.ext
 exact Array.eq_empty_of_size_eq_zero h
theorem isName_any (s : ByteArray) (w : World) : Calls Tryz.prog 131 #[.string s] w fun e w' => e = .returned (.bool (nameB s)) ∧ Below w.heap.size w w' := by
 by_cases h0 : s.size = 0
 ·obtain rfl := empty_of_size h0
  rw [nameB_size (.inl h0)]
  clear h0
  go_enter Tryz.func131, Tryz.ntmps131
  go_wp2_with fail
  go_ret
  exact ⟨rfl, Below.refl _ _⟩
 have he : (s.toList == ([] : List UInt8)) = false := by
  rw [toList_bts, beq_eq_false_iff_ne]
  intro h
  exact h0 (by rw [← bts_length, h]; rfl)
 have he2 : s.toList.isEmpty = false := by
  rw [toList_bts]
  cases h : bts s with
  | nil => exact absurd (by rw [← bts_length, h]; rfl) h0
  | cons => rfl
 by_cases h24 : 24 < s.size
 ·rw [nameB_size (.inr h24)]
  go_enter Tryz.func131, Tryz.ntmps131
  go_wp2_with fail
  go_ret
  exact ⟨rfl, Below.refl _ _⟩
 ·have NO := Lib.hid (fun i hi h => nameB_no (s := s) (i := i) hi h)
  have YE := Lib.hid (fun h => nameB_yes (s := s) (by omega) (by omega) h)
  generalize nameB s = E at *
  go_enter Tryz.func131, Tryz.ntmps131
  go_wp2_with fail
  clear he he2
  go_loopw [3, 4] (fun _ _ w' => ∃ pos : Nat, w' = w.iter s pos ∧ pos ≤ s.size ∧ Hid (∀ i, i < pos → okN i (btN s i) = true)) (fun _ _ w' => s.size - w'.iterPos w.heap.size)
  case atStart => exact ⟨0, rfl, Nat.zero_le _, fun i hi => absurd hi (by omega)⟩
  case round =>
   obtain ⟨pos, rfl, hps, HI⟩ := hrel
   have hB : Below w.heap.size w (w.iter s pos) := (Below.refl _ _).alloc (Nat.le_refl _) _
   by_cases hp : pos < s.size
   ·have hnx : ∀ ty, (Instr.next (.pointer (some ⟨w.heap.size, 0, none⟩)) true ty).run Tryz.prog (w.iter s pos) = _ := fun ty => run_next_any w s pos ty hp
    have hB2 : ∀ p, Below w.heap.size w (w.iter s p) := fun p => (Below.refl _ _).alloc (Nat.le_refl _) _
    by_cases hx : btN s pos < 128
    ·have hd := decode_ascii s pos hp (by rw [btN_get hp]; exact hx)
     rw [btN_get hp] at hd
     rw [hd] at hnx
     simp only at hnx
     by_cases hk : okN pos (btN s pos) = true
     ·have HI2 : Hid (∀ i, i < pos + 1 → okN i (btN s i) = true) := fun i hi => by
       by_cases e : i = pos
       ·subst e; exact hk
       ·exact HI.out i (by omega)
      clear HI hd NO YE
      generalize btN s pos = x at *
      cases hl : letB x with
      | true =>
       clear hk
       go_wp2_with (first | (go_at_call 165; refine (isLetter_any x _).mono ?_; rintro e w' ⟨rfl, rfl⟩; rw [hl]))
       go_roundw
       case rel => exact ⟨pos + 1, rfl, by omega, HI2⟩
       case measure => simp; omega
      | false =>
       have hp0 : ¬ pos = 0 := by rintro rfl; simp [okN, hl] at hk
       have hp1 : ((pos : Int) == 0) = false := by simpa using hp0
       cases hg : digB x with
       | true =>
        clear hk
        go_wp2_with (first | (go_at_call 165; refine (isLetter_any x _).mono ?_; rintro e w' ⟨rfl, rfl⟩; rw [hl]) | (go_at_call 166; refine (isDigit_any x _).mono ?_; rintro e w' ⟨rfl, rfl⟩; rw [hg]))
        go_roundw
        case rel => exact ⟨pos + 1, rfl, by omega, HI2⟩
        case measure => simp; omega
       | false =>
        have h95 : x = 95 := by
         have := hk
         simp only [okN, hl, hg, Bool.false_or, Bool.and_eq_true, decide_eq_true_eq] at this
         exact this.2
        clear hk
        subst h95
        have hl : letB 95 = false := by decide
        have hg : digB 95 = false := by decide
        go_wp2_with (first | (go_at_call 165; refine (isLetter_any 95 _).mono ?_; rintro e w' ⟨rfl, rfl⟩; rw [hl]) | (go_at_call 166; refine (isDigit_any 95 _).mono ?_; rintro e w' ⟨rfl, rfl⟩; rw [hg]))
        go_roundw
        case rel => exact ⟨pos + 1, rfl, by omega, HI2⟩
        case measure => simp; omega
     ·have hk : okN pos (btN s pos) = false := by simpa using hk
      obtain rfl := NO.out pos hp hk
      clear NO YE HI hd
      generalize btN s pos = x at *
      have hl : letB x = false := by
       cases hl : letB x with
       | false => rfl
       | true => simp [okN, hl] at hk
      by_cases hp0 : pos = 0
      ·subst hp0
       clear hk
       go_wp2_with (first | (go_at_call 165; refine (isLetter_any x _).mono ?_; rintro e w' ⟨rfl, rfl⟩; rw [hl]))
       go_ret
       exact ⟨rfl, hB2 _⟩
      ·have hp1 : ((pos : Int) == 0) = false := by simpa using hp0
       have hg : digB x = false ∧ ¬ x = 95 := by
        simp only [okN, hl, decide_eq_false hp0, Bool.false_or, Bool.not_false, Bool.true_and, Bool.or_eq_false_iff, decide_eq_false_iff_not] at hk
        exact hk
       obtain ⟨hg, h95⟩ := hg
       have h95 : ¬ (x : Int) = 95 := by omega
       clear hk
       go_wp2_with (first | (go_at_call 165; refine (isLetter_any x _).mono ?_; rintro e w' ⟨rfl, rfl⟩; rw [hl]) | (go_at_call 166; refine (isDigit_any x _).mono ?_; rintro e w' ⟨rfl, rfl⟩; rw [hg]))
       go_ret
       exact ⟨rfl, hB2 _⟩
    ·have hd := decode_high s pos hp (by rw [btN_get hp]; omega)
     have hk : okN pos (btN s pos) = false := by
      simp only [okN, letB, digB, decide_eq_false (show ¬ (btN s pos : Int) ≤ 122 by omega), decide_eq_false (show ¬ (btN s pos : Int) ≤ 57 by omega), decide_eq_false (show ¬ btN s pos = 95 by omega), Bool.and_false, Bool.or_false]
     obtain rfl := NO.out pos hp hk
     generalize (Utf8.decode s pos).2 = y at *
     generalize (Utf8.decode s pos).1 = x at *
     have hx1 := hd.1
     have hl : letB x = false := by unfold letB; rw [decide_eq_false (show ¬ (x : Int) ≤ 122 by omega), Bool.and_false]
     have hg : digB x = false := by unfold digB; rw [decide_eq_false (show ¬ (x : Int) ≤ 57 by omega), Bool.and_false]
     have h95 : ¬ (x : Int) = 95 := by omega
     clear NO YE HI hd hk hx
     by_cases hp0 : pos = 0
     ·subst hp0
      go_wp2_with (first | (go_at_call 165; refine (isLetter_any x _).mono ?_; rintro e w' ⟨rfl, rfl⟩; rw [hl]))
      go_ret
      exact ⟨rfl, hB2 _⟩
     ·have hp1 : ((pos : Int) == 0) = false := by simpa using hp0
      go_wp2_with (first | (go_at_call 165; refine (isLetter_any x _).mono ?_; rintro e w' ⟨rfl, rfl⟩; rw [hl]) | (go_at_call 166; refine (isDigit_any x _).mono ?_; rintro e w' ⟨rfl, rfl⟩; rw [hg]))
      go_ret
      exact ⟨rfl, hB2 _⟩
   ·have hnx : ∀ ty, (Instr.next (.pointer (some ⟨w.heap.size, 0, none⟩)) true ty).run Tryz.prog (w.iter s pos) = _ := fun ty => run_next_end w s pos ty hp
    obtain rfl := YE.out fun i hi => HI.out i (by omega)
    clear NO YE HI
    go_wp2_with fail
    go_ret
    exact ⟨rfl, hB⟩
end Go.Proofs.YtmdpjahhhfajaaaGreatDoor
namespace Go.Proofs.YtmdpjahhhfajaaaGreatDoor
open Go.RowKit Wh
def chrB (x : Nat) : Bool := letB x || (digB x || decide (x = 95))
theorem okN_zero (x : Nat) : okN 0 x = letB x := by simp [okN]
theorem okN_succ {i : Nat} (h : ¬ i = 0) (x : Nat) : okN i x = chrB x := by simp [okN, chrB, h]
set_option maxHeartbeats 2000000 in
theorem rIsName_any (s : ByteArray) (w : World) : Calls Tryz.prog 110 #[.string s] w fun e w' => e = .returned (.bool (nameB s)) ∧ w = w' := by
 by_cases h0 : s.size = 0
 ·rw [nameB_size (.inl h0)]
  go_enter Tryz.func110, Tryz.ntmps110
  go_wp2_with fail
  go_ret
  exact ⟨rfl, rfl⟩
 by_cases h24 : 24 < s.size
 ·rw [nameB_size (.inr h24)]
  go_enter Tryz.func110, Tryz.ntmps110
  go_wp2_with fail
  go_ret
  exact ⟨rfl, rfl⟩
 have i0 : ∀ W, (Instr.index 9 (.string s) (.int .i64 0)).run Tryz.prog W = .ok (.int .u8 (btN s 0)) W := fun W => index_str s 0 (by omega) W
 have NO := Lib.hid (fun i hi h => nameB_no (s := s) (i := i) hi h)
 have YE := Lib.hid (fun h => nameB_yes (s := s) (by omega) (by omega) h)
 generalize nameB s = E at *
 cases hl : letB (btN s 0) with
 | false =>
  obtain rfl := NO.out 0 (by omega) (by rw [okN_zero, hl])
  generalize btN s 0 = x at *
  rcases (show x < 97 ∨ (97 ≤ x ∧ 122 < x) by
   by_cases h1 : x < 97
   ·exact .inl h1
   ·by_cases h2 : 122 < x
    ·exact .inr ⟨by omega, h2⟩
    ·unfold letB at hl; rw [decide_eq_true (by omega), decide_eq_true (by omega)] at hl; cases hl) with h1 | ⟨h1, h2⟩
  all_goals
   clear hl NO YE
   go_enter Tryz.func110, Tryz.ntmps110
   go_wp2_with fail
   go_ret
   exact ⟨rfl, rfl⟩
 | true =>
  have hl2 : 97 ≤ btN s 0 ∧ btN s 0 ≤ 122 := by
   unfold letB at hl
   rw [Bool.and_eq_true, decide_eq_true_eq, decide_eq_true_eq] at hl
   omega
  have H0 : Hid (okN 0 (btN s 0) = true) := by show _ = _; rw [okN_zero, hl]
  have IX := Lib.hid (fun i (hi : i < s.size) W => index_str s i hi W)
  generalize hb : btN s 0 = x at hl hl2 i0
  have HB := Lib.hid hb
  obtain ⟨l1, l2⟩ := hl2
  clear hl hb
  go_enter Tryz.func110, Tryz.ntmps110
  go_wp2_with fail
  clear i0 l1 l2
  go_loop [3] (fun i => ∃ k : Nat, k ≤ s.size ∧ i = .int .i64 k ∧ Hid (∀ j, j < k → okN j (btN s j) = true)) (fun i => s.size - (intOf i).toNat)
  case atStart => exact ⟨0, by omega, rfl, fun j hj => absurd hj (by omega)⟩
  case round =>
   obtain ⟨k, hk, rfl, HI⟩ := hrel
   by_cases hlt : k < s.size
   ·have hi := IX.out k hlt
    have CH : Hid (chrB (btN s k) = true → okN k (btN s k) = true) := fun h => by
     by_cases e : k = 0
     ·subst e; exact H0.out
     ·rw [okN_succ e]; exact h
    have CN : Hid (chrB (btN s k) = false → E = false) := fun h => by
     refine NO.out k hlt ?_
     by_cases e : k = 0
     ·subst e
      have h2 := H0.out
      rw [okN_zero] at h2
      unfold chrB at h
      rw [h2] at h
      cases h
     ·rw [okN_succ e]; exact h
    have HI2 : Hid (okN k (btN s k) = true → ∀ j, j < k + 1 → okN j (btN s j) = true) := fun h j hj => by
     by_cases e : j = k
     ·subst e; exact h
     ·exact HI.out j (by omega)
    clear HI NO YE IX H0 HB
    have hi8 := btN_lt s k
    generalize hx : btN s k = y at CH CN HI2 hi hi8
    rcases (show y < 48 ∨ (48 ≤ y ∧ y ≤ 57) ∨ (57 < y ∧ y < 95) ∨ y = 95 ∨ y = 96 ∨ (97 ≤ y ∧ y ≤ 122) ∨ 122 < y by omega) with h | ⟨h, h'⟩ | ⟨h, h'⟩ | h | h | ⟨h, h'⟩ | h
    ·obtain rfl := CN.out (by simp only [chrB, letB, digB, decide_eq_false (show ¬ (97 : Int) ≤ y by omega), decide_eq_false (show ¬ (48 : Int) ≤ y by omega), decide_eq_false (show ¬ y = 95 by omega), Bool.false_and, Bool.false_or])
     have h1 : ¬ (y : Int) = 95 := by omega
     clear CH CN HI2
     go_wp2_with fail
     all_goals first | (go_ret; exact ⟨rfl, rfl⟩) | (exfalso; rename_i hh; rcases hh with hh | hh <;> simp at hh <;> omega)
    ·have HR := Lib.hid (HI2.out (CH.out (by simp only [chrB, digB, decide_eq_true (show (48 : Int) ≤ y by omega), decide_eq_true (show (y : Int) ≤ 57 by omega), Bool.true_and, Bool.true_or, Bool.or_true])))
     clear CH CN HI2
     go_wp2_with fail
     go_round
     case rel => exact ⟨k + 1, by omega, by go_num, HR.out⟩
     case measure => simp [intOf]; omega
    ·obtain rfl := CN.out (by simp only [chrB, letB, digB, decide_eq_false (show ¬ (97 : Int) ≤ y by omega), decide_eq_false (show ¬ (y : Int) ≤ 57 by omega), decide_eq_false (show ¬ y = 95 by omega), Bool.false_and, Bool.and_false, Bool.false_or])
     have h1 : ¬ (y : Int) = 95 := by omega
     clear CH CN HI2
     go_wp2_with fail
     all_goals first | (go_ret; exact ⟨rfl, rfl⟩) | (exfalso; rename_i hh; rcases hh with hh | hh <;> simp at hh <;> omega)
    ·subst h
     have HR := Lib.hid (HI2.out (CH.out (by decide)))
     clear CH CN HI2
     go_wp2_with fail
     go_round
     case rel => exact ⟨k + 1, by omega, by go_num, HR.out⟩
     case measure => simp [intOf]; omega
    ·subst h
     obtain rfl := CN.out (by decide)
     clear CH CN HI2
     go_wp2_with fail
     go_ret
     exact ⟨rfl, rfl⟩
    ·have HR := Lib.hid (HI2.out (CH.out (by simp only [chrB, letB, decide_eq_true (show (97 : Int) ≤ y by omega), decide_eq_true (show (y : Int) ≤ 122 by omega), Bool.true_and, Bool.true_or])))
     clear CH CN HI2
     go_wp2_with fail
     go_round
     case rel => exact ⟨k + 1, by omega, by go_num, HR.out⟩
     case measure => simp [intOf]; omega
    ·obtain rfl := CN.out (by simp only [chrB, letB, digB, decide_eq_false (show ¬ (y : Int) ≤ 122 by omega), decide_eq_false (show ¬ (y : Int) ≤ 57 by omega), decide_eq_false (show ¬ y = 95 by omega), Bool.and_false, Bool.false_or])
     have h1 : ¬ (y : Int) = 95 := by omega
     clear CH CN HI2
     go_wp2_with fail
     all_goals first | (go_ret; exact ⟨rfl, rfl⟩) | (exfalso; rename_i hh; rcases hh with hh | hh <;> simp at hh <;> omega)
   ·obtain rfl := YE.out fun i hi => HI.out i (by omega)
    clear NO YE HI H0 HB IX
    go_wp2_with fail
    go_ret
    exact ⟨rfl, rfl⟩
end Go.Proofs.YtmdpjahhhfajaaaGreatDoor
