/-
  The program: infixOfWord, infixOfOp. · The reference's parser: compare.
-/
import Derived.Test.YtmdpjahhhfajaaaGreatDoorJA15
import Derived.Test.YtmdpjahhhfajaaaGreatDoorJA18
import Derived.Test.YtmdpjahhhfajaaaGreatDoorJA16
import Derived.LoopTactic
set_option linter.unusedVariables false
set_option linter.unusedSimpArgs false
set_option maxRecDepth 100000
namespace Go.Proofs.YtmdpjahhhfajaaaGreatDoor
open Go.RowKit Wh

/-- The table of binary operators lies in the world. -/
def TabI (w : World) : Prop := 0 < w.heap.size ∧ w.rangeAt 0 0 infC
theorem TabI.below {w w' : World} {B : Nat} (h : TabI w) (hb : Below B w w') (hB : w.heap.size ≤ B) : TabI w' :=
  ⟨Nat.lt_of_lt_of_le h.1 hb.size, fun j v hv => by rw [hb.cell (p := ⟨0, 0 + j, none⟩) (Nat.lt_of_lt_of_le h.1 hB)]; exact h.2 j v hv⟩
theorem inf_index (k : Nat) (p : ByteArray × Int × Int × Bool) (h : infL[k]? = some p) (W : World) : (Instr.index 132 (.agg infC.toArray) (.int .i64 k)).run Tryz.prog W = .ok (.agg #[.string p.1, .int .i64 p.2.1, .int .i64 p.2.2.1, .bool p.2.2.2]) W := by
  have hk : k < 14 := (List.getElem?_eq_some_iff.1 h).1
  have h5 : k = 0 ∨ k = 1 ∨ k = 2 ∨ k = 3 ∨ k = 4 ∨ k = 5 ∨ k = 6 ∨ k = 7 ∨ k = 8 ∨ k = 9 ∨ k = 10 ∨ k = 11 ∨ k = 12 ∨ k = 13 := by omega
  rcases h5 with rfl | rfl | rfl | rfl | rfl | rfl | rfl | rfl | rfl | rfl | rfl | rfl | rfl | rfl <;> cases h
  all_goals rfl

/-- What the call tells of a binary operator. -/
def infV (o : Option (ByteArray × Int × Int × Bool)) : Value :=
  match o with
  | some p => .tuple #[.agg #[.string p.1, .int .i64 p.2.1, .int .i64 p.2.2.1, .bool p.2.2.2], .bool true]
  | none => .tuple #[.agg #[.string ⟨#[]⟩, .int .i64 0, .int .i64 0, .bool false], .bool false]
theorem box_load {w : World} {B : Nat} {x y z u : Value} (h : w.heap[B]? = some (.cells #[x, y, z, u] 109 (0, 0))) : (loadVar 109 ⟨B, 0, none⟩).run Tryz.prog w = .ok (.agg #[x, y, z, u]) w := by
  refine run_loadVar_mid w B 0 _ [x, y, z, u] _ (fun j v hv => ?_) Tryz.underlying109 rfl (by kernel_rfl)
  rw [Nat.zero_add]
  exact (cell_of_row _ _ j _ _ _ h).trans (by rw [← Array.getElem?_toList]; exact hv)

set_option maxHeartbeats 8000000 in
theorem infixOfWord_any (s : ByteArray) (l : Int) (w : World) (hT : TabI w) : Calls Tryz.prog 93 #[.string s, .int .i64 l] w fun e w' => e = .returned (infV (infW s l)) ∧ Below w.heap.size w w' := by
  obtain ⟨O, hO⟩ : ∃ O, infW s l = O := ⟨_, rfl⟩
  rw [hO]
  have HO := Lib.hid hO
  clear hO
  obtain ⟨A, hA⟩ : ∃ A, infC.toArray = A := ⟨_, rfl⟩
  have HI := Lib.hid (fun k p h W => inf_index k p h W)
  rw [hA] at HI
  have hb0 : Below w.heap.size w (w.alloc (.cells #[.string ⟨#[]⟩, .int .i64 0, .int .i64 0, .bool false] 109)) := (Below.refl _ _).alloc (Nat.le_refl _) _
  have hr := (hT.below hb0 (Nat.le_refl _)).2
  have hnew := heap_alloc_new w (.cells #[.string ⟨#[]⟩, .int .i64 0, .int .i64 0, .bool false] 109)
  have HNEW := Lib.hid hnew
  clear hnew
  go_enter Tryz.func93, Tryz.ntmps93
  go_wp2_with (with_reducible refine wpList_load_mid (op := Oper.mk (some 8) (Op.load 132 (.global 0)) _ _ _ none) rfl 132 (.global 0) rfl 0 0 ?hx infC _ hr Tryz.underlying132 ?hd ?hi ?hk)
  case hx => rfl
  case hd => rfl
  case hi => kernel_rfl
  have hs0 := hb0.size
  have hlt0 : w.heap.size < (w.alloc (.cells #[.string ⟨#[]⟩, .int .i64 0, .int .i64 0, .bool false] 109)).heap.size := by simp
  have HB0 := Lib.hid hb0
  generalize w.alloc (.cells #[.string ⟨#[]⟩, .int .i64 0, .int .i64 0, .bool false] 109) = w1 at *
  clear hA hr hT hb0
  go_loopw [9] (fun iv wr => ∃ k : Nat, k ≤ 14 ∧ iv = .int .i64 k ∧ Hid (∀ (m : Nat) p, m < k → infL[m]? = some p → (eqS p.1 s && decide (p.2.1 = l)) = false) ∧ Below w1.heap.size w1 wr) (fun iv _ => 14 - (intOf iv).toNat)
  case atStart => exact ⟨0, by omega, rfl, fun m p h => by omega, Below.refl _ _⟩
  case round =>
    obtain ⟨k, hk, rfl, HN, hbel⟩ := hrel
    have hsz := hbel.size
    have HBX : Hid (wr.heap[w.heap.size]? = some (.cells #[.string ⟨#[]⟩, .int .i64 0, .int .i64 0, .bool false] 109 (0, 0))) := by
      show _ = _
      rw [hbel.block _ hlt0]
      exact HNEW.out
    have hBF := HB0.out.trans (hbel.mono hs0)
    by_cases hlt : k < 14
    · obtain ⟨p, hp⟩ : ∃ p, infL[k]? = some p := ⟨_, List.getElem?_eq_getElem (by simpa [infL] using hlt)⟩
      have hix := HI.out k p hp
      have FS := Lib.hid (find_step (fun p => eqS p.1 s && decide (p.2.1 = l)) infL k p hp (fun m y hm hy => HN.out m y hm hy))
      by_cases he : (eqS p.1 s && decide (p.2.1 = l)) = true
      · obtain rfl : O = some p := by rw [← HO.out]; exact FS.out he
        rw [Bool.and_eq_true, decide_eq_true_eq] at he
        obtain ⟨he1, he2⟩ := he
        have he3 : (p.1.toList == s.toList) = true := he1
        obtain ⟨pn, pl, po, ps⟩ := p
        simp only at he2 he3 hix
        subst he2
        clear FS hp HO he1
        have HB := Lib.hid hBF
        have HSB : Hid ((wr.alloc (.cells #[.string pn, .int .i64 pl, .int .i64 po, .bool ps] 109)).heap[w.heap.size]? = some (.cells #[.string ⟨#[]⟩, .int .i64 0, .int .i64 0, .bool false] 109 (0, 0))) := by
          show _ = _
          rw [Below.heap_alloc _ _ _ (by omega)]
          exact HBX.out
        clear hbel hBF
        go_wp2_with (with_reducible refine wpList_store_row (o := Oper.mk none (Op.store 109 (.tmp 4) (.tmp 22)) _ _ _ none) rfl 109 (.tmp 4) (.tmp 22) rfl w.heap.size #[.string pn, .int .i64 pl, .int .i64 po, .bool ps] ?gx ?gy 109 _ HSB.out ?gi ?go ?g1 ?gk)
        case gx => rfl
        case gy => rfl
        case gi => kernel_rfl
        case go => rfl
        case g1 => simp [Value.oneCell']
        go_wp2_with fail
        have hld := box_load (w := (wr.alloc (.cells #[.string pn, .int .i64 pl, .int .i64 po, .bool ps] 109)).setRow w.heap.size #[.string pn, .int .i64 pl, .int .i64 po, .bool ps]) (setRow_heap _ _ _ _ _ _ HSB.out)
        exact bodyPost_ret (v := infV (some (pn, pl, po, ps))) (by simp [results, Tryz.results93, asAddr, hld, infV]) rfl ⟨rfl, (HB.out.alloc HB.out.size _).grown (grown_setRow _ _ _) (by have := HB.out.size; simp; omega) (fun z hz => by cases hz; exact Nat.le_refl _)⟩
      · have he1 : (eqS p.1 s && decide (p.2.1 = l)) = false := by simpa using he
        have HN2 : Hid (∀ (m : Nat) q, m < k + 1 → infL[m]? = some q → (eqS q.1 s && decide (q.2.1 = l)) = false) := by
          intro m q hm hq
          by_cases hmk : m = k
          · subst hmk
            rw [hp] at hq
            cases hq
            exact he1
          · exact HN.out m q (by omega) hq
        obtain ⟨pn, pl, po, ps⟩ := p
        have hcase : (pn.toList == s.toList) = false ∨ ((pn.toList == s.toList) = true ∧ (pl == l) = false) := by
          by_cases h1 : (pn.toList == s.toList) = true
          · refine .inr ⟨h1, ?_⟩
            have h2 : eqS pn s = true := h1
            simp only [h2, Bool.true_and, decide_eq_false_iff_not] at he1
            simpa using he1
          · exact .inl (by simpa using h1)
        have HB := Lib.hid hbel
        clear FS hp hbel hBF he he1
        rcases hcase with h1 | ⟨h1, h2⟩
        all_goals
          go_wp2_with fail
          go_roundw
          case rel => exact ⟨k + 1, by omega, by go_num, HN2, HB.out.alloc hsz _⟩
          case measure => simp [intOf]; omega
    · obtain rfl : k = 14 := by omega
      obtain rfl : O = none := by rw [← HO.out]; exact find_none _ _ fun m y hy => HN.out m y (by have := (List.getElem?_eq_some_iff.1 hy).1; simpa [infL] using this) hy
      have HB := Lib.hid hBF
      clear hbel hBF
      go_wp2_with (with_reducible refine wpList_store_row (o := Oper.mk none (Op.store 109 (.tmp 4) (.tmp 24)) _ _ _ none) rfl 109 (.tmp 4) (.tmp 24) rfl w.heap.size #[.string ⟨#[]⟩, .int .i64 0, .int .i64 0, .bool false] ?zgx ?zgy 109 _ HBX.out ?zgi ?zgo ?zg1 ?zgk)
      case zgx => rfl
      case zgy => rfl
      case zgi => kernel_rfl
      case zgo => rfl
      case zg1 => simp [Value.oneCell']
      go_wp2_with fail
      have hld := box_load (w := wr.setRow w.heap.size #[.string ⟨#[]⟩, .int .i64 0, .int .i64 0, .bool false]) (setRow_heap _ _ _ _ _ _ HBX.out)
      exact bodyPost_ret (v := infV none) (by simp [results, Tryz.results93, asAddr, hld, infV]) rfl ⟨rfl, HB.out.grown (grown_setRow _ _ _) HB.out.size (fun z hz => by cases hz; exact Nat.le_refl _)⟩

set_option maxHeartbeats 8000000 in
theorem infixOfOp_any (op : Int) (w : World) (hT : TabI w) : Calls Tryz.prog 70 #[.int .i64 op] w fun e w' => e = .returned (infV (infO op)) ∧ Below w.heap.size w w' := by
  obtain ⟨O, hO⟩ : ∃ O, infO op = O := ⟨_, rfl⟩
  rw [hO]
  have HO := Lib.hid hO
  clear hO
  obtain ⟨A, hA⟩ : ∃ A, infC.toArray = A := ⟨_, rfl⟩
  have HI := Lib.hid (fun k p h W => inf_index k p h W)
  rw [hA] at HI
  have hb0 : Below w.heap.size w (w.alloc (.cells #[.string ⟨#[]⟩, .int .i64 0, .int .i64 0, .bool false] 109)) := (Below.refl _ _).alloc (Nat.le_refl _) _
  have hr := (hT.below hb0 (Nat.le_refl _)).2
  have hnew := heap_alloc_new w (.cells #[.string ⟨#[]⟩, .int .i64 0, .int .i64 0, .bool false] 109)
  have HNEW := Lib.hid hnew
  clear hnew
  go_enter Tryz.func70, Tryz.ntmps70
  go_wp2_with (with_reducible refine wpList_load_mid (op := Oper.mk (some 6) (Op.load 132 (.global 0)) _ _ _ none) rfl 132 (.global 0) rfl 0 0 ?hx infC _ hr Tryz.underlying132 ?hd ?hi ?hk)
  case hx => rfl
  case hd => rfl
  case hi => kernel_rfl
  have hs0 := hb0.size
  have hlt0 : w.heap.size < (w.alloc (.cells #[.string ⟨#[]⟩, .int .i64 0, .int .i64 0, .bool false] 109)).heap.size := by simp
  have HB0 := Lib.hid hb0
  generalize w.alloc (.cells #[.string ⟨#[]⟩, .int .i64 0, .int .i64 0, .bool false] 109) = w1 at *
  clear hA hr hT hb0
  go_loopw [7] (fun iv wr => ∃ k : Nat, k ≤ 14 ∧ iv = .int .i64 k ∧ Hid (∀ (m : Nat) p, m < k → infL[m]? = some p → (decide (p.2.2.1 = op) && !p.2.2.2) = false) ∧ Below w1.heap.size w1 wr) (fun iv _ => 14 - (intOf iv).toNat)
  case atStart => exact ⟨0, by omega, rfl, fun m p h => by omega, Below.refl _ _⟩
  case round =>
    obtain ⟨k, hk, rfl, HN, hbel⟩ := hrel
    have hsz := hbel.size
    have HBX : Hid (wr.heap[w.heap.size]? = some (.cells #[.string ⟨#[]⟩, .int .i64 0, .int .i64 0, .bool false] 109 (0, 0))) := by
      show _ = _
      rw [hbel.block _ hlt0]
      exact HNEW.out
    have hBF := HB0.out.trans (hbel.mono hs0)
    by_cases hlt : k < 14
    · obtain ⟨p, hp⟩ : ∃ p, infL[k]? = some p := ⟨_, List.getElem?_eq_getElem (by simpa [infL] using hlt)⟩
      have hix := HI.out k p hp
      have FS := Lib.hid (find_step (fun p => decide (p.2.2.1 = op) && !p.2.2.2) infL k p hp (fun m y hm hy => HN.out m y hm hy))
      by_cases he : (decide (p.2.2.1 = op) && !p.2.2.2) = true
      · obtain rfl : O = some p := by rw [← HO.out]; exact FS.out he
        rw [Bool.and_eq_true, decide_eq_true_eq, Bool.not_eq_true'] at he
        obtain ⟨he1, he2⟩ := he
        obtain ⟨pn, pl, po, ps⟩ := p
        simp only at he1 he2 hix
        subst he1 he2
        clear FS hp HO
        have HB := Lib.hid hBF
        have HSB : Hid ((wr.alloc (.cells #[.string pn, .int .i64 pl, .int .i64 po, .bool false] 109)).heap[w.heap.size]? = some (.cells #[.string ⟨#[]⟩, .int .i64 0, .int .i64 0, .bool false] 109 (0, 0))) := by
          show _ = _
          rw [Below.heap_alloc _ _ _ (by omega)]
          exact HBX.out
        clear hbel hBF
        go_wp2_with (with_reducible refine wpList_store_row (o := Oper.mk none (Op.store 109 (.tmp 2) (.tmp 19)) _ _ _ none) rfl 109 (.tmp 2) (.tmp 19) rfl w.heap.size #[.string pn, .int .i64 pl, .int .i64 po, .bool false] ?gx ?gy 109 _ HSB.out ?gi ?go ?g1 ?gk)
        case gx => rfl
        case gy => rfl
        case gi => kernel_rfl
        case go => rfl
        case g1 => simp [Value.oneCell']
        go_wp2_with fail
        have hld := box_load (w := (wr.alloc (.cells #[.string pn, .int .i64 pl, .int .i64 po, .bool false] 109)).setRow w.heap.size #[.string pn, .int .i64 pl, .int .i64 po, .bool false]) (setRow_heap _ _ _ _ _ _ HSB.out)
        exact bodyPost_ret (v := infV (some (pn, pl, po, false))) (by simp [results, Tryz.results70, asAddr, hld, infV]) rfl ⟨rfl, (HB.out.alloc HB.out.size _).grown (grown_setRow _ _ _) (by have := HB.out.size; simp; omega) (fun z hz => by cases hz; exact Nat.le_refl _)⟩
      · have he1 : (decide (p.2.2.1 = op) && !p.2.2.2) = false := by simpa using he
        have HN2 : Hid (∀ (m : Nat) q, m < k + 1 → infL[m]? = some q → (decide (q.2.2.1 = op) && !q.2.2.2) = false) := by
          intro m q hm hq
          by_cases hmk : m = k
          · subst hmk
            rw [hp] at hq
            cases hq
            exact he1
          · exact HN.out m q (by omega) hq
        obtain ⟨pn, pl, po, ps⟩ := p
        have hcase : (po == op) = false ∨ ((po == op) = true ∧ ps = true) := by
          by_cases h1 : po = op
          · refine .inr ⟨by simpa using h1, ?_⟩
            simp only [h1, decide_true, Bool.true_and, Bool.not_eq_false'] at he1
            exact he1
          · exact .inl (by simpa using h1)
        have HB := Lib.hid hbel
        clear FS hp hbel hBF he he1
        rcases hcase with h1 | ⟨h1, h2⟩
        all_goals
          go_wp2_with fail
          go_roundw
          case rel => exact ⟨k + 1, by omega, by go_num, HN2, HB.out.alloc hsz _⟩
          case measure => simp [intOf]; omega
    · obtain rfl : k = 14 := by omega
      obtain rfl : O = none := by rw [← HO.out]; exact find_none _ _ fun m y hy => HN.out m y (by have := (List.getElem?_eq_some_iff.1 hy).1; simpa [infL] using this) hy
      have HB := Lib.hid hBF
      clear hbel hBF
      go_wp2_with (with_reducible refine wpList_store_row (o := Oper.mk none (Op.store 109 (.tmp 2) (.tmp 21)) _ _ _ none) rfl 109 (.tmp 2) (.tmp 21) rfl w.heap.size #[.string ⟨#[]⟩, .int .i64 0, .int .i64 0, .bool false] ?zgx ?zgy 109 _ HBX.out ?zgi ?zgo ?zg1 ?zgk)
      case zgx => rfl
      case zgy => rfl
      case zgi => kernel_rfl
      case zgo => rfl
      case zg1 => simp [Value.oneCell']
      go_wp2_with fail
      have hld := box_load (w := wr.setRow w.heap.size #[.string ⟨#[]⟩, .int .i64 0, .int .i64 0, .bool false]) (setRow_heap _ _ _ _ _ _ HBX.out)
      exact bodyPost_ret (v := infV none) (by simp [results, Tryz.results70, asAddr, hld, infV]) rfl ⟨rfl, HB.out.grown (grown_setRow _ _ _) HB.out.size (fun z hz => by cases hz; exact Nat.le_refl _)⟩

end Go.Proofs.YtmdpjahhhfajaaaGreatDoor
set_option linter.unusedVariables false
set_option linter.unusedSimpArgs false
set_option maxRecDepth 100000
namespace Wh
open Go Go.Proofs.YtmdpjahhhfajaaaGreatDoor

def cmpSL : List ByteArray := [⟨#[61]⟩, ⟨#[33, 61]⟩, ⟨#[60]⟩, ⟨#[60, 61]⟩, ⟨#[62]⟩, ⟨#[62, 61]⟩]
def cmpOL : List Int := [10, 11, 12, 13, 12, 13]
theorem symT_one {t : TA} {s s' : ByteArray} (h : symT t s = true) (hne : eqS s s' = false) : symT t s' = false := by
  obtain ⟨hk, hs⟩ := symT_k h
  unfold symT
  rw [hs, hne, Bool.and_false]
theorem cmpO_at {t : TA} {k : Nat} {s : ByteArray} {op : Int} (hs : cmpSL[k]? = some s) (ho : cmpOL[k]? = some op) (h : symT t s = true) : cmpO t = some (op, decide (4 ≤ k)) := by
  have hk : k < 6 := (List.getElem?_eq_some_iff.1 hs).1
  unfold cmpO
  have h6 : k = 0 ∨ k = 1 ∨ k = 2 ∨ k = 3 ∨ k = 4 ∨ k = 5 := by omega
  rcases h6 with rfl | rfl | rfl | rfl | rfl | rfl
  · cases hs; cases ho
    rw [if_pos h]; rfl
  · cases hs; cases ho
    rw [symT_one h (by decide +kernel), if_neg (by simp), if_pos h]; rfl
  · cases hs; cases ho
    rw [symT_one h (by decide +kernel), if_neg (by simp), symT_one h (by decide +kernel), if_neg (by simp), if_pos h]; rfl
  · cases hs; cases ho
    rw [symT_one h (by decide +kernel), if_neg (by simp), symT_one h (by decide +kernel), if_neg (by simp), symT_one h (by decide +kernel), if_neg (by simp), if_pos h]; rfl
  · cases hs; cases ho
    rw [symT_one h (by decide +kernel), if_neg (by simp), symT_one h (by decide +kernel), if_neg (by simp), symT_one h (by decide +kernel), if_neg (by simp), symT_one h (by decide +kernel), if_neg (by simp), if_pos h]; rfl
  · cases hs; cases ho
    rw [symT_one h (by decide +kernel), if_neg (by simp), symT_one h (by decide +kernel), if_neg (by simp), symT_one h (by decide +kernel), if_neg (by simp), symT_one h (by decide +kernel), if_neg (by simp), symT_one h (by decide +kernel), if_neg (by simp), if_pos h]; rfl
theorem cmpO_no {t : TA} (h : ∀ (k : Nat) (s : ByteArray), cmpSL[k]? = some s → symT t s = false) : cmpO t = none := by
  unfold cmpO
  rw [h 0 _ rfl, h 1 _ rfl, h 2 _ rfl, h 3 _ rfl, h 4 _ rfl, h 5 _ rfl]
  rfl
/-- A comparison behind its first operand. -/
def cmpT (ts : List TA) (rd : Nat → PO) (e : List Nd) (j : Nat) : PO :=
  match cmpO (tkA ts j) with
  | none => .ok e j
  | some (op, sw) => seqP (rd (j + 1)) fun e2 j2 => .ok ((if sw = true then e2 ++ e else e ++ e2) ++ [opNd op]) j2
end Wh
namespace Go.Proofs.YtmdpjahhhfajaaaGreatDoor
open Go.RowKit Wh

theorem cells6S {W : World} {g : Nat} (hh : W.heap[g]? = some (.cells #[.string ⟨#[61]⟩, .string ⟨#[33, 61]⟩, .string ⟨#[60]⟩, .string ⟨#[60, 61]⟩, .string ⟨#[62]⟩, .string ⟨#[62, 61]⟩] 9 (0, 0))) (k : Nat) (s : ByteArray) (hs : cmpSL[k]? = some s) : W.cell? ⟨g, k, none⟩ = some (.string s) := by
  have hk : k < 6 := (List.getElem?_eq_some_iff.1 hs).1
  have h6 : k = 0 ∨ k = 1 ∨ k = 2 ∨ k = 3 ∨ k = 4 ∨ k = 5 := by omega
  rcases h6 with rfl | rfl | rfl | rfl | rfl | rfl <;> cases hs
  · exact cell_of_row _ _ 0 _ _ _ hh
  · exact cell_of_row _ _ 1 _ _ _ hh
  · exact cell_of_row _ _ 2 _ _ _ hh
  · exact cell_of_row _ _ 3 _ _ _ hh
  · exact cell_of_row _ _ 4 _ _ _ hh
  · exact cell_of_row _ _ 5 _ _ _ hh
theorem cells6I {W : World} {g : Nat} (hh : W.heap[g]? = some (.cells #[.int .i64 10, .int .i64 11, .int .i64 12, .int .i64 13, .int .i64 12, .int .i64 13] 3 (0, 0))) (k : Nat) (s : Int) (hs : cmpOL[k]? = some s) : W.cell? ⟨g, k, none⟩ = some (.int .i64 s) := by
  have hk : k < 6 := (List.getElem?_eq_some_iff.1 hs).1
  have h6 : k = 0 ∨ k = 1 ∨ k = 2 ∨ k = 3 ∨ k = 4 ∨ k = 5 := by omega
  rcases h6 with rfl | rfl | rfl | rfl | rfl | rfl <;> cases hs
  · exact cell_of_row _ _ 0 _ _ _ hh
  · exact cell_of_row _ _ 1 _ _ _ hh
  · exact cell_of_row _ _ 2 _ _ _ hh
  · exact cell_of_row _ _ 3 _ _ _ hh
  · exact cell_of_row _ _ 4 _ _ _ hh
  · exact cell_of_row _ _ 5 _ _ _ hh

/-- Two operands that are joined. -/
theorem RdP.two {w w5 w6 : World} {b : Nat} {sl : Value} {len i d : Nat} {f lvl i1 : Nat} {ts : List TA} {R : PO} {l1 l2 l0 : List Nd} {t : Nd} {v6 : Value} {j2 dd2 : Nat} {x2 : Int}
    (hown : w6.ownsRow w5.heap.size 53 6 v6 (l1.length + l2.length + 1) (nodesL (l1 ++ l2 ++ [t]))) (hs : w.heap.size ≤ w5.heap.size) (hb : Below w5.heap.size w5 w6) (hP : Pr w5 b sl j2 dd2 x2) (hg : w.grownBy w5 (some b))
    (hl : l1.length + l2.length + 1 ≤ len - i) (hbd : j2 < len ∧ dd2 ≤ 300) (hc : (x2 = 0 ∧ prT ts f lvl i1 d = .ok l0 j2 ∧ dd2 = d) ∨ (¬ x2 = 0 ∧ prT ts f lvl i1 d = .bad x2 j2 ∧ d ≤ dd2))
    {k : List Nd → Nat → PO} (hR : R = seqP (prT ts f lvl i1 d) k) (hk : k l0 j2 = .ok (l1 ++ l2 ++ [t]) j2 := by rfl) : RdP w b sl len i d R (.returned v6) w6 := by
  have e : (l1 ++ l2 ++ [t]).length = l1.length + l2.length + 1 := by simp only [List.length_append, List.length_cons, List.length_nil]
  refine ⟨v6, l1 ++ l2 ++ [t], j2, dd2, x2, rfl, by rw [e]; exact own_mono hown hs, ⟨by rw [e]; exact hl, hbd⟩, hP.below hb hP.lt, hg.trans (grown_below hb _), ?_⟩
  rcases hc with ⟨h1, h2, h3⟩ | ⟨h1, h2, h3⟩
  · exact .inl ⟨h1, by rw [hR, h2, seqP_ok, hk], h3⟩
  · exact .inr ⟨h1, by rw [hR, h2, seqP_bad], h3⟩

set_option maxHeartbeats 8000000 in
theorem pcompare_step {ts : List TA} {a : Option Addr} {len cap f : Nat} (hT : TkH ts a len) (H : Reads8 ts a len cap f 4 167) : Reads8 ts a len cap (f + 1) 3 134 := by
  intro i d b w hP hK hfar hi hm hd h8 h88
  have hR : prT ts (f + 1) 3 i d = seqP (prT ts f 4 i d) (cmpT ts fun k => prT ts f 4 k d) := by rw [prT, if_neg (by decide), if_pos rfl]; rfl
  rw [hR]
  obtain ⟨R, hRR⟩ : ∃ R, seqP (prT ts f 4 i d) (cmpT ts fun k => prT ts f 4 k d) = R := ⟨_, rfl⟩
  rw [hRR]
  have HRR := Lib.hid hRR
  have hG := pr_gd hT.el f 4 i d (by omega) (by rw [hT.ln]; exact hi) (by rw [hT.ln]; omega) (At8.no (by omega))
  have C := Lib.hid (H i d b w hP hK hfar hi (by omega) hd (At8.no (by omega)) (by omega))
  have hbw := hP.lt
  have HK := Lib.hid hK
  have HFAR := Lib.hid hfar
  have HH := Lib.hid H
  have HGD := Lib.hid hG
  clear hP hK hfar h8 h88 H hR hG hRR
  go_enter Tryz.func134, Tryz.ntmps134
  go_wp2_with fail
  refine C.out.mono ?_
  rintro e w1 ⟨v, l, j, dd, x, rfl, hown, hbd, hP1, hg1, hc⟩
  have hs1 := hg1.size
  have hbr := hP1.lt
  obtain ⟨A, hA⟩ : ∃ A, Obj.cells #[.string ⟨#[61]⟩, .string ⟨#[33, 61]⟩, .string ⟨#[60]⟩, .string ⟨#[60, 61]⟩, .string ⟨#[62]⟩, .string ⟨#[62, 61]⟩] 9 = A := ⟨_, rfl⟩
  obtain ⟨B, hB⟩ : ∃ B, Obj.cells #[.int .i64 10, .int .i64 11, .int .i64 12, .int .i64 13, .int .i64 12, .int .i64 13] 3 = B := ⟨_, rfl⟩
  have hsz : (w1.alloc A).heap.size = w1.heap.size + 1 := by simp
  have HSY : Hid (∀ (k : Nat) (s : ByteArray), cmpSL[k]? = some s → ((w1.alloc A).alloc B).cell? ⟨w1.heap.size, k, none⟩ = some (.string s)) :=
    cells6S (by rw [Below.heap_alloc _ _ _ (by omega), heap_alloc_new, hA])
  have HOP : Hid (∀ (k : Nat) (o : Int), cmpOL[k]? = some o → ((w1.alloc A).alloc B).cell? ⟨w1.heap.size + 1, k, none⟩ = some (.int .i64 o)) :=
    cells6I (by rw [← hsz, heap_alloc_new, hB])
  have hb12 : Below w1.heap.size w1 ((w1.alloc A).alloc B) := ((Below.refl _ _).alloc (Nat.le_refl _) _).alloc (by omega) _
  have HOW := Lib.hid (own_below hown hb12)
  have HP2 := Lib.hid (hP1.below hb12 hbr)
  have HG2 := Lib.hid (hg1.trans (grown_below hb12 (some b)))
  have HC := Lib.hid (And.intro hbd hc)
  have HSZ : Hid (((w1.alloc A).alloc B).heap.size = w1.heap.size + 2) := by show _ = _; simp
  clear hown hP1 hg1 hc C hbd
  go_wp2_with fail
  try simp only [hA, hB]
  generalize (w1.alloc A).alloc B = w2 at *
  go_loopw [6] (fun iv wr => ∃ k : Nat, k ≤ 6 ∧ iv = .int .i64 k ∧ Below w2.heap.size w2 wr ∧ Hid (∀ (m : Nat) (s : ByteArray), m < k → cmpSL[m]? = some s → isS x (tkA ts j) 5 s = false)) (fun iv _ => 6 - (intOf iv).toNat)
  case atStart => exact ⟨0, by omega, rfl, Below.refl _ _, fun m s h => absurd h (by omega)⟩
  case round =>
    obtain ⟨k, hk, rfl, hbel, HNO⟩ := hrel
    have hw2 := HSZ.out
    have hPr := HP2.out.below hbel (by omega)
    have hKr := toks_grown HK.out (HG2.out.trans (grown_below hbel (some b))) HFAR.out
    have CI := Lib.hid (fun S => pis_any b a len cap ts j dd x S wr hPr hKr hT.one (by have := hT.le; omega) (by have := HC.out.1.2.1; have := hT.le; omega) (tkA ts j) (hT.get j))
    have hbw2 : b < w2.heap.size := by omega
    by_cases hlt : k < 6
    · obtain ⟨s, hs⟩ : ∃ s, cmpSL[k]? = some s := ⟨_, List.getElem?_eq_getElem (by simpa [cmpSL] using hlt)⟩
      obtain ⟨o, ho⟩ : ∃ s, cmpOL[k]? = some s := ⟨_, List.getElem?_eq_getElem (by simpa [cmpOL] using hlt)⟩
      have c1 := HSY.out k s hs
      rw [← hbel.cell (p := ⟨w1.heap.size, k, none⟩) (by show w1.heap.size < _; omega)] at c1
      have CS := Lib.hid (CI.out s)
      have HBEL := Lib.hid hbel
      have hkm : k < 100 := by omega
      by_cases hy : isS x (tkA ts j) 5 s = true
      · have hx : x = 0 := by
          by_cases hx : x = 0
          · exact hx
          · rw [isS_bad hx] at hy; cases hy
        subst hx
        have hsy : symT (tkA ts j) s = true := hy
        rw [hy] at CS
        have hO := cmpO_at hs ho hsy
        obtain ⟨hbd, hc⟩ := HC.out
        rcases hc with ⟨_, hc1, hc2⟩ | ⟨hx, _⟩
        rotate_left
        · exact absurd rfl hx
        subst hc2
        have hg1 := HGD.out
        rw [hc1] at hg1
        obtain ⟨g1, g2, g3, g4, g5⟩ := hg1
        have g5 := g5 (by omega)
        rw [hT.ln] at g2
        have hjn := hT.next g2 (cmpO_k hO)
        have hjb : j < 100000 := by have := hT.le; omega
        have HR : Hid (R = seqP (prT ts f 4 (j + 1) dd) fun e2 j2 => .ok ((if decide (4 ≤ k) = true then e2 ++ l else l ++ e2) ++ [opNd o]) j2) := by
          show _ = _
          rw [← HRR.out, hc1, seqP_ok]
          unfold cmpT
          rw [hO]
        have HF := Lib.hid (And.intro g1 (And.intro g3 (And.intro g4 hbd)))
        have HPR := Lib.hid hPr
        clear hbel hPr hKr CI hy hs hsy hO hbd hc1 g1 g3 g4 HC HGD HRR HNO
        have c2 := HOP.out k o ho
        have HC2 := Lib.hid c2
        clear ho c2 HSY HOP
        go_wp2_with fail
        refine CS.out.mono ?_
        rintro e w3 ⟨rfl, hb3⟩
        have hb23 := HBEL.out.trans (hb3.mono HBEL.out.size)
        have hP3 := HPR.out.below hb3 HPR.out.lt
        have HP3 := Lib.hid hP3
        have p1 := hP3.c1
        have pf := hP3.free
        have HB23 := Lib.hid hb23
        clear hb3 hb23 hP3 CS HBEL HPR c1
        go_wp2_with fail
        have hP4 := Pr.inc1 HP3.out
        have hg24 : w2.grownBy (w3.setCell ⟨b, 1, none⟩ (.int .i64 ((j : Int) + 1))) (some b) := (grown_below HB23.out _).trans (grown_set _ _ _ _)
        have HG24 := Lib.hid hg24
        have HO4 := Lib.hid (own_parser HOW.out hg24 hbw)
        have HG4 := Lib.hid (HG2.out.trans hg24)
        have hK4 := toks_grown HK.out HG4.out HFAR.out
        have C4 := Lib.hid (HH.out (j + 1) dd b _ hP4 hK4 HFAR.out hjn (by have := HF.out.1; omega) (by omega) (At8.no (by omega)) (by omega))
        have hs4 := HG4.out.size
        generalize w3.setCell ⟨b, 1, none⟩ (.int .i64 ((j : Int) + 1)) = w4 at *
        clear hP4 hK4 hg24 HP3 HB23 p1 pf HH
        refine C4.out.mono ?_
        rintro e w5 ⟨v2, l2, j2, dd2, x2, rfl, hown2, hbd2, hPr2, hg5, hc2⟩
        have HO5 := Lib.hid (own_parser HO4.out hg5 hbw)
        have hg25 := HG24.out.trans hg5
        have c5 := hg25.cell HC2.out (by simp; omega)
        have HG5 := Lib.hid (HG4.out.trans hg5)
        have hs5 := HG5.out.size
        obtain ⟨a1, c1, rfl, q1, qc1, qm1, qn1, qx1⟩ := own_nodes HO5.out rfl
        obtain ⟨a2, c2, rfl, q2, qc2, qm2, qn2, qx2⟩ := own_nodes hown2 rfl
        have CJ1 := Lib.hid (pjoin8_any a1 l.length c1 l a2 l2.length c2 l2 o w5 q1 qn1 (by have := HF.out.2.2.2.1; have := hT.le; omega) q2 qn2 (by have := hbd2.1; have := hT.le; omega))
        have CJ2 := Lib.hid (pjoin8_any a2 l2.length c2 l2 a1 l.length c1 l o w5 q2 qn2 (by have := hbd2.1; have := hT.le; omega) q1 qn1 (by have := HF.out.2.2.2.1; have := hT.le; omega))
        have HREST := Lib.hid (And.intro hPr2 (And.intro hbd2 hc2))
        clear C4 hown2 hPr2 hg5 hc2 hg25 hbd2 HO4 HG4 HO5 q1 q2 qx1 qx2 qn1 qn2 HG24
        by_cases h4 : 4 ≤ k
        · have h4i : (4 : Int) ≤ (k : Int) := by omega
          have HR2 := HR.out
          simp only [decide_eq_true h4, if_true] at HR2
          have HR3 := Lib.hid HR2
          clear HR HR2
          clear CJ1
          go_wp2_with fail
          refine CJ2.out.mono ?_
          rintro e w6 ⟨v6, rfl, hown6, hb6⟩
          obtain ⟨hPr2, hbd2, hc2⟩ := HREST.out
          have F := Lib.hid (RdP.two (l1 := l2) (l2 := l) (i := i) (len := len) (w := w) (w5 := w5) (w6 := w6) (b := b) (sl := .slice a len cap) (t := opN o) (R := R) hown6 hs5 hb6 hPr2 HG5.out (by have := HF.out.2.2.1; have := HF.out.1; have := hbd2.1; omega) hbd2.2 hc2 HR3.out)
          clear hown6 hb6 hPr2 hbd2 hc2 CJ2 HR3 HG5 HC2 c5
          go_wp2_with fail
          go_ret
          exact F.out
        · have h4i : ¬ (4 : Int) ≤ (k : Int) := by omega
          have HR2 := HR.out
          simp only [decide_eq_false h4, Bool.false_eq_true, if_false] at HR2
          have HR3 := Lib.hid HR2
          clear HR HR2
          clear CJ2
          go_wp2_with fail
          refine CJ1.out.mono ?_
          rintro e w6 ⟨v6, rfl, hown6, hb6⟩
          obtain ⟨hPr2, hbd2, hc2⟩ := HREST.out
          have F := Lib.hid (RdP.two (l1 := l) (l2 := l2) (i := i) (len := len) (w := w) (w5 := w5) (w6 := w6) (b := b) (sl := .slice a len cap) (t := opN o) (R := R) hown6 hs5 hb6 hPr2 HG5.out (by have := HF.out.2.2.1; have := HF.out.1; have := hbd2.1; omega) hbd2.2 hc2 HR3.out)
          clear hown6 hb6 hPr2 hbd2 hc2 CJ1 HR3 HG5 HC2 c5
          go_wp2_with fail
          go_ret
          exact F.out
      · have hy' : isS x (tkA ts j) 5 s = false := by simpa using hy
        rw [hy'] at CS
        clear hbel hPr hKr CI hy
        go_wp2_with fail
        refine CS.out.mono ?_
        rintro e w3 ⟨rfl, hb3⟩
        have HB3 := Lib.hid (HBEL.out.trans (hb3.mono HBEL.out.size))
        clear hb3 CS
        go_wp2_with fail
        go_roundw
        case rel =>
          refine ⟨k + 1, by omega, by go_num, HB3.out, fun m s' hm hs' => ?_⟩
          by_cases hmk : m = k
          · subst hmk
            rw [hs] at hs'
            cases hs'
            exact hy'
          · exact HNO.out m s' (by omega) hs'
        case measure => simp [intOf]; omega
    · obtain rfl : k = 6 := by omega
      have F : Hid (RdP w b (.slice a len cap) len i d R (.returned v) wr) := by
        obtain ⟨hbd, hc⟩ := HC.out
        refine ⟨v, l, j, dd, x, rfl, own_below HOW.out hbel, hbd, hPr, HG2.out.trans (grown_below hbel (some b)), ?_⟩
        rcases hc with ⟨h1, h2, h3⟩ | ⟨h1, h2, h3⟩
        · refine .inl ⟨h1, ?_, h3⟩
          rw [← HRR.out, h2, seqP_ok]
          unfold cmpT
          rw [cmpO_no (fun m s hm => by have := HNO.out m s (by have := (List.getElem?_eq_some_iff.1 hm).1; simpa [cmpSL] using this) hm; rw [h1] at this; exact this)]
        · exact .inr ⟨h1, by rw [← HRR.out, h2]; rfl, h3⟩
      clear hbel hPr hKr CI
      go_wp2_with fail
      go_ret
      exact F.out

end Go.Proofs.YtmdpjahhhfajaaaGreatDoor
