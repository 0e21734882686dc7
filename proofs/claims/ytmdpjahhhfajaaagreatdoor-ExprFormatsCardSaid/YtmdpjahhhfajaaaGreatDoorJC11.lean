/-
  The reference's parser: call. · The program: infixOfWord, infixOfOp. · The reference's parser: compare. · The reference's parser: or. · The reference's parser: and, concat, sum, product (written by gen8loop · The reference's parser: named, primary; all levels.
-/
import Derived.Test.YtmdpjahhhfajaaaGreatDoorJC10
import Derived.Test.YtmdpjahhhfajaaaGreatDoorJC09
import Derived.LoopTactic
set_option linter.unusedVariables false
set_option linter.unusedSimpArgs false
set_option maxRecDepth 100000
namespace Wh
open Go Go.Proofs.YtmdpjahhhfajaaaGreatDoor
end Wh
namespace Go.Proofs.YtmdpjahhhfajaaaGreatDoor
open Go.RowKit Wh
theorem RdP.at {w w1 w' : World} {b : Nat} {sl : Value} {len i i1 d : Nat} {P : PO} {e : Ending} (hi : i ≤ i1) (hg : w.grownBy w1 (some b)) (h : RdP w1 b sl len i1 d P e w') : RdP w b sl len i d P e w' := by
 obtain ⟨v, l, j, dd, x, rfl, hown, hb, hP, hg1, hc⟩ := h
 exact ⟨v, l, j, dd, x, rfl, own_mono hown hg.size, ⟨by omega, hb.2⟩, hP, hg.trans hg1, hc⟩
def CaRel (w : World) (b : Nat) (sl : Value) (ts : List TA) (rd : Nat → PO) (s : ByteArray) (len i d : Nat) (R : PO) (ev nv : Value) (wr : World) : Prop :=
 ∃ (l : List Nd) (n j dd : Nat) (x : Int), nv = .int .i64 n ∧ wr.ownsRow w.heap.size 53 6 ev l.length (nodesL l) ∧ (l.length ≤ len - i ∧ j < len ∧ dd ≤ 300 ∧ n ≤ 200000) ∧ Pr wr b sl j dd x ∧ w.grownBy wr (some b) ∧
  ((x = 0 ∧ dd = d + 1 ∧ i + 2 ≤ j ∧ n ≤ j ∧ ∃ (rs : List (List Nd)) (g : Nat), rs.length = n ∧ rs.flatten = l ∧ l.length ≤ j - (i + 2) ∧ len ≤ j + g ∧ (¬ n = 0 → symT (tkA ts j) clsS = false → symT (tkA ts j) comS = true) ∧ (if symT (tkA ts j) clsS = true then finT s rs j else agT ts rd s g rs (if n = 0 then j else j + 1)) = R) ∨
   (¬ x = 0 ∧ R = .bad x j ∧ d ≤ dd))
theorem CaRel.next {w wr w2 : World} {b : Nat} {sl : Value} {ts : List TA} {rd : Nat → PO} {s : ByteArray} {len i d : Nat} {R : PO} {ev nv : Value} (h : CaRel w b sl ts rd s len i d R ev nv wr) (hb : Below wr.heap.size wr w2) : CaRel w b sl ts rd s len i d R ev nv w2 := by
 obtain ⟨l, n, j, dd, x, h1, h2, h3, h4, h5, h6⟩ := h
 exact ⟨l, n, j, dd, x, h1, own_below h2 hb, h3, h4.below hb h4.lt, h5.trans (grown_below hb _), h6⟩
theorem CaRel.step {w w5 : World} {b : Nat} {sl : Value} {ts : List TA} {rd : Nat → PO} {s : ByteArray} {len i d n j k g : Nat} {R : PO} {l l2 : List Nd} {rs : List (List Nd)} {j2 dd2 : Nat} {x2 : Int} {v5 : Value} {f : Nat} {a : Option Addr} (hT : TkH ts a len)
  (hrd : rd k = prT ts f 0 k (d + 1)) (hjk : j ≤ k) (hk : k < len) (hm : 9 * (len - k) + 8 < f) (hij : i + 2 ≤ j) (hnj : n ≤ j) (hrs : rs.length = n) (hfl : rs.flatten = l) (hll : l.length ≤ j - (i + 2)) (hlen : len ≤ j + g)
  (hR : agT ts rd s g rs k = R) (hb2 : l2.length ≤ len - k ∧ j2 < len ∧ dd2 ≤ 300) (hP : Pr w5 b sl j2 dd2 x2) (hg : w.grownBy w5 (some b)) (hown : w5.ownsRow w.heap.size 53 6 v5 (l.length + l2.length) (nodesL (l ++ l2)))
  (hc : (x2 = 0 ∧ prT ts f 0 k (d + 1) = .ok l2 j2 ∧ dd2 = d + 1) ∨ (¬ x2 = 0 ∧ prT ts f 0 k (d + 1) = .bad x2 j2 ∧ d + 1 ≤ dd2)) :
  ((¬ x2 = 0 ∨ (x2 = 0 ∧ (symT (tkA ts j2) clsS = true ∨ symT (tkA ts j2) comS = true))) → CaRel w b sl ts rd s len i d R v5 (.int .i64 ((n + 1 : Nat) : Int)) w5 ∧ (if x2 = 0 then len + 1 - j2 else 0) < len + 1 - j) ∧
  (x2 = 0 → symT (tkA ts j2) clsS = false → symT (tkA ts j2) comS = false → R = .bad 3 j2 ∧ dd2 = d + 1) := by
 obtain ⟨g, rfl⟩ : ∃ k, g = k + 1 := ⟨g - 1, by omega⟩
 have hG := pr_gd hT.el f 0 k (d + 1) (by omega) (by rw [hT.ln]; exact hk) (by rw [hT.ln]; omega) (At8.no (by omega))
 have e : (l ++ l2).length = l.length + l2.length := List.length_append
 unfold agT at hR
 rw [hrd] at hR
 refine ⟨fun hcond => ⟨⟨l ++ l2, n + 1, j2, dd2, x2, rfl, by rw [e]; exact hown, ⟨by rw [e]; omega, hb2.2.1, hb2.2.2, by have := hT.le; omega⟩, hP, hg, ?_⟩, ?_⟩, fun hx h1 h2 => ?_⟩
 ·rcases hc with ⟨h1, h2, h3⟩ | ⟨h1, h2, h3⟩
  ·rw [h2] at hG hR
   obtain ⟨g1, g2, g3, g4, g5⟩ := hG
   simp only at hR
   refine .inl ⟨h1, h3, by omega, by omega, rs ++ [l2], g, by simp [hrs], by simp [hfl], by rw [e]; omega, by omega, fun _ hcl => ?_, ?_⟩
   ·rcases hcond with hx | ⟨_, hx⟩
    ·exact absurd h1 hx
    ·rcases hx with hx | hx
     ·rw [hcl] at hx; cases hx
     ·exact hx
   ·rw [if_neg (by omega : ¬ n + 1 = 0)]
    by_cases hcl : symT (tkA ts j2) clsS = true
    ·rw [if_pos hcl] at hR ⊢; exact hR
    ·rw [if_neg hcl] at hR ⊢
     have hcm : symT (tkA ts j2) comS = true := by
      rcases hcond with hx | ⟨_, hx⟩
      ·exact absurd h1 hx
      ·rcases hx with hx | hx
       ·exact absurd hx hcl
       ·exact hx
     rw [if_pos hcm] at hR
     exact hR
  ·rw [h2] at hR
   exact .inr ⟨h1, hR.symm, by omega⟩
 ·rcases hc with ⟨h1, h2, h3⟩ | ⟨h1, h2, h3⟩
  ·rw [h2] at hG
   obtain ⟨g1, g2, g3, g4, g5⟩ := hG
   rw [if_pos h1]
   omega
  ·rw [if_neg h1]
   omega
 ·rcases hc with ⟨h3, h4, h5⟩ | ⟨h3, _⟩
  ·rw [h4] at hR
   simp only [h1, h2, Bool.false_eq_true, if_false] at hR
   exact ⟨hR.symm, h5⟩
  ·exact absurd hx h3
theorem grown_setRow (w : World) (g : Nat) (cs : Array Value) : w.grownBy (w.setRow g cs) (some g) := ⟨rfl, rfl, rfl, by simp, fun k hk hne => setRow_other w g k cs (fun h => hne (by rw [h]))⟩
end Go.Proofs.YtmdpjahhhfajaaaGreatDoor
namespace Go.Proofs.YtmdpjahhhfajaaaGreatDoor
open Go.RowKit Wh
def TabI (w : World) : Prop := 0 < w.heap.size ∧ w.rangeAt 0 0 infC
theorem TabI.below {w w' : World} {B : Nat} (h : TabI w) (hb : Below B w w') (hB : w.heap.size ≤ B) : TabI w' :=
 ⟨Nat.lt_of_lt_of_le h.1 hb.size, fun j v hv => by rw [hb.cell (p := ⟨0, 0 + j, none⟩) (Nat.lt_of_lt_of_le h.1 hB)]; exact h.2 j v hv⟩
theorem inf_index (k : Nat) (p : ByteArray × Int × Int × Bool) (h : infL[k]? = some p) (W : World) : (Instr.index 132 (.agg infC.toArray) (.int .i64 k)).run Tryz.prog W = .ok (.agg #[.string p.1, .int .i64 p.2.1, .int .i64 p.2.2.1, .bool p.2.2.2]) W := by
 have hk : k < 14 := (List.getElem?_eq_some_iff.1 h).1
 have h5 : k = 0 ∨ k = 1 ∨ k = 2 ∨ k = 3 ∨ k = 4 ∨ k = 5 ∨ k = 6 ∨ k = 7 ∨ k = 8 ∨ k = 9 ∨ k = 10 ∨ k = 11 ∨ k = 12 ∨ k = 13 := by omega
 rcases h5 with rfl | rfl | rfl | rfl | rfl | rfl | rfl | rfl | rfl | rfl | rfl | rfl | rfl | rfl <;> cases h
 all_goals rfl
def infV (o : Option (ByteArray × Int × Int × Bool)) : Value :=
 match o with
 | some p => .tuple #[.agg #[.string p.1, .int .i64 p.2.1, .int .i64 p.2.2.1, .bool p.2.2.2], .bool true]
 | none => .tuple #[.agg #[.string ⟨#[]⟩, .int .i64 0, .int .i64 0, .bool false], .bool false]
theorem box_load {w : World} {B : Nat} {x y z u : Value} (h : w.heap[B]? = some (.cells #[x, y, z, u] 109 (0, 0))) : (loadVar 109 ⟨B, 0, none⟩).run Tryz.prog w = .ok (.agg #[x, y, z, u]) w := by
 refine run_loadVar_mid w B 0 _ [x, y, z, u] _ (fun j v hv => ?_) Tryz.underlying109 rfl (by kernel_rfl)
 rw [Nat.zero_add]
 exact (cell_of_row _ _ j _ _ _ h).trans (by rw [← Array.getElem?_toList]; exact hv)
set_option maxHeartbeats 8000000 in
theorem infixOfWord_any (s : ByteArray) (l : Int) (w : World) (hT : TabI w) : Calls Tryz.prog 93 #[.string s, .int .i64 l] w fun e w' => e = .returned (infV (infW s l)) ∧ Below w.heap.size w w' := by
 obtain ⟨O, hO⟩ : ∃ O, infW s l = O := ⟨_, rfl⟩
 rw [hO]
 have HO := Lib.hid hO
 clear hO
 obtain ⟨A, hA⟩ : ∃ A, infC.toArray = A := ⟨_, rfl⟩
 have HI := Lib.hid (fun k p h W => inf_index k p h W)
 rw [hA] at HI
 have hb0 : Below w.heap.size w (w.alloc (.cells #[.string ⟨#[]⟩, .int .i64 0, .int .i64 0, .bool false] 109)) := (Below.refl _ _).alloc (Nat.le_refl _) _
 have hr := (hT.below hb0 (Nat.le_refl _)).2
 have hnew := heap_alloc_new w (.cells #[.string ⟨#[]⟩, .int .i64 0, .int .i64 0, .bool false] 109)
 have HNEW := Lib.hid hnew
 clear hnew
 go_enter Tryz.func93, Tryz.ntmps93
 go_wp2_with (with_reducible refine wpList_load_mid (op := Oper.mk (some 8) (Op.load 132 (.global 0)) _ _ _ none) rfl 132 (.global 0) rfl 0 0 ?hx infC _ hr Tryz.underlying132 ?hd ?hi ?hk)
 case hx => rfl
 case hd => rfl
 case hi => kernel_rfl
 have hs0 := hb0.size
 have hlt0 : w.heap.size < (w.alloc (.cells #[.string ⟨#[]⟩, .int .i64 0, .int .i64 0, .bool false] 109)).heap.size := by simp
 have HB0 := Lib.hid hb0
 generalize w.alloc (.cells #[.string ⟨#[]⟩, .int .i64 0, .int .i64 0, .bool false] 109) = w1 at *
 clear hA hr hT hb0
 go_loopw [9] (fun iv wr => ∃ k : Nat, k ≤ 14 ∧ iv = .int .i64 k ∧ Hid (∀ (m : Nat) p, m < k → infL[m]? = some p → (eqS p.1 s && decide (p.2.1 = l)) = false) ∧ Below w1.heap.size w1 wr) (fun iv _ => 14 - (intOf iv).toNat)
 case atStart => exact ⟨0, by omega, rfl, fun m p h => by omega, Below.refl _ _⟩
 case round =>
  obtain ⟨k, hk, rfl, HN, hbel⟩ := hrel
  have hsz := hbel.size
  have HBX : Hid (wr.heap[w.heap.size]? = some (.cells #[.string ⟨#[]⟩, .int .i64 0, .int .i64 0, .bool false] 109 (0, 0))) := by
   show _ = _
   rw [hbel.block _ hlt0]
   exact HNEW.out
  have hBF := HB0.out.trans (hbel.mono hs0)
  by_cases hlt : k < 14
  ·obtain ⟨p, hp⟩ : ∃ p, infL[k]? = some p := ⟨_, List.getElem?_eq_getElem (by simpa [infL] using hlt)⟩
   have hix := HI.out k p hp
   have FS := Lib.hid (find_step (fun p => eqS p.1 s && decide (p.2.1 = l)) infL k p hp (fun m y hm hy => HN.out m y hm hy))
   by_cases he : (eqS p.1 s && decide (p.2.1 = l)) = true
   ·obtain rfl : O = some p := by rw [← HO.out]; exact FS.out he
    rw [Bool.and_eq_true, decide_eq_true_eq] at he
    obtain ⟨he1, he2⟩ := he
    have he3 : (p.1.toList == s.toList) = true := he1
    obtain ⟨pn, pl, po, ps⟩ := p
    simp only at he2 he3 hix
    subst he2
    clear FS hp HO he1
    have HB := Lib.hid hBF
    have HSB : Hid ((wr.alloc (.cells #[.string pn, .int .i64 pl, .int .i64 po, .bool ps] 109)).heap[w.heap.size]? = some (.cells #[.string ⟨#[]⟩, .int .i64 0, .int .i64 0, .bool false] 109 (0, 0))) := by
     show _ = _
     rw [Below.heap_alloc _ _ _ (by omega)]
     exact HBX.out
    clear hbel hBF
    go_wp2_with (with_reducible refine wpList_store_row (o := Oper.mk none (Op.store 109 (.tmp 4) (.tmp 22)) _ _ _ none) rfl 109 (.tmp 4) (.tmp 22) rfl w.heap.size #[.string pn, .int .i64 pl, .int .i64 po, .bool ps] ?gx ?gy 109 _ HSB.out ?gi ?go ?g1 ?gk)
    case gx => rfl
    case gy => rfl
    case gi => kernel_rfl
    case go => rfl
    case g1 => simp [Value.oneCell']
    go_wp2_with fail
    have hld := box_load (w := (wr.alloc (.cells #[.string pn, .int .i64 pl, .int .i64 po, .bool ps] 109)).setRow w.heap.size #[.string pn, .int .i64 pl, .int .i64 po, .bool ps]) (setRow_heap _ _ _ _ _ _ HSB.out)
    exact bodyPost_ret (v := infV (some (pn, pl, po, ps))) (by simp [results, Tryz.results93, asAddr, hld, infV]) rfl ⟨rfl, (HB.out.alloc HB.out.size _).grown (grown_setRow _ _ _) (by have := HB.out.size; simp; omega) (fun z hz => by cases hz; exact Nat.le_refl _)⟩
   ·have he1 : (eqS p.1 s && decide (p.2.1 = l)) = false := by simpa using he
    have HN2 : Hid (∀ (m : Nat) q, m < k + 1 → infL[m]? = some q → (eqS q.1 s && decide (q.2.1 = l)) = false) := by
     intro m q hm hq
     by_cases hmk : m = k
     ·subst hmk
      rw [hp] at hq
      cases hq
      exact he1
     ·exact HN.out m q (by omega) hq
    obtain ⟨pn, pl, po, ps⟩ := p
    have hcase : (pn.toList == s.toList) = false ∨ ((pn.toList == s.toList) = true ∧ (pl == l) = false) := by
     by_cases h1 : (pn.toList == s.toList) = true
     ·refine .inr ⟨h1, ?_⟩
      have h2 : eqS pn s = true := h1
      simp only [h2, Bool.true_and, decide_eq_false_iff_not] at he1
      simpa using he1
     ·exact .inl (by simpa using h1)
    have HB := Lib.hid hbel
    clear FS hp hbel hBF he he1
    rcases hcase with h1 | ⟨h1, h2⟩
    all_goals
     go_wp2_with fail
     go_roundw
     case rel => exact ⟨k + 1, by omega, by go_num, HN2, HB.out.alloc hsz _⟩
     case measure => simp [intOf]; omega
  ·obtain rfl : k = 14 := by omega
   obtain rfl : O = none := by rw [← HO.out]; exact find_none _ _ fun m y hy => HN.out m y (by have := (List.getElem?_eq_some_iff.1 hy).1; simpa [infL] using this) hy
   have HB := Lib.hid hBF
   clear hbel hBF
   go_wp2_with (with_reducible refine wpList_store_row (o := Oper.mk none (Op.store 109 (.tmp 4) (.tmp 24)) _ _ _ none) rfl 109 (.tmp 4) (.tmp 24) rfl w.heap.size #[.string ⟨#[]⟩, .int .i64 0, .int .i64 0, .bool false] ?zgx ?zgy 109 _ HBX.out ?zgi ?zgo ?zg1 ?zgk)
   case zgx => rfl
   case zgy => rfl
   case zgi => kernel_rfl
   case zgo => rfl
   case zg1 => simp [Value.oneCell']
   go_wp2_with fail
   have hld := box_load (w := wr.setRow w.heap.size #[.string ⟨#[]⟩, .int .i64 0, .int .i64 0, .bool false]) (setRow_heap _ _ _ _ _ _ HBX.out)
   exact bodyPost_ret (v := infV none) (by simp [results, Tryz.results93, asAddr, hld, infV]) rfl ⟨rfl, HB.out.grown (grown_setRow _ _ _) HB.out.size (fun z hz => by cases hz; exact Nat.le_refl _)⟩
set_option maxHeartbeats 8000000 in
theorem infixOfOp_any (op : Int) (w : World) (hT : TabI w) : Calls Tryz.prog 70 #[.int .i64 op] w fun e w' => e = .returned (infV (infO op)) ∧ Below w.heap.size w w' := by
 obtain ⟨O, hO⟩ : ∃ O, infO op = O := ⟨_, rfl⟩
 rw [hO]
 have HO := Lib.hid hO
 clear hO
 obtain ⟨A, hA⟩ : ∃ A, infC.toArray = A := ⟨_, rfl⟩
 have HI := Lib.hid (fun k p h W => inf_index k p h W)
 rw [hA] at HI
 have hb0 : Below w.heap.size w (w.alloc (.cells #[.string ⟨#[]⟩, .int .i64 0, .int .i64 0, .bool false] 109)) := (Below.refl _ _).alloc (Nat.le_refl _) _
 have hr := (hT.below hb0 (Nat.le_refl _)).2
 have hnew := heap_alloc_new w (.cells #[.string ⟨#[]⟩, .int .i64 0, .int .i64 0, .bool false] 109)
 have HNEW := Lib.hid hnew
 clear hnew
 go_enter Tryz.func70, Tryz.ntmps70
 go_wp2_with (with_reducible refine wpList_load_mid (op := Oper.mk (some 6) (Op.load 132 (.global 0)) _ _ _ none) rfl 132 (.global 0) rfl 0 0 ?hx infC _ hr Tryz.underlying132 ?hd ?hi ?hk)
 case hx => rfl
 case hd => rfl
 case hi => kernel_rfl
 have hs0 := hb0.size
 have hlt0 : w.heap.size < (w.alloc (.cells #[.string ⟨#[]⟩, .int .i64 0, .int .i64 0, .bool false] 109)).heap.size := by simp
 have HB0 := Lib.hid hb0
 generalize w.alloc (.cells #[.string ⟨#[]⟩, .int .i64 0, .int .i64 0, .bool false] 109) = w1 at *
 clear hA hr hT hb0
 go_loopw [7] (fun iv wr => ∃ k : Nat, k ≤ 14 ∧ iv = .int .i64 k ∧ Hid (∀ (m : Nat) p, m < k → infL[m]? = some p → (decide (p.2.2.1 = op) && !p.2.2.2) = false) ∧ Below w1.heap.size w1 wr) (fun iv _ => 14 - (intOf iv).toNat)
 case atStart => exact ⟨0, by omega, rfl, fun m p h => by omega, Below.refl _ _⟩
 case round =>
  obtain ⟨k, hk, rfl, HN, hbel⟩ := hrel
  have hsz := hbel.size
  have HBX : Hid (wr.heap[w.heap.size]? = some (.cells #[.string ⟨#[]⟩, .int .i64 0, .int .i64 0, .bool false] 109 (0, 0))) := by
   show _ = _
   rw [hbel.block _ hlt0]
   exact HNEW.out
  have hBF := HB0.out.trans (hbel.mono hs0)
  by_cases hlt : k < 14
  ·obtain ⟨p, hp⟩ : ∃ p, infL[k]? = some p := ⟨_, List.getElem?_eq_getElem (by simpa [infL] using hlt)⟩
   have hix := HI.out k p hp
   have FS := Lib.hid (find_step (fun p => decide (p.2.2.1 = op) && !p.2.2.2) infL k p hp (fun m y hm hy => HN.out m y hm hy))
   by_cases he : (decide (p.2.2.1 = op) && !p.2.2.2) = true
   ·obtain rfl : O = some p := by rw [← HO.out]; exact FS.out he
    rw [Bool.and_eq_true, decide_eq_true_eq, Bool.not_eq_true'] at he
    obtain ⟨he1, he2⟩ := he
    obtain ⟨pn, pl, po, ps⟩ := p
    simp only at he1 he2 hix
    subst he1 he2
    clear FS hp HO
    have HB := Lib.hid hBF
    have HSB : Hid ((wr.alloc (.cells #[.string pn, .int .i64 pl, .int .i64 po, .bool false] 109)).heap[w.heap.size]? = some (.cells #[.string ⟨#[]⟩, .int .i64 0, .int .i64 0, .bool false] 109 (0, 0))) := by
     show _ = _
     rw [Below.heap_alloc _ _ _ (by omega)]
     exact HBX.out
    clear hbel hBF
    go_wp2_with (with_reducible refine wpList_store_row (o := Oper.mk none (Op.store 109 (.tmp 2) (.tmp 19)) _ _ _ none) rfl 109 (.tmp 2) (.tmp 19) rfl w.heap.size #[.string pn, .int .i64 pl, .int .i64 po, .bool false] ?gx ?gy 109 _ HSB.out ?gi ?go ?g1 ?gk)
    case gx => rfl
    case gy => rfl
    case gi => kernel_rfl
    case go => rfl
    case g1 => simp [Value.oneCell']
    go_wp2_with fail
    have hld := box_load (w := (wr.alloc (.cells #[.string pn, .int .i64 pl, .int .i64 po, .bool false] 109)).setRow w.heap.size #[.string pn, .int .i64 pl, .int .i64 po, .bool false]) (setRow_heap _ _ _ _ _ _ HSB.out)
    exact bodyPost_ret (v := infV (some (pn, pl, po, false))) (by simp [results, Tryz.results70, asAddr, hld, infV]) rfl ⟨rfl, (HB.out.alloc HB.out.size _).grown (grown_setRow _ _ _) (by have := HB.out.size; simp; omega) (fun z hz => by cases hz; exact Nat.le_refl _)⟩
   ·have he1 : (decide (p.2.2.1 = op) && !p.2.2.2) = false := by simpa using he
    have HN2 : Hid (∀ (m : Nat) q, m < k + 1 → infL[m]? = some q → (decide (q.2.2.1 = op) && !q.2.2.2) = false) := by
     intro m q hm hq
     by_cases hmk : m = k
     ·subst hmk
      rw [hp] at hq
      cases hq
      exact he1
     ·exact HN.out m q (by omega) hq
    obtain ⟨pn, pl, po, ps⟩ := p
    have hcase : (po == op) = false ∨ ((po == op) = true ∧ ps = true) := by
     by_cases h1 : po = op
     ·refine .inr ⟨by simpa using h1, ?_⟩
      simp only [h1, decide_true, Bool.true_and, Bool.not_eq_false'] at he1
      exact he1
     ·exact .inl (by simpa using h1)
    have HB := Lib.hid hbel
    clear FS hp hbel hBF he he1
    rcases hcase with h1 | ⟨h1, h2⟩
    all_goals
     go_wp2_with fail
     go_roundw
     case rel => exact ⟨k + 1, by omega, by go_num, HN2, HB.out.alloc hsz _⟩
     case measure => simp [intOf]; omega
  ·obtain rfl : k = 14 := by omega
   obtain rfl : O = none := by rw [← HO.out]; exact find_none _ _ fun m y hy => HN.out m y (by have := (List.getElem?_eq_some_iff.1 hy).1; simpa [infL] using this) hy
   have HB := Lib.hid hBF
   clear hbel hBF
   go_wp2_with (with_reducible refine wpList_store_row (o := Oper.mk none (Op.store 109 (.tmp 2) (.tmp 21)) _ _ _ none) rfl 109 (.tmp 2) (.tmp 21) rfl w.heap.size #[.string ⟨#[]⟩, .int .i64 0, .int .i64 0, .bool false] ?zgx ?zgy 109 _ HBX.out ?zgi ?zgo ?zg1 ?zgk)
   case zgx => rfl
   case zgy => rfl
   case zgi => kernel_rfl
   case zgo => rfl
   case zg1 => simp [Value.oneCell']
   go_wp2_with fail
   have hld := box_load (w := wr.setRow w.heap.size #[.string ⟨#[]⟩, .int .i64 0, .int .i64 0, .bool false]) (setRow_heap _ _ _ _ _ _ HBX.out)
   exact bodyPost_ret (v := infV none) (by simp [results, Tryz.results70, asAddr, hld, infV]) rfl ⟨rfl, HB.out.grown (grown_setRow _ _ _) HB.out.size (fun z hz => by cases hz; exact Nat.le_refl _)⟩
end Go.Proofs.YtmdpjahhhfajaaaGreatDoor
namespace Wh
open Go Go.Proofs.YtmdpjahhhfajaaaGreatDoor
end Wh
namespace Go.Proofs.YtmdpjahhhfajaaaGreatDoor
open Go.RowKit Wh
end Go.Proofs.YtmdpjahhhfajaaaGreatDoor
namespace Go.Proofs.YtmdpjahhhfajaaaGreatDoor
open Go.RowKit Wh
def LpRel (w : World) (b : Nat) (sl : Value) (ts : List TA) (rd : Nat → PO) (lvl len i d : Nat) (R : PO) (ev : Value) (wr : World) : Prop :=
 ∃ (l : List Nd) (j dd : Nat) (x : Int), wr.ownsRow w.heap.size 53 6 ev l.length (nodesL l) ∧ (l.length ≤ len - i ∧ j < len ∧ dd ≤ 300) ∧ Pr wr b sl j dd x ∧ w.grownBy wr (some b) ∧
  ((x = 0 ∧ dd = d ∧ i < j ∧ 1 ≤ l.length ∧ l.length ≤ j - i ∧ d ≤ 256 ∧ ∃ g, len ≤ j + g ∧ lpT ts rd lvl g l j = R) ∨ (¬ x = 0 ∧ R = .bad x j ∧ d ≤ dd))
theorem LpRel.start {w : World} {b : Nat} {sl : Value} {ts : List TA} {len i d f lvl : Nat} {a : Option Addr} (hT : TkH ts a len) (hl : lvl ≤ 6) (hi : i < len) (hm : 9 * (len - i) + (8 - (lvl + 1)) < f)
  {e : Ending} {w' : World} (h : RdP w b sl len i d (prT ts f (lvl + 1) i d) e w') :
  ∃ v, e = .returned v ∧ LpRel w b sl ts (fun k => prT ts f (lvl + 1) k d) lvl len i d (seqP (prT ts f (lvl + 1) i d) fun e j => lpT ts (fun k => prT ts f (lvl + 1) k d) lvl ts.length e j) v w' := by
 obtain ⟨v, l, j, dd, x, rfl, hown, hb, hP, hg, hc⟩ := h
 have hG := pr_gd hT.el f (lvl + 1) i d (by omega) (by rw [hT.ln]; exact hi) (by rw [hT.ln]; exact hm) (At8.no (by omega))
 refine ⟨v, rfl, l, j, dd, x, hown, hb, hP, hg, ?_⟩
 rcases hc with ⟨h1, h2, h3⟩ | ⟨h1, h2, h3⟩
 ·rw [h2] at hG ⊢
  obtain ⟨g1, g2, g3, g4, g5⟩ := hG
  exact .inl ⟨h1, h3, g1, g3, g4, g5 (by omega), ts.length, by rw [hT.ln]; omega, rfl⟩
 ·rw [h2]
  exact .inr ⟨h1, rfl, h3⟩
theorem LpRel.stop {w wr : World} {b : Nat} {sl : Value} {ts : List TA} {rd : Nat → PO} {lvl len i d : Nat} {R : PO} {v : Value} {l : List Nd} {j dd : Nat} {x : Int}
  (h1 : wr.ownsRow w.heap.size 53 6 v l.length (nodesL l)) (h2 : l.length ≤ len - i ∧ j < len ∧ dd ≤ 300) (h3 : Pr wr b sl j dd x) (h4 : w.grownBy wr (some b))
  (h5 : (x = 0 ∧ dd = d ∧ i < j ∧ 1 ≤ l.length ∧ l.length ≤ j - i ∧ d ≤ 256 ∧ ∃ g, len ≤ j + g ∧ lpT ts rd lvl g l j = R) ∨ (¬ x = 0 ∧ R = .bad x j ∧ d ≤ dd)) (hO : x = 0 → binO lvl (tkA ts j) = none)
  {w2 : World} (hb : Below wr.heap.size wr w2) (hbb : b < wr.heap.size) : RdP w b sl len i d R (.returned v) w2 := by
 refine ⟨v, l, j, dd, x, rfl, own_below h1 hb, h2, h3.below hb hbb, h4.trans (grown_below hb _), ?_⟩
 rcases h5 with ⟨hx, hd, _, _, _, _, g, hg, hR⟩ | h5
 ·refine .inl ⟨hx, ?_, hd⟩
  obtain ⟨g, rfl⟩ : ∃ k, g = k + 1 := ⟨g - 1, by omega⟩
  unfold lpT at hR
  rw [hO hx] at hR
  exact hR.symm
 ·exact .inr h5
theorem LpRel.step {w w3 : World} {b : Nat} {sl : Value} {ts : List TA} {lvl len i d f j g : Nat} {op : Int} {R : PO} {l l2 : List Nd} {j2 dd2 : Nat} {x2 : Int} {v3 : Value}  {a : Option Addr} (hT : TkH ts a len)
  (hl : lvl ≤ 6) (hjn : j + 1 < len) (hm : 9 * (len - (j + 1)) + (8 - (lvl + 1)) < f) (hb2 : l2.length ≤ len - (j + 1) ∧ j2 < len ∧ dd2 ≤ 300)
  (hP2 : Pr w3 b sl j2 dd2 x2) (hg : w.grownBy w3 (some b)) (hown : w3.ownsRow w.heap.size 53 6 v3 (l.length + l2.length + 1) (nodesL (l ++ l2 ++ [opN op])))
  (hij : i < j) (hl1 : 1 ≤ l.length) (hlj : l.length ≤ j - i) (hd : d ≤ 256) (hlen : len ≤ j + g) (hR : lpT ts (fun k => prT ts f (lvl + 1) k d) lvl g l j = R) (hO : binO lvl (tkA ts j) = some op)
  (hc : (x2 = 0 ∧ prT ts f (lvl + 1) (j + 1) d = .ok l2 j2 ∧ dd2 = d) ∨ (¬ x2 = 0 ∧ prT ts f (lvl + 1) (j + 1) d = .bad x2 j2 ∧ d ≤ dd2)) :
  LpRel w b sl ts (fun k => prT ts f (lvl + 1) k d) lvl len i d R v3 w3 ∧ (if x2 = 0 then len + 1 - j2 else 0) < len + 1 - j := by
 obtain ⟨g, rfl⟩ : ∃ k, g = k + 1 := ⟨g - 1, by omega⟩
 have hG := pr_gd hT.el f (lvl + 1) (j + 1) d (by omega) (by rw [hT.ln]; exact hjn) (by rw [hT.ln]; exact hm) (At8.no (by omega))
 unfold lpT at hR
 rw [hO] at hR
 simp only at hR
 have e : (l ++ l2 ++ [opN op]).length = l.length + l2.length + 1 := by simp only [List.length_append, List.length_cons, List.length_nil]
 refine ⟨⟨l ++ l2 ++ [opN op], j2, dd2, x2, by rw [e]; exact hown, ⟨by rw [e]; omega, hb2.2⟩, hP2, hg, ?_⟩, ?_⟩
 ·rcases hc with ⟨h1, h2, h3⟩ | ⟨h1, h2, h3⟩
  ·rw [h2] at hG hR
   obtain ⟨g1, g2, g3, g4, g5⟩ := hG
   exact .inl ⟨h1, h3, by omega, by rw [e]; omega, by rw [e]; omega, hd, g, by omega, hR⟩
  ·rw [h2] at hR
   exact .inr ⟨h1, hR.symm, h3⟩
 ·rcases hc with ⟨h1, h2, h3⟩ | ⟨h1, h2, h3⟩
  ·rw [h2] at hG
   obtain ⟨g1, g2, g3, g4, g5⟩ := hG
   rw [if_pos h1]
   omega
  ·rw [if_neg h1]
   omega
end Go.Proofs.YtmdpjahhhfajaaaGreatDoor
namespace Wh
open Go Go.Proofs.YtmdpjahhhfajaaaGreatDoor
end Wh
namespace Go.Proofs.YtmdpjahhhfajaaaGreatDoor
open Go.RowKit Wh
end Go.Proofs.YtmdpjahhhfajaaaGreatDoor
namespace Go.Proofs.YtmdpjahhhfajaaaGreatDoor
open Go.RowKit Wh
theorem eqS_lit {s t : ByteArray} {l : List UInt8} {q : Bool} (h : eqS s t = q) (hl : t.toList = l) : (s.toList == l) = q := by
 rw [← h, ← hl]
 rfl
end Go.Proofs.YtmdpjahhhfajaaaGreatDoor
