/-
  The program's parser: word, take, constant, wordConstant, isCall, begi · The program's parser: the stack of expressions, each in a row of its o
-/
import Derived.Test.YtmdpjahhhfajaaaGreatDoorJC10
import Derived.Test.YtmdpjahhhfajaaaGreatDoorJC11
import Derived.BigQuiet
import Derived.Deep.QuietTactic
set_option linter.unusedVariables false
set_option linter.unusedSimpArgs false
set_option maxRecDepth 100000
namespace Go.Proofs.YtmdpjahhhfajaaaGreatDoor
open Go.RowKit Wh
abbrev Pq (w : World) (b : Nat) (sl : Value) (i d : Nat) (sv : Value) : Prop := Box4 w b sl (.int .i64 i) (.int .i64 d) sv 63
set_option maxHeartbeats 4000000 in
theorem qword_any (b : Nat) (a : Option Addr) (len cap : Nat) (ts : List TA) (i d : Nat) (sv : Value) (w : World) (hP : Pq w b (.slice a len cap) i d sv) (hT : IsToks w a len ts) (hi : i < len) (hlm : len ≤ 1000000000000) :
  Calls Tryz.prog 88 #[ptr b] w fun e w' => e = .returned (.string (wT (tkA ts i))) ∧ Below w.heap.size w w' := by
 have hl := hT.1
 have htk := tkA_in (ts := ts) (i := i) (by omega)
 obtain ⟨kd, tx, nm, p, g, off, e1, rfl, lg, t0, t1, t2, t3⟩ := hT.at hi
 rw [htk] at e1
 have e2 := Option.some.inj e1
 rw [e2]
 have h0 := hP.c0
 have h1 := hP.c1
 have hB := hP.alloc (.cells #[.int .i64 0, .string ⟨#[]⟩, .int .i64 0, .int .i64 0] 71)
 have k0 := hB.c0
 have k1 := hB.c1
 have bel : Below w.heap.size w (w.alloc (.cells #[.int .i64 0, .string ⟨#[]⟩, .int .i64 0, .int .i64 0] 71)) := (Below.refl _ _).alloc (Nat.le_refl _) _
 have e : ∀ o, (w.alloc (.cells #[.int .i64 0, .string ⟨#[]⟩, .int .i64 0, .int .i64 0] 71)).cell? ⟨g, o, none⟩ = w.cell? ⟨g, o, none⟩ := fun o => bel.cell (p := ⟨g, o, none⟩) lg
 have s0 := (e _).trans t0
 have s1 := (e _).trans t1
 have s2 := (e _).trans t2
 have s3 := (e _).trans t3
 clear hP hT htk e1 e2 hB bel e
 unfold wT
 simp only
 have hlen : (i : Int) < (len : Int) := by omega
 by_cases hk1 : kd = 1
 ·subst hk1
  rw [if_pos (.inl rfl)]
  go_enter Tryz.func88, Tryz.ntmps88
  go_wp2_with fail
  go_region
  go_wp2_with fail
  go_ret
  exact ⟨rfl, ((Below.refl _ _).alloc (Nat.le_refl _) _).drew⟩
 ·have hkb : (kd == 1) = false := by simpa using hk1
  by_cases hk5 : kd = 5
  ·subst hk5
   rw [if_pos (.inr rfl)]
   go_enter Tryz.func88, Tryz.ntmps88
   go_wp2_with fail
   go_region
   go_wp2_with fail
   go_ret
   exact ⟨rfl, ((Below.refl _ _).alloc (Nat.le_refl _) _).drew⟩
  ·have hkb5 : (kd == 5) = false := by simpa using hk5
   rw [if_neg (by omega)]
   go_enter Tryz.func88, Tryz.ntmps88
   go_wp2_with fail
   go_region
   go_wp2_with fail
   go_ret
   exact ⟨rfl, ((Below.refl _ _).alloc (Nat.le_refl _) _).drew⟩
theorem Pq.set1 {w : World} {b : Nat} {sl sv : Value} {i d : Nat} (h : Pq w b sl i d sv) (j : Nat) : Pq (w.setCell ⟨b, 1, none⟩ (.int .i64 (j : Int))) b sl j d sv := by
 refine ⟨?_⟩
 have hb := h.block
 simp only [World.setCell, Array.getElem?_modify, if_pos]
 rw [hb]
 rfl
theorem Pq.set2 {w : World} {b : Nat} {sl sv : Value} {i d : Nat} (h : Pq w b sl i d sv) (j : Nat) : Pq (w.setCell ⟨b, 2, none⟩ (.int .i64 (j : Int))) b sl i j sv := by
 refine ⟨?_⟩
 have hb := h.block
 simp only [World.setCell, Array.getElem?_modify, if_pos]
 rw [hb]
 rfl
theorem Pq.inc1 {w : World} {b : Nat} {sl sv : Value} {i d : Nat} (h : Pq w b sl i d sv) : Pq (w.setCell ⟨b, 1, none⟩ (.int .i64 ((i : Int) + 1))) b sl (i + 1) d sv := by
 have e : (i : Int) + 1 = ((i + 1 : Nat) : Int) := by omega
 rw [e]
 exact Pq.set1 h (i + 1)
theorem Pq.inc1b {w : World} {b : Nat} {sl sv : Value} {i d : Nat} (h : Pq w b sl i d sv) : Pq (w.setCell ⟨b, 1, none⟩ (.int .i64 ((i : Int) + 2))) b sl (i + 2) d sv := by
 have e : (i : Int) + 2 = ((i + 2 : Nat) : Int) := by omega
 rw [e]
 exact Pq.set1 h (i + 2)
theorem Pq.inc2 {w : World} {b : Nat} {sl sv : Value} {i d : Nat} (h : Pq w b sl i d sv) : Pq (w.setCell ⟨b, 2, none⟩ (.int .i64 ((d : Int) + 1))) b sl i (d + 1) sv := by
 have e : (d : Int) + 1 = ((d + 1 : Nat) : Int) := by omega
 rw [e]
 exact Pq.set2 h (d + 1)
theorem Pq.dec2 {w : World} {b : Nat} {sl sv : Value} {i d : Nat} (h : Pq w b sl i d sv) (hd : 1 ≤ d) : Pq (w.setCell ⟨b, 2, none⟩ (.int .i64 ((d : Int) - 1))) b sl i (d - 1) sv := by
 have e : (d : Int) - 1 = ((d - 1 : Nat) : Int) := by omega
 rw [e]
 exact Pq.set2 h (d - 1)
theorem Pq.kept {w w' : World} {b : Nat} {sl sv : Value} {i d : Nat} {row : Option Nat} (h : Pq w b sl i d sv) (hg : w.grownBy w' row) (hne : some b ≠ row) : Pq w' b sl i d sv := ⟨(hg.block b h.lt hne).trans h.block⟩
set_option maxHeartbeats 4000000 in
theorem qtake_any (b : Nat) (a : Option Addr) (len cap : Nat) (ts : List TA) (i d : Nat) (sv : Value) (s : ByteArray) (w : World) (hP : Pq w b (.slice a len cap) i d sv) (hT : IsToks w a len ts) (hi : i < len) (hlm : len ≤ 1000000000) :
  Calls Tryz.prog 164 #[ptr b, .string s] w fun e w' => e = .returned (.int .i64 (if eqS (wT (tkA ts i)) s = true then 0 else 3)) ∧ Pq w' b (.slice a len cap) (if eqS (wT (tkA ts i)) s = true then i + 1 else i) d sv ∧ w.grownBy w' (some b) := by
 have C := Lib.hid (qword_any b a len cap ts i d sv w hP hT hi (by omega))
 have HP := Lib.hid hP
 have hib : i < 1000000000 := by omega
 clear hP hT
 generalize wT (tkA ts i) = x at *
 cases he : eqS x s with
 | true =>
  have he2 : (x.toList == s.toList) = true := he
  rw [if_pos rfl, if_pos rfl]
  clear he
  go_enter Tryz.func164, Tryz.ntmps164
  go_wp2_with fail
  refine C.out.mono ?_
  rintro e w1 ⟨rfl, hb1⟩
  have hP1 := HP.out.below hb1 HP.out.lt
  have g1 := hP1.c1
  have gf := hP1.free
  have HP1 := Lib.hid hP1
  have HG := Lib.hid (grown_below hb1 (some b))
  clear hb1 C hP1
  go_wp2_with fail
  go_ret
  exact ⟨rfl, Pq.inc1 HP1.out, HG.out.trans (grown_set _ _ _ _)⟩
 | false =>
  have he2 : (x.toList == s.toList) = false := he
  rw [if_neg (by simp), if_neg (by simp)]
  clear he
  go_enter Tryz.func164, Tryz.ntmps164
  go_wp2_with fail
  refine C.out.mono ?_
  rintro e w1 ⟨rfl, hb1⟩
  have HG := Lib.hid (And.intro (HP.out.below hb1 HP.out.lt) (grown_below hb1 (some b)))
  clear hb1 C
  go_wp2_with fail
  go_ret
  exact ⟨rfl, HG.out.1, HG.out.2⟩
theorem box_node {w : World} {B : Nat} {x y z u v t : Value} (h : w.heap[B]? = some (.cells #[x, y, z, u, v, t] 53 (0, 0))) : (loadVar 53 ⟨B, 0, none⟩).run Tryz.prog w = .ok (.agg #[x, y, z, u, v, t]) w := by
 refine run_loadVar_mid w B 0 _ [x, y, z, u, v, t] _ (fun j q hv => ?_) Tryz.underlying53 rfl (by kernel_rfl)
 rw [Nat.zero_add]
 exact (cell_of_row _ _ j _ _ _ h).trans (by rw [← Array.getElem?_toList]; exact hv)
set_option maxHeartbeats 4000000 in
theorem qconst_any (k n : Int) (w : World) : Calls Tryz.prog 92 #[.int .i64 k, .int .i64 n] w fun e w' => e = .returned (ndV (cstN k n ⟨#[]⟩)) ∧ Below w.heap.size w w' := by
 have HNEW := Lib.hid (heap_alloc_new w (.cells #[.int .i64 0, .int .i64 0, .int .i64 0, .string ⟨#[]⟩, .string ⟨#[]⟩, .int .i64 0] 53))
 go_enter Tryz.func92, Tryz.ntmps92
 go_wp2_with (with_reducible refine wpList_store_row (o := Oper.mk none (Op.store 53 (.tmp 4) (.tmp 8)) _ _ _ none) rfl 53 (.tmp 4) (.tmp 8) rfl w.heap.size #[.int .i64 0, .int .i64 k, .int .i64 n, .string ⟨#[]⟩, .string ⟨#[]⟩, .int .i64 0] ?gx ?gy 53 _ HNEW.out ?gi ?go ?g1 ?gk)
 case gx => rfl
 case gy => rfl
 case gi => kernel_rfl
 case go => rfl
 case g1 => simp [Value.oneCell']
 go_wp2_with fail
 have hld := box_node (w := (w.alloc (.cells #[.int .i64 0, .int .i64 0, .int .i64 0, .string ⟨#[]⟩, .string ⟨#[]⟩, .int .i64 0] 53)).setRow w.heap.size #[.int .i64 0, .int .i64 k, .int .i64 n, .string ⟨#[]⟩, .string ⟨#[]⟩, .int .i64 0]) (setRow_heap _ _ _ _ _ _ HNEW.out)
 exact bodyPost_ret (v := ndV (cstN k n ⟨#[]⟩)) (by simp [results, Tryz.results92, Act.put, asAddr, hld, ndV]) rfl ⟨rfl, ((Below.refl _ _).alloc (Nat.le_refl _) _).grown (grown_setRow _ _ _) (by simp) (fun z hz => by cases hz; exact Nat.le_refl _)⟩
def wrdC (s : ByteArray) : Nd × Bool :=
 if eqS s nulS = true then (cstN 0 0 ⟨#[]⟩, true) else if eqS s truS = true then (cstN 1 1 ⟨#[]⟩, true) else if eqS s falS = true then (cstN 1 0 ⟨#[]⟩, true) else (opNd 0, false)
set_option maxHeartbeats 8000000 in
theorem qwordc_any (s : ByteArray) (w : World) : Calls Tryz.prog 161 #[.string s] w fun e w' => e = .returned (.tuple #[ndV (wrdC s).1, .bool (wrdC s).2]) ∧ Below w.heap.size w w' := by
 have HNEW := Lib.hid (heap_alloc_new w (.cells #[.int .i64 0, .int .i64 0, .int .i64 0, .string ⟨#[]⟩, .string ⟨#[]⟩, .int .i64 0] 53))
 have hb0 : Below w.heap.size w (w.alloc (.cells #[.int .i64 0, .int .i64 0, .int .i64 0, .string ⟨#[]⟩, .string ⟨#[]⟩, .int .i64 0] 53)) := (Below.refl _ _).alloc (Nat.le_refl _) _
 have HB0 := Lib.hid hb0
 have hlt0 : w.heap.size < (w.alloc (.cells #[.int .i64 0, .int .i64 0, .int .i64 0, .string ⟨#[]⟩, .string ⟨#[]⟩, .int .i64 0] 53)).heap.size := by simp
 have CC := Lib.hid (fun k n W => qconst_any k n W)
 clear hb0
 by_cases e1 : eqS s nulS = true
 ·have hW : wrdC s = (cstN 0 0 ⟨#[]⟩, true) := by unfold wrdC; rw [if_pos e1]
  rw [hW]
  have e1' := eqS_lit e1 (show nulS.toList = [110, 117, 108, 108] from by decide +kernel)
  clear hW e1
  go_enter Tryz.func161, Tryz.ntmps161
  go_wp2_with fail
  refine (CC.out 0 0 _).mono ?_
  rintro e w1 ⟨rfl, hb1⟩
  have HBX : Hid (w1.heap[w.heap.size]? = some (.cells #[.int .i64 0, .int .i64 0, .int .i64 0, .string ⟨#[]⟩, .string ⟨#[]⟩, .int .i64 0] 53 (0, 0))) := by
   show _ = _
   rw [hb1.block _ hlt0]
   exact HNEW.out
  have HB1 := Lib.hid (HB0.out.trans (hb1.mono HB0.out.size))
  clear hb1 CC
  unfold ndV
  go_wp2_with (with_reducible refine wpList_store_row (o := Oper.mk none (Op.store 53 (.tmp 2) (.tmp 7)) _ _ _ none) rfl 53 (.tmp 2) (.tmp 7) rfl w.heap.size #[.int .i64 0, .int .i64 0, .int .i64 0, .string ⟨#[]⟩, .string ⟨#[]⟩, .int .i64 0] ?ax ?ay 53 _ HBX.out ?ai ?ao ?a1 ?ak)
  case ax => rfl
  case ay => rfl
  case ai => kernel_rfl
  case ao => rfl
  case a1 => simp [Value.oneCell']
  go_wp2_with fail
  have hld := box_node (w := w1.setRow w.heap.size #[.int .i64 0, .int .i64 0, .int .i64 0, .string ⟨#[]⟩, .string ⟨#[]⟩, .int .i64 0]) (setRow_heap _ _ _ _ _ _ HBX.out)
  exact bodyPost_ret (v := .tuple #[ndV (cstN 0 0 ⟨#[]⟩), .bool true]) (by simp [results, Tryz.results161, Act.put, asAddr, hld, ndV]) rfl ⟨rfl, HB1.out.grown (grown_setRow _ _ _) HB1.out.size (fun z hz => by cases hz; exact Nat.le_refl _)⟩
 have e1' := eqS_lit (q := false) (by simpa using e1) (show nulS.toList = [110, 117, 108, 108] from by decide +kernel)
 by_cases e2 : eqS s truS = true
 ·have hW : wrdC s = (cstN 1 1 ⟨#[]⟩, true) := by unfold wrdC; rw [if_neg e1, if_pos e2]
  rw [hW]
  have e2' := eqS_lit e2 (show truS.toList = [116, 114, 117, 101] from by decide +kernel)
  clear hW e1 e2
  go_enter Tryz.func161, Tryz.ntmps161
  go_wp2_with fail
  refine (CC.out 1 1 _).mono ?_
  rintro e w1 ⟨rfl, hb1⟩
  have HBX : Hid (w1.heap[w.heap.size]? = some (.cells #[.int .i64 0, .int .i64 0, .int .i64 0, .string ⟨#[]⟩, .string ⟨#[]⟩, .int .i64 0] 53 (0, 0))) := by
   show _ = _
   rw [hb1.block _ hlt0]
   exact HNEW.out
  have HB1 := Lib.hid (HB0.out.trans (hb1.mono HB0.out.size))
  clear hb1 CC
  unfold ndV
  go_wp2_with (with_reducible refine wpList_store_row (o := Oper.mk none (Op.store 53 (.tmp 2) (.tmp 10)) _ _ _ none) rfl 53 (.tmp 2) (.tmp 10) rfl w.heap.size #[.int .i64 0, .int .i64 1, .int .i64 1, .string ⟨#[]⟩, .string ⟨#[]⟩, .int .i64 0] ?bx ?byy 53 _ HBX.out ?bi ?bo ?b1 ?bk)
  case bx => rfl
  case byy => rfl
  case bi => kernel_rfl
  case bo => rfl
  case b1 => simp [Value.oneCell']
  go_wp2_with fail
  have hld := box_node (w := w1.setRow w.heap.size #[.int .i64 0, .int .i64 1, .int .i64 1, .string ⟨#[]⟩, .string ⟨#[]⟩, .int .i64 0]) (setRow_heap _ _ _ _ _ _ HBX.out)
  exact bodyPost_ret (v := .tuple #[ndV (cstN 1 1 ⟨#[]⟩), .bool true]) (by simp [results, Tryz.results161, Act.put, asAddr, hld, ndV]) rfl ⟨rfl, HB1.out.grown (grown_setRow _ _ _) HB1.out.size (fun z hz => by cases hz; exact Nat.le_refl _)⟩
 have e2' := eqS_lit (q := false) (by simpa using e2) (show truS.toList = [116, 114, 117, 101] from by decide +kernel)
 by_cases e3 : eqS s falS = true
 ·have hW : wrdC s = (cstN 1 0 ⟨#[]⟩, true) := by unfold wrdC; rw [if_neg e1, if_neg e2, if_pos e3]
  rw [hW]
  have e3' := eqS_lit e3 (show falS.toList = [102, 97, 108, 115, 101] from by decide +kernel)
  clear hW e1 e2 e3
  go_enter Tryz.func161, Tryz.ntmps161
  go_wp2_with fail
  refine (CC.out 1 0 _).mono ?_
  rintro e w1 ⟨rfl, hb1⟩
  have HBX : Hid (w1.heap[w.heap.size]? = some (.cells #[.int .i64 0, .int .i64 0, .int .i64 0, .string ⟨#[]⟩, .string ⟨#[]⟩, .int .i64 0] 53 (0, 0))) := by
   show _ = _
   rw [hb1.block _ hlt0]
   exact HNEW.out
  have HB1 := Lib.hid (HB0.out.trans (hb1.mono HB0.out.size))
  clear hb1 CC
  unfold ndV
  go_wp2_with (with_reducible refine wpList_store_row (o := Oper.mk none (Op.store 53 (.tmp 2) (.tmp 13)) _ _ _ none) rfl 53 (.tmp 2) (.tmp 13) rfl w.heap.size #[.int .i64 0, .int .i64 1, .int .i64 0, .string ⟨#[]⟩, .string ⟨#[]⟩, .int .i64 0] ?cx ?cy 53 _ HBX.out ?ci ?co ?c1 ?ck)
  case cx => rfl
  case cy => rfl
  case ci => kernel_rfl
  case co => rfl
  case c1 => simp [Value.oneCell']
  go_wp2_with fail
  have hld := box_node (w := w1.setRow w.heap.size #[.int .i64 0, .int .i64 1, .int .i64 0, .string ⟨#[]⟩, .string ⟨#[]⟩, .int .i64 0]) (setRow_heap _ _ _ _ _ _ HBX.out)
  exact bodyPost_ret (v := .tuple #[ndV (cstN 1 0 ⟨#[]⟩), .bool true]) (by simp [results, Tryz.results161, Act.put, asAddr, hld, ndV]) rfl ⟨rfl, HB1.out.grown (grown_setRow _ _ _) HB1.out.size (fun z hz => by cases hz; exact Nat.le_refl _)⟩
 have e3' := eqS_lit (q := false) (by simpa using e3) (show falS.toList = [102, 97, 108, 115, 101] from by decide +kernel)
 have hW : wrdC s = (opNd 0, false) := by unfold wrdC; rw [if_neg e1, if_neg e2, if_neg e3]
 rw [hW]
 clear hW e1 e2 e3 CC
 go_enter Tryz.func161, Tryz.ntmps161
 go_wp2_with (with_reducible refine wpList_store_row (o := Oper.mk none (Op.store 53 (.tmp 2) (.tmp 14)) _ _ _ none) rfl 53 (.tmp 2) (.tmp 14) rfl w.heap.size #[.int .i64 0, .int .i64 0, .int .i64 0, .string ⟨#[]⟩, .string ⟨#[]⟩, .int .i64 0] ?dx ?dy 53 _ HNEW.out ?di ?doo ?d1 ?dk)
 case dx => rfl
 case dy => rfl
 case di => kernel_rfl
 case doo => rfl
 case d1 => simp [Value.oneCell']
 go_wp2_with fail
 have hld := box_node (w := (w.alloc (.cells #[.int .i64 0, .int .i64 0, .int .i64 0, .string ⟨#[]⟩, .string ⟨#[]⟩, .int .i64 0] 53)).setRow w.heap.size #[.int .i64 0, .int .i64 0, .int .i64 0, .string ⟨#[]⟩, .string ⟨#[]⟩, .int .i64 0]) (setRow_heap _ _ _ _ _ _ HNEW.out)
 exact bodyPost_ret (v := .tuple #[ndV (opNd 0), .bool false]) (by simp [results, Tryz.results161, Act.put, asAddr, hld, ndV]) rfl ⟨rfl, HB0.out.grown (grown_setRow _ _ _) HB0.out.size (fun z hz => by cases hz; exact Nat.le_refl _)⟩
end Go.Proofs.YtmdpjahhhfajaaaGreatDoor
namespace Go.Proofs.YtmdpjahhhfajaaaGreatDoor
open Go.RowKit Wh
structure Sk (w : World) (b : Nat) (rs : List (List Nd)) (sv : Value) (vs : List Value) : Prop where
 len : vs.length = rs.length
 own : w.ownsRow b 30 1 sv vs.length vs
 nb : sv.ownBlock ≠ some b
 row : ∀ (k : Nat) (v : Value) (r : List Nd), vs[k]? = some v → rs[k]? = some r → w.ownsRow b 53 6 v r.length (nodesL r) ∧ 1 ≤ r.length ∧ r.length ≤ 257
 far : ∀ (k : Nat) (v : Value), vs[k]? = some v → v.ownBlock ≠ some b ∧ (∀ g, sv.ownBlock = some g → v.ownBlock ≠ some g)
 apart : ∀ (k k' : Nat) (v v' : Value), k ≠ k' → vs[k]? = some v → vs[k']? = some v' → ∀ g, v.ownBlock = some g → v'.ownBlock ≠ some g
theorem Sk.nil (w : World) (b : Nat) : Sk w b [] (.slice none 0 0) [] := ⟨rfl, World.ownsRow_nil _ _ _ _, by simp [Value.ownBlock], fun k v r h => by simp at h, fun k v h => by simp at h, fun k k' v v' _ h => by simp at h⟩
theorem Sk.keep {w w' : World} {b : Nat} {rs : List (List Nd)} {sv : Value} {vs : List Value} (h : Sk w b rs sv vs) (hg : w.grownBy w' (some b)) : Sk w' b rs sv vs := by
 have hne : ∀ v : Value, v.ownBlock ≠ some b → v.ownBlock = none ∨ v.ownBlock ≠ some b := fun v hv => .inr hv
 exact ⟨h.len, h.own.kept hg (hne _ h.nb), h.nb, fun k v r hv hr => ⟨(h.row k v r hv hr).1.kept hg (hne _ (h.far k v hv).1), (h.row k v r hv hr).2⟩, h.far, h.apart⟩
theorem Sk.below {w w' : World} {b : Nat} {rs : List (List Nd)} {sv : Value} {vs : List Value} (h : Sk w b rs sv vs) (hb : Below w.heap.size w w') : Sk w' b rs sv vs := h.keep (grown_below hb _)
theorem Sk.get {w : World} {b : Nat} {rs : List (List Nd)} {sv : Value} {vs : List Value} (h : Sk w b rs sv vs) {k : Nat} (hk : k < rs.length) :
  ∃ (g c : Nat) (r : List Nd), vs[k]? = some (.slice (some ⟨g, 0, none⟩) r.length c) ∧ rs[k]? = some r ∧ w.ownsRow b 53 6 (.slice (some ⟨g, 0, none⟩) r.length c) r.length (nodesL r) ∧ 1 ≤ r.length ∧ r.length ≤ 257 ∧ g ≠ b ∧ b ≤ g ∧ g < w.heap.size := by
 obtain ⟨v, hv⟩ : ∃ v, vs[k]? = some v := ⟨_, List.getElem?_eq_getElem (by rw [h.len]; exact hk)⟩
 obtain ⟨r, hr⟩ : ∃ r, rs[k]? = some r := ⟨_, List.getElem?_eq_getElem hk⟩
 obtain ⟨h1, h2, h3⟩ := h.row k v r hv hr
 obtain ⟨g, c, rfl, hb, hlt⟩ := h1.form (by omega)
 exact ⟨g, c, r, hv, hr, h1, h2, h3, fun hc => (h.far k _ hv).1 (by rw [hc]; rfl), hb, hlt⟩
theorem Sk.form {w : World} {b : Nat} {rs : List (List Nd)} {sv : Value} {vs : List Value} (h : Sk w b rs sv vs) :
  ∃ a cap, sv = .slice a rs.length cap ∧ rs.length ≤ cap ∧ cap ≤ maxLen ∧ (a = none → cap = 0) ∧ (∀ x, a = some x → ∃ g, x = ⟨g, 0, none⟩ ∧ b ≤ g ∧ g < w.heap.size ∧ ∀ k v, vs[k]? = some v → w.cell? ⟨g, k, none⟩ = some v) := by
 have hl := h.len
 rcases h.own.2 with ⟨hv, h0⟩ | ⟨g, cap, cur, hv, hb, hh, hnc, hmc, _, ht⟩
 ·exact ⟨none, 0, by rw [hv, ← hl, h0], by omega, Nat.zero_le _, fun _ => rfl, fun x hx => by cases hx⟩
 ·have hlt : g < w.heap.size := (Array.getElem?_eq_some_iff.1 hh).1
  refine ⟨some ⟨g, 0, none⟩, cap, by rw [hv, hl], by omega, hmc, (fun hx => by cases hx), ?_⟩
  rintro x ⟨⟩
  refine ⟨g, rfl, hb, hlt, fun k v hk => ?_⟩
  have hkl := (List.getElem?_eq_some_iff.1 hk).1
  have ho := h.own
  rw [hv] at ho
  rw [ho.cellAt k (by omega)]
  exact hk
theorem Sk.take {w : World} {b : Nat} {rs : List (List Nd)} {a : Option Addr} {n cap : Nat} {vs : List Value} (h : Sk w b rs (.slice a n cap) vs) {k : Nat} (hk : k ≤ rs.length) : Sk w b (rs.take k) (.slice a k cap) (vs.take k) := by
 have hl := h.len
 have ho := h.own
 have hn : n = vs.length := by
  rcases ho.2 with ⟨hv, h0⟩ | ⟨g, c, cur, hv, _⟩
  ·cases hv; omega
  ·cases hv; rfl
 subst hn
 have hlen : (vs.take k).length = k := by rw [List.length_take]; omega
 have e : (vs.take (k * 1)) = vs.take k := by rw [Nat.mul_one]
 have h1 := own_take ho (k := k) (by omega)
 rw [e] at h1
 have hb : ∀ x : Nat, (Value.slice a k cap).ownBlock = some x ↔ (Value.slice a vs.length cap).ownBlock = some x := fun x => by cases a <;> simp [Value.ownBlock]
 have get : ∀ (m : Nat) (v : Value), (vs.take k)[m]? = some v → vs[m]? = some v := fun m v hv => by
  have := (List.getElem?_eq_some_iff.1 hv).1
  rw [hlen] at this
  rwa [List.getElem?_take_of_lt this] at hv
 have get2 : ∀ (m : Nat) (r : List Nd), (rs.take k)[m]? = some r → rs[m]? = some r := fun m v hv => by
  have := (List.getElem?_eq_some_iff.1 hv).1
  rw [List.length_take] at this
  rwa [List.getElem?_take_of_lt (by omega)] at hv
 refine ⟨by rw [hlen, List.length_take]; omega, by rw [hlen]; exact h1, fun hc => h.nb ((hb b).1 hc), fun m v r hv hr => h.row m v r (get m v hv) (get2 m r hr), fun m v hv => ⟨(h.far m v (get m v hv)).1, fun g hg => (h.far m v (get m v hv)).2 g ((hb g).1 hg)⟩, fun m m' v v' hm hv hv' => h.apart m m' v v' hm (get m v hv) (get m' v' hv')⟩
theorem Sk.push {W w9 : World} {b : Nat} {rs : List (List Nd)} {sv : Value} {vs : List Value} (h : Sk W b rs sv vs) {v : Value} {r : List Nd} {gv g cap : Nat} (hv : W.ownsRow b 53 6 v r.length (nodesL r)) (h1 : 1 ≤ r.length ∧ r.length ≤ 257) (hgv : v.ownBlock = some gv)
  (hb : gv ≠ b) (hs : sv.ownBlock ≠ some gv) (hr : ∀ (k : Nat) (u : Value), vs[k]? = some u → u.ownBlock ≠ some gv) (hlt : gv < W.heap.size) (hbW : b < W.heap.size)
  (hown : w9.ownsRow b 30 1 (.slice (some ⟨g, 0, none⟩) (vs.length + 1) cap) (vs.length + 1) (vs ++ [v])) (hgrow : W.grownBy w9 sv.ownBlock) (hat : sv.ownBlock = some g ∨ W.heap.size ≤ g) :
  Sk w9 b (rs ++ [r]) (.slice (some ⟨g, 0, none⟩) (vs.length + 1) cap) (vs ++ [v]) := by
 have hl := h.len
 have ne1 : ∀ u : Value, (∀ g', sv.ownBlock = some g' → u.ownBlock ≠ some g') → u.ownBlock = none ∨ u.ownBlock ≠ sv.ownBlock := fun u hu => by
  cases ho : sv.ownBlock with
  | none =>
   cases hu2 : u.ownBlock with
   | none => exact .inl rfl
   | some z => exact .inr (by simp)
  | some z => exact .inr (hu z ho)
 have kv : ∀ (k : Nat) (u : Value) (q : List Nd), vs[k]? = some u → rs[k]? = some q → w9.ownsRow b 53 6 u q.length (nodesL q) := fun k u q hu hq => (h.row k u q hu hq).1.kept hgrow (ne1 u (h.far k u hu).2)
 have kn : w9.ownsRow b 53 6 v r.length (nodesL r) := hv.kept hgrow (ne1 v (fun g' hg' hc => hs (by rw [hg', ← hc, hgv])))
 have old : ∀ (k : Nat) (u : Value), vs[k]? = some u → ∀ z, u.ownBlock = some z → z < W.heap.size := fun k u hu z hz => by
  obtain ⟨q, hq⟩ : ∃ q, rs[k]? = some q := ⟨_, List.getElem?_eq_getElem (by rw [← hl]; exact (List.getElem?_eq_some_iff.1 hu).1)⟩
  exact ((h.row k u q hu hq).1.lt z hz).2
 have gb : g ≠ b := by
  rcases hat with hat | hat
  ·exact fun hc => h.nb (by rw [hat, hc])
  ·omega
 have split : ∀ (k : Nat) (u : Value), (vs ++ [v])[k]? = some u → (vs[k]? = some u) ∨ (k = vs.length ∧ u = v) := fun k u hu => by
  by_cases hk : k < vs.length
  ·rw [List.getElem?_append_left hk] at hu
   exact .inl hu
  ·have hlt := (List.getElem?_eq_some_iff.1 hu).1
   simp only [List.length_append, List.length_cons, List.length_nil] at hlt
   obtain rfl : k = vs.length := by omega
   rw [List.getElem?_append_right (Nat.le_refl _), Nat.sub_self] at hu
   simp at hu
   exact .inr ⟨rfl, hu.symm⟩
 refine ⟨by simp [hl], by rw [List.length_append]; exact hown, fun hc => gb (by simpa [Value.ownBlock] using hc), fun k u q hu hq => ?_, fun k u hu => ?_, fun k k' u u' hne hu hu' z hz => ?_⟩
 ·rcases split k u hu with h2 | ⟨rfl, rfl⟩
  ·have hk := (List.getElem?_eq_some_iff.1 h2).1
   rw [List.getElem?_append_left (by omega)] at hq
   exact ⟨kv k u q h2 hq, (h.row k u q h2 hq).2⟩
  ·rw [List.getElem?_append_right (by omega), hl, Nat.sub_self] at hq
   simp at hq
   subst hq
   exact ⟨kn, h1⟩
 ·have gg : ∀ z, (Value.slice (some ⟨g, 0, none⟩) (vs.length + 1) cap).ownBlock = some z → z = g := fun z hz => by simpa [Value.ownBlock] using hz.symm
  rcases split k u hu with h2 | ⟨rfl, rfl⟩
  ·refine ⟨(h.far k u h2).1, fun z hz hc => ?_⟩
   rw [gg z hz] at hc
   rcases hat with hat | hat
   ·exact (h.far k u h2).2 g hat hc
   ·have := old k u h2 g hc
    omega
  ·refine ⟨fun hc => hb (by rw [hgv] at hc; exact Option.some.inj hc), fun z hz hc => ?_⟩
   rw [gg z hz, hgv] at hc
   have hgg := Option.some.inj hc
   rcases hat with hat | hat
   ·exact hs (by rw [hat, hgg])
   ·omega
 ·rcases split k u hu with h2 | ⟨rfl, rfl⟩
  ·rcases split k' u' hu' with h3 | ⟨rfl, rfl⟩
   ·exact h.apart k k' u u' hne h2 h3 z hz
   ·rw [hgv]
    intro hc
    exact hr k u h2 (by rw [hz, hc])
  ·rcases split k' u' hu' with h3 | ⟨rfl, rfl⟩
   ·rw [hgv] at hz
    rw [← hz]
    exact hr k' u' h3
   ·exact absurd rfl hne
def OutQ (w : World) (b : Nat) (sv : Value) (vs : List Value) (k : Nat) : Prop := k < w.heap.size ∧ k ≠ b ∧ sv.ownBlock ≠ some k ∧ ∀ v ∈ vs, v.ownBlock ≠ some k
theorem OutQ.grown {w w' : World} {b k : Nat} {sv : Value} {vs : List Value} {row : Option Nat} (h : OutQ w b sv vs k) (hg : w.grownBy w' row) (hr : row ≠ some k) : w'.heap[k]? = w.heap[k]? ∧ OutQ w' b sv vs k :=
 ⟨hg.block k h.1 (fun hc => hr hc.symm), Nat.lt_of_lt_of_le h.1 hg.size, h.2⟩
theorem OutQ.below {w w' : World} {b k : Nat} {sv : Value} {vs : List Value} (h : OutQ w b sv vs k) (hb : Below w.heap.size w w') : w'.heap[k]? = w.heap[k]? ∧ OutQ w' b sv vs k :=
 ⟨hb.block k h.1, Nat.lt_of_lt_of_le h.1 hb.size, h.2⟩
structure Fb (w : World) (b : Nat) (sv : Value) (vs : List Value) (w' : World) (sv' : Value) (vs' : List Value) : Prop where
 bel : Below b w w'
 fr : ∀ k, OutQ w b sv vs k → w'.heap[k]? = w.heap[k]? ∧ OutQ w' b sv' vs' k
theorem Fb.trans {w w1 w2 : World} {b : Nat} {sv sv1 sv2 : Value} {vs vs1 vs2 : List Value} (h : Fb w b sv vs w1 sv1 vs1) (h' : Fb w1 b sv1 vs1 w2 sv2 vs2) : Fb w b sv vs w2 sv2 vs2 :=
 ⟨h.bel.trans h'.bel, fun k hk => ⟨((h'.fr k (h.fr k hk).2).1).trans (h.fr k hk).1, (h'.fr k (h.fr k hk).2).2⟩⟩
theorem Fb.grown {w w' : World} {b : Nat} {sv : Value} {vs : List Value} (h : w.grownBy w' (some b)) (hb : b < w.heap.size) : Fb w b sv vs w' sv vs :=
 ⟨(Below.refl b w).grown h (Nat.le_of_lt hb) (fun z hz => by cases hz; exact Nat.le_refl _), fun k hk => hk.grown h (fun hc => hk.2.1 (Option.some.inj hc).symm)⟩
theorem Fb.below {w w' : World} {b : Nat} {sv : Value} {vs : List Value} (h : Below w.heap.size w w') (hb : b < w.heap.size) : Fb w b sv vs w' sv vs := Fb.grown (grown_below h _) hb
theorem Fb.set {w : World} {b : Nat} {sv : Value} {vs : List Value} (j : Nat) (v : Value) (hb : b < w.heap.size) : Fb w b sv vs (w.setCell ⟨b, j, none⟩ v) sv vs := Fb.grown (grown_set w b j v) hb
end Go.Proofs.YtmdpjahhhfajaaaGreatDoor
