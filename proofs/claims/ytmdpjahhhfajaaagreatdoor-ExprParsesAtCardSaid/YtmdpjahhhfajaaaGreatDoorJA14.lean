/-
  For every layer that holds nodes: append of nodes that lie somewhere to nodes that the call has made. · join and constant of the reference. · The reference's parser: what a function that reads leaves. · For every layer: values and rows of values in memory; value.Valid and its reference. · IsBuiltin, IsColumn, IsReference, Arity, formed of the reference.
-/
import Derived.Test.YtmdpjahhhfajaaaGreatDoorJA10
import Derived.Maps.AppendAt
import Derived.Laws.OwnMore
import Derived.Test.YtmdpjahhhfajaaaGreatDoorJA13
import Derived.Test.YtmdpjahhhfajaaaGreatDoorJA12
import Derived.Maps.Range
import Derived.Test.YtmdpjahhhfajaaaGreatDoorRows
import Derived.Test.YtmdpjahhhfajaaaGreatDoorJA01
import Derived.Test.YtmdpjahhhfajaaaGreatDoorJA05
import Derived.WalkKit
import Derived.WalkLawsBesides
import Derived.WalkSpells
import Derived.BigQuiet
import Derived.Below
import Derived.Lib.Hide
import Derived.Lib.Bytealg
import Derived.LoopTactic
import Derived.OwnWalk
import Derived.Deep.QuietTactic
import Derived.Test.YtmdpjahhhfajaaaGreatDoorJA11
set_option linter.unusedVariables false
set_option maxRecDepth 100000
namespace Go.Proofs.YtmdpjahhhfajaaaGreatDoor
open Go.RowKit Wh

theorem nodes_news {w : World} {b off len : Nat} {ts : List Nd} (h : IsNodes w (some ⟨b, off, none⟩) len ts) : ∀ j u, (nodesL ts)[j]? = some u → w.cell? ((⟨b, off, none⟩ : Addr).add j) = some u := by
  intro j u hu
  have hadd : (⟨b, off, none⟩ : Addr).add j = ⟨b, off + j, none⟩ := by unfold Addr.add; split <;> simp_all
  rw [hadd]
  have hlt := (List.getElem?_eq_some_iff.1 hu).1
  rw [nodesL_length] at hlt
  obtain ⟨t, ht⟩ : ∃ t, ts[j / 6]? = some t := ⟨_, List.getElem?_eq_getElem (by omega)⟩
  obtain ⟨f0, f1, f2, f3, f4, f5⟩ := nodesL_at ts (j / 6) t ht
  rcases h.2 with h0 | ⟨b', off', ha, _, hat⟩
  · rw [h0] at ht; simp at ht
  · cases ha
    obtain ⟨e0, e1, e2, e3, e4, e5⟩ := hat _ _ ht
    have h6 : j % 6 = 0 ∨ j % 6 = 1 ∨ j % 6 = 2 ∨ j % 6 = 3 ∨ j % 6 = 4 ∨ j % 6 = 5 := by omega
    rcases h6 with h6 | h6 | h6 | h6 | h6 | h6
    · rw [show j = j / 6 * 6 by omega] at hu ⊢
      rw [f0] at hu; cases hu; exact e0
    · rw [show j = j / 6 * 6 + 1 by omega] at hu ⊢
      rw [f1] at hu; cases hu; exact e1
    · rw [show j = j / 6 * 6 + 2 by omega] at hu ⊢
      rw [f2] at hu; cases hu; exact e2
    · rw [show j = j / 6 * 6 + 3 by omega] at hu ⊢
      rw [f3] at hu; cases hu; exact e3
    · rw [show j = j / 6 * 6 + 4 by omega] at hu ⊢
      rw [f4] at hu; cases hu; exact e4
    · rw [show j = j / 6 * 6 + 5 by omega] at hu ⊢
      rw [f5] at hu; cases hu; exact e5

theorem nodes_one (ts : List Nd) : ∀ u ∈ nodesL ts, u.oneCell' = true := by
  intro u hu
  unfold nodesL at hu
  rw [List.mem_flatMap] at hu
  obtain ⟨t, ht, hu⟩ := hu
  simp only [c6, List.mem_cons, List.not_mem_nil, or_false] at hu
  rcases hu with rfl | rfl | rfl | rfl | rfl | rfl <;> rfl

theorem run_app_nodes {w : World} {base n : Nat} {v : Value} {l : List Nd} {ra : Option Addr} {rl rc : Nat} {r : List Nd} (ty : TypeId) (hown : w.ownsRow base 53 6 v n (nodesL l)) (hb : base ≤ w.heap.size) (h : IsNodes w ra rl r) (hn : ra = none → rc = 0) (hl : rl ≤ 1000000) (hnn : n ≤ 1000000) :
    ∃ v' w', (Builtin.append_ #[30, 30] ty #[v, .slice ra rl rc]).run Tryz.prog w = .ok v' w' ∧ w'.ownsRow base 53 6 v' (n + rl) (nodesL (l ++ r)) ∧ w.grownBy w' v.ownBlock := by
  obtain ⟨i0, hi, hz0, hz1, hz2⟩ := info_parts info_node
  have hrl := h.1
  cases ra with
  | none =>
    obtain rfl := hn rfl
    obtain rfl : r = [] := by
      rcases h.2 with h | ⟨b, off, h, _⟩
      · exact h
      · cases h
    obtain rfl : rl = 0 := by simpa using hrl.symm
    refine ⟨v, w, run_append_owned_none (P := Tryz.prog) w base 30 ty 53 i0 6 Tryz.underlying30 hi v n _ hown, ?_, ⟨rfl, rfl, rfl, Nat.le_refl _, fun _ _ _ => rfl⟩⟩
    simpa using hown
  | some ad =>
    have hnews : ∀ j u, (nodesL r)[j]? = some u → w.cell? (ad.add j) = some u := by
      rcases h.2 with h0 | ⟨b, off, h0, _⟩
      · intro j u hu; rw [h0] at hu; simp [nodesL] at hu
      · cases h0; exact nodes_news h
    obtain ⟨v', w', hr, h2, h3, _, _⟩ := run_append_own_at (P := Tryz.prog) w base 30 ty 53 i0 _ 6 64 Tryz.underlying30 hi hz0 hz1 hz2 rfl (by decide) v n (nodesL l) hown ad rl rc (nodesL r) (by rw [nodesL_length, hrl]) hnews (nodes_one r) (by unfold maxLen; omega) (by omega) hb
    refine ⟨v', w', hr, ?_, h3⟩
    rw [nodesL_app]
    exact h2

/-- .. at the list of a plain region's operations. -/
theorem wpList_app {w : World} {ops : Array Oper} {rest : List Oper} {o : Oper} {a : Act} {Q : Exit → Act → World → Prop} (hgd : o.guard = none) (s x : Operand)
    (ho : o.op = .call { callee := .builtin .append, args := #[s, x], argTypes := #[30, 30] }) {base n : Nat} {v : Value} {l : List Nd} (hs : a.eval s = v)
    {ra : Option Addr} {rl rc : Nat} {r : List Nd} (hx : a.eval x = .slice ra rl rc) (hown : w.ownsRow base 53 6 v n (nodesL l)) (hb : base ≤ w.heap.size) (hv : IsNodes w ra rl r) (hn : ra = none → rc = 0) (hl : rl ≤ 1000000) (hnn : n ≤ 1000000)
    (h : ∀ v' w', w'.ownsRow base 53 6 v' (n + rl) (nodesL (l ++ r)) → w.grownBy w' v.ownBlock → wpList Tryz.prog ops Q rest (a.put o.dst v') w') :
    wpList Tryz.prog ops Q (o :: rest) a w := by
  refine wpList_plain hgd fun K hK => ?_
  obtain ⟨v', w', hr, h2, h3⟩ := run_app_nodes o.type hown hb hv hn hl hnn
  unfold Oper.wp execOp
  simp only [ho, resolve, invoke, builtin, Sem.run_bind, Sem.run_pure, Result.andThen_ok, List.map_toArray, List.map_cons, List.map_nil, hs, hx, hr]
  exact hK _ _ (h v' w' h2 h3)

end Go.Proofs.YtmdpjahhhfajaaaGreatDoor
set_option linter.unusedVariables false
set_option maxRecDepth 100000
namespace Go.Proofs.YtmdpjahhhfajaaaGreatDoor
open Go.RowKit Wh

abbrev opN (op : Int) : Nd := ⟨op, ⟨0, 0, ⟨#[]⟩⟩, ⟨#[]⟩, 0⟩

/-- A node that has just been laid. -/
theorem lit_node (w : World) (t : Nd) : IsNodes (w.alloc (.cells #[.int .i64 t.op, .int .i64 t.v.k, .int .i64 t.v.n, .string t.v.s, .string t.nm, .int .i64 t.ar] 53)) (some ⟨w.heap.size, 0, none⟩) 1 [t] := by
  have hh := heap_alloc_new w (.cells #[.int .i64 t.op, .int .i64 t.v.k, .int .i64 t.v.n, .string t.v.s, .string t.nm, .int .i64 t.ar] 53)
  refine ⟨rfl, .inr ⟨w.heap.size, 0, rfl, by simp, fun i u hu => ?_⟩⟩
  cases i with
  | zero =>
    simp only [List.getElem?_cons_zero, Option.some.injEq] at hu
    subst hu
    exact ⟨cell_of_row _ _ 0 _ _ _ hh, cell_of_row _ _ 1 _ _ _ hh, cell_of_row _ _ 2 _ _ _ hh, cell_of_row _ _ 3 _ _ _ hh, cell_of_row _ _ 4 _ _ _ hh, cell_of_row _ _ 5 _ _ _ hh⟩
  | succ i => simp at hu

set_option maxHeartbeats 4000000 in
theorem pjoin8_any (a1 : Option Addr) (n1 c1 : Nat) (la : List Nd) (a2 : Option Addr) (n2 c2 : Nat) (lb : List Nd) (op : Int) (w : World) (h1 : IsNodes w a1 n1 la) (hn1 : a1 = none → c1 = 0) (hl1 : n1 ≤ 300000) (h2 : IsNodes w a2 n2 lb) (hn2 : a2 = none → c2 = 0) (hl2 : n2 ≤ 300000) :
    Calls Tryz.prog 59 #[.slice a1 n1 c1, .slice a2 n2 c2, .int .i64 op] w fun e w' => ∃ v, e = .returned v ∧ w'.ownsRow w.heap.size 53 6 v (n1 + n2 + 1) (nodesL (la ++ lb ++ [opN op])) ∧ Below w.heap.size w w' := by
  go_enter Tryz.func59, Tryz.ntmps59
  go_wp2_with (at_builtin; refine wpList_app (l := []) rfl _ (.tmp 7) rfl rfl rfl (World.ownsRow_nil _ w.heap.size _ _) (Nat.le_refl _) h1 hn1 (by omega) (by omega) ?_)
  intro v1 w1 ho1 hg1
  have hB1 := (Below.refl w.heap.size w).grown hg1 (Nat.le_refl _) (fun j hj => by cases hj)
  have ho1' : w1.ownsRow w.heap.size 53 6 v1 n1 (nodesL la) := by simpa using ho1
  have hs1 := hB1.size
  have h2' := h2.below hB1 (Nat.le_refl _)
  clear ho1 hg1 h1 h2
  go_wp2_with (at_builtin; refine wpList_app rfl (.tmp 8) (.tmp 9) rfl rfl rfl ho1' hs1 h2' hn2 (by omega) (by omega) ?_)
  intro v2 w2 ho2 hg2
  have hB2 := hB1.grown hg2 hs1 (fun j hj => (ho1'.lt j hj).1)
  have hs2 := hB2.size
  clear ho1' hg2 h2'
  go_wp2_with (at_builtin; refine wpList_app rfl (.tmp 10) (.tmp 13) rfl rfl rfl (ho2.alloc _) (by simp; omega) (lit_node w2 (opN op)) (fun h => by cases h) (by omega) (by omega) ?_)
  intro v3 w3 ho3 hg3
  have hB3 := (hB2.alloc hs2 _).grown hg3 (by simp; omega) (fun j hj => (ho2.lt j hj).1)
  go_wp2_with fail
  go_ret
  exact ⟨v3, rfl, by rw [List.append_assoc]; exact ho3, hB3⟩

set_option maxHeartbeats 1000000 in
theorem pconst_any (k n : Int) (s : ByteArray) (w : World) :
    Calls Tryz.prog 231 #[.agg #[.int .i64 k, .int .i64 n, .string s]] w fun e w' => ∃ v, e = .returned v ∧ w'.ownsRow w.heap.size 53 6 v 1 (nodesL [⟨0, ⟨k, n, s⟩, ⟨#[]⟩, 0⟩]) ∧ Below w.heap.size w w' := by
  go_enter Tryz.func231, Tryz.ntmps231
  go_wp2_with fail
  go_ret
  refine ⟨_, rfl, ?_, ((Below.refl _ _).alloc (Nat.le_refl _) _).alloc (by simp) _⟩
  have h := World.ownsRow_lit (base := w.heap.size) (e := 53) (size := 6) (w.alloc (.cells #[.int .i64 k, .int .i64 n, .string s] 51)) #[.int .i64 0, .int .i64 k, .int .i64 n, .string s, .string ⟨#[]⟩, .int .i64 0] 1 (by simp) (by unfold maxLen; omega) rfl
  simpa [nodesL, c6] using h

end Go.Proofs.YtmdpjahhhfajaaaGreatDoor
set_option linter.unusedVariables false
set_option linter.unusedSimpArgs false
set_option maxRecDepth 100000
namespace Go.Proofs.YtmdpjahhhfajaaaGreatDoor
open Go.RowKit Wh

/-- What a function that reads at token i in depth d leaves: P says what is read. -/
def RdP (w : World) (b : Nat) (sl : Value) (len i d : Nat) (P : PO) (e : Ending) (w' : World) : Prop :=
  ∃ (v : Value) (l : List Nd) (j dd : Nat) (x : Int), e = .returned v ∧ w'.ownsRow w.heap.size 53 6 v l.length (nodesL l) ∧ (l.length ≤ len - i ∧ j < len ∧ dd ≤ 300) ∧ Pr w' b sl j dd x ∧ w.grownBy w' (some b) ∧
    ((x = 0 ∧ P = .ok l j ∧ dd = d) ∨ (¬ x = 0 ∧ P = .bad x j ∧ d ≤ dd))
/-- The function F reads level lvl, where what is still to come is less than f. -/
def Reads8 (ts : List TA) (a : Option Addr) (len cap f lvl F : Nat) : Prop :=
  ∀ (i d b : Nat) (w : World), Pr w b (.slice a len cap) i d 0 → IsToks w a len ts → (∀ x, a = some x → x.block ≠ b) → i < len → 9 * (len - i) + (8 - lvl) < f → d ≤ 257 → At8 ts lvl i → (lvl = 8 → d ≤ 256) →
    Calls Tryz.prog F #[ptr b] w (RdP w b (.slice a len cap) len i d (prT ts f lvl i d))

/-- The tokens and what holds of them. -/
structure TkH (ts : List TA) (a : Option Addr) (len : Nat) : Prop where
  el : EndT ts
  ln : ts.length = len
  le : len ≤ 100000
  nm : ∀ i, i < len → (tkA ts i).1.k = 2 → 0 ≤ (tkA ts i).1.nm ∧ (tkA ts i).1.nm ≤ 1073741824

theorem TkH.get {ts : List TA} {a : Option Addr} {len : Nat} (h : TkH ts a len) (i : Nat) : ts[min i (len - 1)]? = some (tkA ts i) := by
  have := tkA_get h.el.1 i
  rwa [h.ln] at this
theorem TkH.one {ts : List TA} {a : Option Addr} {len : Nat} (h : TkH ts a len) : 1 ≤ len := by
  have := h.el.1
  rwa [h.ln] at this
theorem TkH.next {ts : List TA} {a : Option Addr} {len : Nat} (h : TkH ts a len) {k : Nat} (hk : k < len) (h0 : ¬ (tkA ts k).1.k = 0) : k + 1 < len := by
  have := (h.el.2 k (by rw [h.ln]; exact hk)).2
  rw [h.ln] at this
  by_cases h' : k + 1 = len
  · exact absurd (this h') h0
  · omega

/-- what is still to come for a loop over the parser in block b -/
def prM (b len : Nat) (w : World) : Nat :=
  match w.cell? ⟨b, 1, none⟩, w.cell? ⟨b, 3, none⟩ with
  | some (.int _ j), some (.int _ x) => if x = 0 then len + 1 - j.toNat else 0
  | _, _ => 0
theorem prM_eq {w : World} {b : Nat} {sl : Value} {j d len : Nat} {x : Int} (h : Pr w b sl j d x) : prM b len w = if x = 0 then len + 1 - j else 0 := by
  unfold prM
  rw [h.c1, h.c3]
  simp

theorem Pr.inc1 {w : World} {b : Nat} {sl : Value} {i d : Nat} {x : Int} (h : Pr w b sl i d x) : Pr (w.setCell ⟨b, 1, none⟩ (.int .i64 ((i : Int) + 1))) b sl (i + 1) d x := by
  have e : (i : Int) + 1 = ((i + 1 : Nat) : Int) := by omega
  rw [e]
  exact Pr.set1 h (i + 1)
theorem Pr.inc1b {w : World} {b : Nat} {sl : Value} {i d : Nat} {x : Int} (h : Pr w b sl i d x) : Pr (w.setCell ⟨b, 1, none⟩ (.int .i64 ((i : Int) + 2))) b sl (i + 2) d x := by
  have e : (i : Int) + 2 = ((i + 2 : Nat) : Int) := by omega
  rw [e]
  exact Pr.set1 h (i + 2)
theorem Pr.inc2 {w : World} {b : Nat} {sl : Value} {i d : Nat} {x : Int} (h : Pr w b sl i d x) : Pr (w.setCell ⟨b, 2, none⟩ (.int .i64 ((d : Int) + 1))) b sl i (d + 1) x := by
  have e : (d : Int) + 1 = ((d + 1 : Nat) : Int) := by omega
  rw [e]
  exact Pr.set2 h (d + 1)
theorem Pr.dec2 {w : World} {b : Nat} {sl : Value} {i d : Nat} {x : Int} (h : Pr w b sl i d x) (hd : 1 ≤ d) : Pr (w.setCell ⟨b, 2, none⟩ (.int .i64 ((d : Int) - 1))) b sl i (d - 1) x := by
  have e : (d : Int) - 1 = ((d - 1 : Nat) : Int) := by omega
  rw [e]
  exact Pr.set2 h (d - 1)

theorem size_setC (w : World) (b j : Nat) (v : Value) : (w.setCell ⟨b, j, none⟩ v).heap.size = w.heap.size := by simp [World.setCell]
theorem lit_node_set (w : World) (b j : Nat) (v : Value) (t : Nd) : IsNodes ((w.setCell ⟨b, j, none⟩ v).alloc (.cells #[.int .i64 t.op, .int .i64 t.v.k, .int .i64 t.v.n, .string t.v.s, .string t.nm, .int .i64 t.ar] 53)) (some ⟨w.heap.size, 0, none⟩) 1 [t] := by
  have h := lit_node (w.setCell ⟨b, j, none⟩ v) t
  rwa [size_setC] at h

theorem Pr.kept {w w' : World} {b : Nat} {sl : Value} {i d : Nat} {x : Int} {row : Option Nat} (h : Pr w b sl i d x) (hg : w.grownBy w' row) (hne : some b ≠ row) : Pr w' b sl i d x := ⟨(hg.block b h.lt hne).trans h.block⟩
/-- An owned row that is appended to in place: the parser stays, what the call began with stays. -/
theorem app_keeps {w w4 w5 : World} {b n : Nat} {sl v : Value} {i d : Nat} {x : Int} {xs : List Value} (hP : Pr w4 b sl i d x) (hg : w.grownBy w4 (some b)) (hbw : b < w.heap.size) (hown : w4.ownsRow w.heap.size 53 6 v n xs) {o : Obj} (hg5 : (w4.alloc o).grownBy w5 v.ownBlock) :
    Pr w5 b sl i d x ∧ w.grownBy w5 (some b) := by
  have hg45 : w4.grownBy w5 v.ownBlock := (World.grownBy_alloc w4 o _).trans hg5
  refine ⟨hP.kept hg45 (fun hc => ?_), hg.andThen hg45 (fun j hj => .inl (hown.lt j hj).1)⟩
  have := (hown.lt b hc.symm).1
  omega

/-- The tokens lie where the parser does not. -/
theorem toks_grown {w w' : World} {a : Option Addr} {len b : Nat} {ts : List TA} (h : IsToks w a len ts) (hg : w.grownBy w' (some b)) (hf : ∀ x, a = some x → x.block ≠ b) : IsToks w' a len ts := h.grown hg hf
/-- An owned row stays while the parser's block changes. -/
theorem own_parser {w w' : World} {base b n : Nat} {v : Value} {xs : List Value} (h : w.ownsRow base 53 6 v n xs) (hg : w.grownBy w' (some b)) (hb : b < base) : w'.ownsRow base 53 6 v n xs := by
  refine h.kept hg ?_
  cases ho : v.ownBlock with
  | none => exact .inl rfl
  | some j =>
    have := (h.lt j ho).1
    exact .inr (fun hc => by cases hc; omega)

end Go.Proofs.YtmdpjahhhfajaaaGreatDoor
set_option linter.unusedVariables false
namespace Go.Proofs.YtmdpjahhhfajaaaGreatDoor
open Go.RowKit Wh

abbrev agg (k n : Int) (s : ByteArray) : Value := .agg #[.int .i64 k, .int .i64 n, .string s]

theorem valid_any (k n : Int) (s : ByteArray) (w : World) :
    Calls Tryz.prog 94 #[agg k n s] w fun e w' => e = .returned (.bool (validB k n s)) ∧ Below w.heap.size w w' := by
  go_enter Tryz.func94, Tryz.ntmps94
  go_wp2
  all_goals
    go_ret
    refine ⟨ret_bool ?_, (Below.refl _ _).alloc (Nat.le_refl _) _⟩
    simp_all [validB]
    try omega

theorem rvalid_any (k n : Int) (s : ByteArray) (w : World) :
    Calls Tryz.prog 74 #[agg k n s] w fun e w' => e = .returned (.bool (validB k n s)) ∧ Below w.heap.size w w' := by
  go_enter Tryz.func74, Tryz.ntmps74
  go_wp2
  all_goals
    go_ret
    refine ⟨ret_bool ?_, (Below.refl _ _).alloc (Nat.le_refl _) _⟩
    simp_all [validB]
    try omega

/-- From the cell (b, off) on lie the values vs. -/
def ValsAt (w : World) (b off : Nat) (vs : List V) : Prop :=
  ∀ i v, vs[i]? = some v → w.cell? ⟨b, off + i * 3, none⟩ = some (.int .i64 v.k) ∧ w.cell? ⟨b, off + i * 3 + 1, none⟩ = some (.int .i64 v.n) ∧ w.cell? ⟨b, off + i * 3 + 2, none⟩ = some (.string v.s)

/-- The slice (a, len) has the values vs. -/
def IsVals (w : World) (a : Option Addr) (len : Nat) (vs : List V) : Prop :=
  vs.length = len ∧ (vs = [] ∨ ∃ b off, a = some ⟨b, off, none⟩ ∧ b < w.heap.size ∧ ValsAt w b off vs)

theorem ValsAt.below {w w' : World} {b off B : Nat} {vs : List V} (h : ValsAt w b off vs) (hb : Below B w w') (hB : b < B) : ValsAt w' b off vs := by
  intro i v hv
  have e : ∀ o, w'.cell? ⟨b, o, none⟩ = w.cell? ⟨b, o, none⟩ := fun o => hb.cell (p := ⟨b, o, none⟩) hB
  rw [e, e, e]
  exact h i v hv

theorem IsVals.below {w w' : World} {a : Option Addr} {len B : Nat} {vs : List V} (h : IsVals w a len vs) (hb : Below B w w') (hB : w.heap.size ≤ B) : IsVals w' a len vs := by
  obtain ⟨h1, h2⟩ := h
  refine ⟨h1, ?_⟩
  rcases h2 with h2 | ⟨b, off, ha, hlt, hc⟩
  · exact .inl h2
  · exact .inr ⟨b, off, ha, by have := hb.size; omega, hc.below hb (by omega)⟩

theorem IsVals.at {w : World} {a : Option Addr} {len : Nat} {vs : List V} (h : IsVals w a len vs) {k : Nat} (hk : k < len) :
    ∃ kd n s b off, vs[k]? = some ⟨kd, n, s⟩ ∧ a = some ⟨b, off, none⟩ ∧ b < w.heap.size ∧ w.cell? ⟨b, off + k * 3, none⟩ = some (.int .i64 kd) ∧ w.cell? ⟨b, off + k * 3 + 1, none⟩ = some (.int .i64 n) ∧ w.cell? ⟨b, off + k * 3 + 2, none⟩ = some (.string s) := by
  obtain ⟨h1, h2⟩ := h
  obtain ⟨⟨kd, n, s⟩, hs⟩ : ∃ s, vs[k]? = some s := ⟨_, List.getElem?_eq_getElem (by omega)⟩
  rcases h2 with rfl | ⟨b, off, ha, hlt, hc⟩
  · simp at hs
  · exact ⟨kd, n, s, b, off, hs, ha, hlt, (hc k _ hs).1, (hc k _ hs).2.1, (hc k _ hs).2.2⟩

/-- The cells of a value, and of a row of values. -/
def cl (v : V) : List Value := [.int .i64 v.k, .int .i64 v.n, .string v.s]

def flat (vs : List V) : List Value := vs.flatMap cl

theorem info_val : (Tryz.prog.info? 51).map (fun i => (i.zero, i.size, i.bytes)) = some (some (.agg #[.int .i64 0, .int .i64 0, .string ⟨#[]⟩]), 3, 32) := by kernel_rfl

theorem flat_length (vs : List V) : (flat vs).length = vs.length * 3 := by
  unfold flat
  induction vs with
  | nil => rfl
  | cons v vs ih => simp only [List.flatMap_cons, List.length_append, ih, List.length_cons]; simp [cl]; omega

theorem flat_at (vs : List V) (i : Nat) (v : V) (h : vs[i]? = some v) : (flat vs)[i * 3]? = some (.int .i64 v.k) ∧ (flat vs)[i * 3 + 1]? = some (.int .i64 v.n) ∧ (flat vs)[i * 3 + 2]? = some (.string v.s) := by
  unfold flat
  induction vs generalizing i with
  | nil => simp at h
  | cons u vs ih =>
    cases i with
    | zero => simp at h; subst h; simp [cl]
    | succ i =>
      simp only [List.getElem?_cons_succ] at h
      have := ih i h
      rw [show (i + 1) * 3 = i * 3 + 1 + 1 + 1 from by omega]
      simpa [cl, List.flatMap_cons] using this

/-- A slice that owns the cells of a row has the values of the row. -/
theorem own_vals {w : World} {base n : Nat} {sv : Value} {vs : List V} (h : w.ownsRow base 51 3 sv n (flat vs)) (hn : vs.length = n) :
    ∃ (a : Option Addr) (cap : Nat), sv = .slice a n cap ∧ IsVals w a n vs ∧ (∀ x, a = some x → base ≤ x.block) := by
  rcases h.2 with ⟨rfl, rfl⟩ | ⟨g, cap, cur, rfl, hg, hh, _, _, _, ht⟩
  · exact ⟨none, 0, rfl, ⟨hn, .inl (List.eq_nil_of_length_eq_zero hn)⟩, by simp⟩
  · have hlt : g < w.heap.size := (Array.getElem?_eq_some_iff.1 hh).1
    refine ⟨_, cap, rfl, ⟨hn, .inr ⟨g, 0, rfl, hlt, fun i v hv => ?_⟩⟩, by rintro x ⟨⟩; exact hg⟩
    have hadd : ∀ o j, (⟨g, o, none⟩ : Addr).add j = ⟨g, o + j, none⟩ := fun o j => by unfold Addr.add; split <;> simp_all
    obtain ⟨h0, h1, h2⟩ := flat_at vs i v hv
    have c := h.cells (g := g) rfl
    have c0 := c _ _ h0
    have c1 := c _ _ h1
    have c2 := c _ _ h2
    simp only [hadd] at c0 c1 c2
    refine ⟨c0, ?_, ?_⟩
    · rw [Nat.add_assoc]; exact c1
    · rw [Nat.add_assoc]; exact c2

end Go.Proofs.YtmdpjahhhfajaaaGreatDoor
set_option linter.unusedVariables false
set_option linter.unusedSimpArgs false
set_option maxRecDepth 100000
namespace Go.Proofs.YtmdpjahhhfajaaaGreatDoor
open Go.RowKit Wh

set_option maxHeartbeats 1000000 in
theorem rblt_any (s : ByteArray) (w : World) : Calls Tryz.prog 77 #[.string s] w fun e w' => e = .returned (.bool (bltB s)) ∧ Below w.heap.size w w' := by
  go_enter Tryz.func77, Tryz.ntmps77
  go_wp2_with fail
  have HS : IsStrs (w.alloc (.cells #[.string ⟨#[105, 102]⟩, .string ⟨#[99, 111, 97, 108, 101, 115, 99, 101]⟩, .string ⟨#[105, 115, 110, 117, 108, 108]⟩, .string ⟨#[108, 101, 110, 103, 116, 104]⟩, .string ⟨#[100, 97, 121]⟩] 9)) (some ⟨w.heap.size, 0, none⟩) 5 bltL := by
    refine ⟨rfl, .inr ⟨w.heap.size, 0, rfl, by simp, fun i x hx => ?_⟩⟩
    have h1 : (bltL.map Value.string)[i]? = some (.string x) := by rw [List.getElem?_map, hx]; rfl
    rw [Nat.zero_add]
    exact (cell_of_row _ _ i _ _ _ (heap_alloc_new w _)).trans (by rw [← Array.getElem?_toList]; exact h1)
  refine (has_any _ 5 5 bltL s _ HS (by decide)).mono ?_
  rintro e w1 ⟨rfl, rfl⟩
  go_wp2_with fail
  go_ret
  exact ⟨rfl, (Below.refl _ _).alloc (Nat.le_refl _) _⟩

set_option maxHeartbeats 1000000 in
theorem rcol_any (s : ByteArray) (w : World) (hs : s.size ≤ 9223372036854775800) : Calls Tryz.prog 75 #[.string s] w fun e w' => e = .returned (.bool (colB s)) ∧ Below w.heap.size w w' := by
  unfold colB
  have C1 := Lib.hid (rIsName_any s w)
  have C2 := Lib.hid (fun W => rreserved_any s W)
  generalize nameB s = b1 at *
  generalize resB s = b2 at *
  cases b1
  · go_enter Tryz.func75, Tryz.ntmps75
    go_wp2_with fail
    refine C1.out.mono ?_
    rintro e w1 ⟨rfl, rfl⟩
    go_wp2_with fail
    go_ret
    exact ⟨rfl, Below.refl _ _⟩
  · go_enter Tryz.func75, Tryz.ntmps75
    go_wp2_with fail
    refine C1.out.mono ?_
    rintro e w1 ⟨rfl, rfl⟩
    go_wp2_with fail
    refine (C2.out _).mono ?_
    rintro e w1 ⟨rfl, hb⟩
    go_wp2_with fail
    go_ret
    exact ⟨rfl, hb⟩

set_option maxHeartbeats 1000000 in
theorem rref_any (s : ByteArray) (w : World) (hs : s.size ≤ 9223372036854775800) : Calls Tryz.prog 76 #[.string s] w fun e w' => e = .returned (.bool (refB s)) ∧ Below w.heap.size w w' := by
  unfold refB
  have C1 := Lib.hid (rIsQualified_any s hs w)
  have C2 := Lib.hid (fun W => rreserved_any s W)
  generalize qualB s = b1 at *
  generalize resB s = b2 at *
  cases b1
  · go_enter Tryz.func76, Tryz.ntmps76
    go_wp2_with fail
    refine C1.out.mono ?_
    rintro e w1 ⟨rfl, rfl⟩
    go_wp2_with fail
    go_ret
    exact ⟨rfl, Below.refl _ _⟩
  · go_enter Tryz.func76, Tryz.ntmps76
    go_wp2_with fail
    refine C1.out.mono ?_
    rintro e w1 ⟨rfl, rfl⟩
    go_wp2_with fail
    refine (C2.out _).mono ?_
    rintro e w1 ⟨rfl, hb⟩
    go_wp2_with fail
    go_ret
    exact ⟨rfl, hb⟩

set_option maxHeartbeats 1000000 in
theorem rarity_any (t : Nd) (w : World) : Calls Tryz.prog 24 #[ndV t] w fun e w' => e = .returned (.int .i64 (arN t)) ∧ Below w.heap.size w w' := by
  obtain ⟨op, ⟨k, n, s⟩, nm, ar⟩ := t
  unfold ndV
  simp only
  go_enter Tryz.func24, Tryz.ntmps24
  go_wp2
  all_goals
    go_ret
    refine ⟨ret_int ?_, (Below.refl _ _).alloc (Nat.le_refl _) _⟩
    unfold arN
    simp only
    simp_all
    try omega

/-- The six cells of a box in worlds behind it. -/
theorem box6 {w w1 : World} {x0 x1 x2 x3 x4 x5 : Value} {t : TypeId} (h : Below (w.alloc (.cells #[x0, x1, x2, x3, x4, x5] t)).heap.size (w.alloc (.cells #[x0, x1, x2, x3, x4, x5] t)) w1) :
    w1.cell? ⟨w.heap.size, 0, none⟩ = some x0 ∧ w1.cell? ⟨w.heap.size, 1, none⟩ = some x1 ∧ w1.cell? ⟨w.heap.size, 2, none⟩ = some x2 ∧ w1.cell? ⟨w.heap.size, 3, none⟩ = some x3 ∧ w1.cell? ⟨w.heap.size, 4, none⟩ = some x4 ∧ w1.cell? ⟨w.heap.size, 5, none⟩ = some x5 := by
  have hh := heap_alloc_new w (.cells #[x0, x1, x2, x3, x4, x5] t)
  have e : ∀ i, w1.cell? ⟨w.heap.size, i, none⟩ = (w.alloc (.cells #[x0, x1, x2, x3, x4, x5] t)).cell? ⟨w.heap.size, i, none⟩ := fun i => h.cell (p := ⟨w.heap.size, i, none⟩) (by simp)
  refine ⟨?_, ?_, ?_, ?_, ?_, ?_⟩
  · rw [e]; exact cell_of_row _ _ 0 _ _ _ hh
  · rw [e]; exact cell_of_row _ _ 1 _ _ _ hh
  · rw [e]; exact cell_of_row _ _ 2 _ _ _ hh
  · rw [e]; exact cell_of_row _ _ 3 _ _ _ hh
  · rw [e]; exact cell_of_row _ _ 4 _ _ _ hh
  · rw [e]; exact cell_of_row _ _ 5 _ _ _ hh
theorem below_box {w w1 : World} {o : Obj} (h : Below (w.alloc o).heap.size (w.alloc o) w1) : Below w.heap.size w w1 :=
  ((Below.refl w.heap.size w).alloc (Nat.le_refl _) o).trans (h.mono (by simp))
theorem emp_list (s : ByteArray) : empB s = decide (s.toList = []) := by
  unfold empB
  rw [toList_bts]
  have := bts_length s
  by_cases h : s.size = 0
  · simp [h, List.eq_nil_of_length_eq_zero (by omega : (bts s).length = 0)]
  · have : bts s ≠ [] := by intro h2; rw [h2] at this; simp at this; omega
    simp [h, this]

theorem beq0 (x : Int) : (x == 0) = decide (x = 0) := by by_cases h : x = 0 <;> simp [h]

set_option maxHeartbeats 4000000 in
theorem rformed_any (t : Nd) (w : World) (hs : t.nm.size ≤ 9223372036854775800) : Calls Tryz.prog 39 #[ndV t] w fun e w' => e = .returned (.bool (nodB t)) ∧ Below w.heap.size w w' := by
  have AR := Lib.hid (fun W => rarity_any t W)
  obtain ⟨a, ha⟩ : ∃ a, arN t = a := ⟨_, rfl⟩
  rw [ha] at AR
  have HA := Lib.hid ha
  clear ha
  obtain ⟨op, ⟨k, n, s⟩, nm, ar⟩ := t
  unfold ndV at *
  simp only at hs AR ⊢
  obtain ⟨vb, hv⟩ : ∃ b, validB k n s = b := ⟨_, rfl⟩
  have CV := Lib.hid (fun W => rvalid_any k n s W)
  rw [hv] at CV
  have HV := Lib.hid hv
  have C1 := Lib.hid (fun W => rcol_any nm W hs)
  have C2 := Lib.hid (fun W => rref_any nm W hs)
  have C3 := Lib.hid (fun W => rblt_any nm W)
  obtain ⟨cb, hcb⟩ : ∃ b, colB nm = b := ⟨_, rfl⟩
  obtain ⟨rb, hrb⟩ : ∃ b, refB nm = b := ⟨_, rfl⟩
  obtain ⟨bb, hbb⟩ : ∃ b, bltB nm = b := ⟨_, rfl⟩
  rw [hcb] at C1
  rw [hrb] at C2
  rw [hbb] at C3
  have HC := Lib.hid (And.intro hcb (And.intro hrb hbb))
  clear hv hcb hrb hbb
  rcases Classical.em (k = 0) with hk | hk <;> rcases Classical.em (n = 0) with hn | hn
  all_goals
    try subst hk
    try subst hn
    by_cases h0 : op = 0
    · subst h0
      clear AR HA C1 C2 C3 HC
      go_enter Tryz.func39, Tryz.ntmps39
      go_wp2_with fail
      all_goals
        refine (CV.out _).mono ?_
        rintro e w1 ⟨rfl, hb⟩
        obtain ⟨b0, b1, b2, b3, b4, b5⟩ := box6 hb
        have HB := Lib.hid (below_box hb)
        clear hb CV
        have hv := HV.out
        clear HV
        cases vb
        · go_wp2_with fail
          go_ret
          refine ⟨ret_bool ?_, HB.out⟩
          simp [nodB, hv]
        · go_wp2_with fail
          all_goals
            go_ret
            refine ⟨ret_bool ?_, HB.out⟩
            simp_all [nodB, hv, emp_list, beq0]
            try (intros; omega)
    · by_cases h1 : op = 1
      · subst h1
        clear AR HA CV HV C2 C3
        obtain ⟨hcb, -, -⟩ := HC.out
        clear HC
        go_enter Tryz.func39, Tryz.ntmps39
        go_wp2_with (go_at_call 75; refine (C1.out _).mono ?_; rintro e w1 ⟨rfl, hb⟩; have HB := Lib.hid (below_box hb))
        all_goals
          go_ret
          refine ⟨ret_bool ?_, by first | exact HB.out | exact (Below.refl _ _).alloc (Nat.le_refl _) _⟩
          simp_all [nodB, zeroV, emp_list, beq0]
          try (intros; omega)
      · by_cases h20 : op = 20
        · subst h20
          clear AR HA CV HV C1 C3
          obtain ⟨-, hrb, -⟩ := HC.out
          clear HC
          go_enter Tryz.func39, Tryz.ntmps39
          go_wp2_with (go_at_call 76; refine (C2.out _).mono ?_; rintro e w1 ⟨rfl, hb⟩; have HB := Lib.hid (below_box hb))
          all_goals
            go_ret
            refine ⟨ret_bool ?_, by first | exact HB.out | exact (Below.refl _ _).alloc (Nat.le_refl _) _⟩
            simp_all [nodB, zeroV, emp_list, beq0]
            try (intros; omega)
        · by_cases h21 : op = 21
          · subst h21
            clear AR HA CV HV C1
            obtain ⟨-, hrb, hbb⟩ := HC.out
            clear HC
            go_enter Tryz.func39, Tryz.ntmps39
            cases rb
            · go_wp2_with (go_at_call 76; refine (C2.out _).mono ?_; rintro e w1 ⟨rfl, hb⟩; obtain ⟨b0, b1, b2, b3, b4, b5⟩ := box6 hb; have HB := Lib.hid (below_box hb))
              all_goals
                go_ret
                refine ⟨ret_bool ?_, by first | exact HB.out | exact (Below.refl _ _).alloc (Nat.le_refl _) _⟩
                simp_all [nodB, zeroV, emp_list, beq0]
                try (intros; omega)
            · go_wp2_with (first
                | (go_at_call 76; refine (C2.out _).mono ?_; rintro e w1 ⟨rfl, hb⟩; obtain ⟨b0, b1, b2, b3, b4, b5⟩ := box6 hb; have HB := Lib.hid (below_box hb); have hsz := hb.size; clear hb)
                | (go_at_call 77; refine (C3.out _).mono ?_; rintro e w2 ⟨rfl, hb2⟩; have HB2 := Lib.hid (HB.out.trans (hb2.mono HB.out.size))))
              all_goals
                go_ret
                refine ⟨ret_bool ?_, by first | exact HB2.out | exact HB.out | exact (Below.refl _ _).alloc (Nat.le_refl _) _⟩
                simp_all [nodB, zeroV, emp_list, beq0]
                try (intros; omega)
          · clear CV HV C1 C2 C3 HC
            go_enter Tryz.func39, Tryz.ntmps39
            go_wp2_with (go_at_call 24; refine (AR.out _).mono ?_; rintro e w1 ⟨rfl, hb⟩; obtain ⟨b0, b1, b2, b3, b4, b5⟩ := box6 hb; have HB := Lib.hid (below_box hb); clear hb)
            all_goals
              go_ret
              refine ⟨ret_bool ?_, by first | exact HB.out | exact (Below.refl _ _).alloc (Nat.le_refl _) _⟩
              have ha := HA.out
              simp_all [nodB, zeroV, emp_list, beq0]
              try (intros; omega)

end Go.Proofs.YtmdpjahhhfajaaaGreatDoor
