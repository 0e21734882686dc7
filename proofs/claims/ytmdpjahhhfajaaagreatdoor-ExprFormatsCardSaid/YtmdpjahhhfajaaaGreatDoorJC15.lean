/-
  The program's parser: apply of a node with operands.
-/
import Derived.Test.YtmdpjahhhfajaaaGreatDoorJC13
import Derived.Test.YtmdpjahhhfajaaaGreatDoorJC14
import Derived.Deep.RegionHeld3
import Derived.LoopTactic
set_option linter.unusedVariables false
set_option linter.unusedSimpArgs false
set_option maxRecDepth 100000
namespace Go.Proofs.YtmdpjahhhfajaaaGreatDoor
open Go.RowKit Wh
theorem slice_from_nls (g n cap k : Nat) (hk : k ≤ n) (hc : n ≤ cap) (hm : cap ≤ maxLen) (h0 : k < cap) (W : World) :
  (Instr.slice 61 (.slice (some ⟨g, 0, none⟩) n cap) (some (.int .i64 (k : Int))) none none).run Tryz.prog W = .ok (.slice (some ⟨g, k, none⟩) (n - k) (cap - k)) W := by
 have ht : Tryz.prog.underlying 61 = some (.slice (Tryz.prog.elem 61)) := by simp [Program.elem, Tryz.underlying61]
 have he : Tryz.prog.elem 61 = 30 := by simp [Program.elem, Tryz.underlying61]
 have hsz : (sizeOf 30).run Tryz.prog W = .ok 1 W := by
  obtain ⟨i0, hi, _, h1, _⟩ := info_parts info_nsl
  simp [sizeOf, typeInfo, hi, h1]
 rw [run_slice_l W _ _ _ _ ht .i64 _ (by omega) (by omega), he, hsz]
 have hadd : (⟨g, 0, none⟩ : Addr).add (k * 1) = ⟨g, k, none⟩ := by unfold Addr.add; split <;> simp_all
 have hc2 : ¬ cap = k := by omega
 simp [Result.andThen, sliced, hc2] at hadd ⊢
 exact hadd
theorem slice_to_nls (g n cap k : Nat) (hk : k ≤ cap) (hm : cap ≤ maxLen) (h0 : 0 < cap) (W : World) :
  (Instr.slice 61 (.slice (some ⟨g, 0, none⟩) n cap) none (some (.int .i64 (k : Int))) none).run Tryz.prog W = .ok (.slice (some ⟨g, 0, none⟩) k cap) W := by
 have ht : Tryz.prog.underlying 61 = some (.slice (Tryz.prog.elem 61)) := by simp [Program.elem, Tryz.underlying61]
 have he : Tryz.prog.elem 61 = 30 := by simp [Program.elem, Tryz.underlying61]
 have hsz : (sizeOf 30).run Tryz.prog W = .ok 1 W := by
  obtain ⟨i0, hi, _, h1, _⟩ := info_parts info_nsl
  simp [sizeOf, typeInfo, hi, h1]
 rw [run_slice_h W _ _ _ _ ht .i64 _ (by omega) (by omega), he, hsz]
 have hadd : (⟨g, 0, none⟩ : Addr).add 0 = ⟨g, 0, none⟩ := by unfold Addr.add; split <;> simp_all
 have hc2 : ¬ cap = 0 := by omega
 simp [Result.andThen, sliced, hc2, hadd]
theorem slice_to_nds (g n cap k : Nat) (hk : k ≤ cap) (hm : cap ≤ maxLen) (h0 : 0 < cap) (W : World) :
  (Instr.slice 30 (.slice (some ⟨g, 0, none⟩) n cap) none (some (.int .i64 (k : Int))) none).run Tryz.prog W = .ok (.slice (some ⟨g, 0, none⟩) k cap) W := by
 have ht : Tryz.prog.underlying 30 = some (.slice (Tryz.prog.elem 30)) := by simp [Program.elem, Tryz.underlying30]
 have he : Tryz.prog.elem 30 = 53 := by simp [Program.elem, Tryz.underlying30]
 rw [run_slice_h W _ _ _ _ ht .i64 _ (by omega) (by omega), he, size_node]
 have hadd : (⟨g, 0, none⟩ : Addr).add 0 = ⟨g, 0, none⟩ := by unfold Addr.add; split <;> simp_all
 have hc2 : ¬ cap = 0 := by omega
 simp [Result.andThen, sliced, hc2, hadd]
theorem keepAp {w w1 W w' : World} {b : Nat} {x0 x1 x2 x3 x4 x5 x6 : Value} (hb : b < w1.heap.size) (hw : w.heap.size < w1.heap.size)
  (h : W.cell? ⟨b, 3, none⟩ = some x0 ∧ W.cell? ⟨w.heap.size, 0, none⟩ = some x1 ∧ W.cell? ⟨w.heap.size, 1, none⟩ = some x2 ∧ W.cell? ⟨w.heap.size, 2, none⟩ = some x3 ∧ W.cell? ⟨w.heap.size, 3, none⟩ = some x4 ∧ W.cell? ⟨w.heap.size, 4, none⟩ = some x5 ∧ W.cell? ⟨w.heap.size, 5, none⟩ = some x6 ∧ Below w1.heap.size w1 W) (hB : Below W.heap.size W w') :
  w'.cell? ⟨b, 3, none⟩ = some x0 ∧ w'.cell? ⟨w.heap.size, 0, none⟩ = some x1 ∧ w'.cell? ⟨w.heap.size, 1, none⟩ = some x2 ∧ w'.cell? ⟨w.heap.size, 2, none⟩ = some x3 ∧ w'.cell? ⟨w.heap.size, 3, none⟩ = some x4 ∧ w'.cell? ⟨w.heap.size, 4, none⟩ = some x5 ∧ w'.cell? ⟨w.heap.size, 5, none⟩ = some x6 ∧ Below w1.heap.size w1 w' := by
 obtain ⟨h0, h1, h2, h3, h4, h5, h6, h7⟩ := h
 have hs := h7.size
 have k : ∀ o, w'.cell? ⟨w.heap.size, o, none⟩ = W.cell? ⟨w.heap.size, o, none⟩ := fun o => hB.cell (p := ⟨w.heap.size, o, none⟩) (Nat.lt_of_lt_of_le hw hs)
 have kb : w'.cell? ⟨b, 3, none⟩ = W.cell? ⟨b, 3, none⟩ := hB.cell (p := ⟨b, 3, none⟩) (Nat.lt_of_lt_of_le hb hs)
 exact ⟨kb.trans h0, (k _).trans h1, (k _).trans h2, (k _).trans h3, (k _).trans h4, (k _).trans h5, (k _).trans h6, h7.trans (hB.mono hs)⟩
theorem slice_tail (g len cap n p : Nat) (hn : len = n + p) (hp : 1 ≤ p) (hc : len ≤ cap) (hm : cap ≤ maxLen) :
  ∃ (a2 : Option Addr) (c2 : Nat), (∀ W, (Instr.slice 61 (.slice (some ⟨g, 0, none⟩) (n + p) cap) (some (.int .i64 ((n : Int) + 1))) none none).run Tryz.prog W = .ok (.slice a2 (p - 1) c2) W) ∧ (1 < p → a2 = some ⟨g, n + 1, none⟩) := by
 subst hn
 by_cases h : n + 1 < cap
 ·refine ⟨some ⟨g, n + 1, none⟩, cap - (n + 1), fun W => ?_, fun _ => rfl⟩
  have := slice_from_nls g (n + p) cap (n + 1) (by omega) hc hm h W
  rw [show n + p - (n + 1) = p - 1 by omega, show ((n + 1 : Nat) : Int) = (n : Int) + 1 by omega] at this
  exact this
 ·have hcap : cap = n + 1 := by omega
  have hp1 : p = 1 := by omega
  subst hp1
  refine ⟨some ⟨g, 0, none⟩, 0, fun W => ?_, fun h => by omega⟩
  have ht : Tryz.prog.underlying 61 = some (.slice (Tryz.prog.elem 61)) := by simp [Program.elem, Tryz.underlying61]
  have he : Tryz.prog.elem 61 = 30 := by simp [Program.elem, Tryz.underlying61]
  have hsz : (sizeOf 30).run Tryz.prog W = .ok 1 W := by
   obtain ⟨i0, hi, _, h1, _⟩ := info_parts info_nsl
   simp [sizeOf, typeInfo, hi, h1]
  rw [show (n : Int) + 1 = ((n + 1 : Nat) : Int) by omega, run_slice_l W _ _ _ _ ht .i64 _ (by omega) (by omega), he, hsz]
  simp [Result.andThen, sliced, hcap]
theorem Sk.but {w w' : World} {b g : Nat} {rs : List (List Nd)} {sv : Value} {vs : List Value} (h : Sk w b rs sv vs) (hg : w.grownBy w' (some g)) (hs : sv.ownBlock ≠ some g) (hr : ∀ (k : Nat) (u : Value), vs[k]? = some u → u.ownBlock ≠ some g) : Sk w' b rs sv vs :=
 ⟨h.len, h.own.kept hg (.inr hs), h.nb, fun k v r hv hq => ⟨(h.row k v r hv hq).1.kept hg (.inr (hr k v hv)), (h.row k v r hv hq).2⟩, h.far, h.apart⟩
theorem nodesL_take (l : List Nd) (k : Nat) : (nodesL l).take (k * 6) = nodesL (l.take k) := by
 unfold nodesL
 induction l generalizing k with
 | nil => simp
 | cons t l ih =>
  cases k with
  | zero => simp
  | succ k =>
   rw [List.take_succ_cons, List.flatMap_cons, List.flatMap_cons, List.take_append, ← ih k]
   have : (c6 t).length = 6 := rfl
   rw [List.take_of_length_le (by omega), this, show (k + 1) * 6 - 6 = k * 6 by omega]
theorem wpList_appn {w : World} {ops : Array Oper} {rest : List Oper} {o : Oper} {a : Act} {Q : Exit → Act → World → Prop} (hgd : o.guard = none) (s x : Operand)
  (ho : o.op = .call { callee := .builtin .append, args := #[s, x], argTypes := #[30, 30] }) {base n : Nat} {v : Value} {l : List Nd} (hs : a.eval s = v)
  {gr off rl rc : Nat} {r : List Nd} (hx : a.eval x = .slice (some ⟨gr, off, none⟩) rl rc) (hown : w.ownsRow base 53 6 v n (nodesL l)) (hb : base ≤ w.heap.size) (hv : IsNodes w (some ⟨gr, off, none⟩) rl r) (h1 : 1 ≤ rl) (hl : rl ≤ 1000000) (hnn : n ≤ 1000000)
  (h : ∀ g cap w', w'.ownsRow base 53 6 (.slice (some ⟨g, 0, none⟩) (n + rl) cap) (n + rl) (nodesL (l ++ r)) → w.grownBy w' v.ownBlock → (v.ownBlock = some g ∨ g = w.heap.size) → g < w'.heap.size → wpList Tryz.prog ops Q rest (a.put o.dst (.slice (some ⟨g, 0, none⟩) (n + rl) cap)) w') :
  wpList Tryz.prog ops Q (o :: rest) a w := by
 obtain ⟨i0, hi, hz0, hz1, hz2⟩ := info_parts info_node
 refine wpList_append_lies w hgd s x 30 ho base 53 i0 _ 6 64 Tryz.underlying30 hi hz0 hz1 hz2 rfl (by decide) v n (nodesL l) hs hown ⟨gr, off, none⟩ rl rc (nodesL r) hx (by rw [nodesL_length, hv.1]) (nodes_news hv) (nodes_one r) (by omega) (by unfold maxLen; omega) (by omega) hb w.heap.size rfl ?_
 intro g cap w' h2 h3 h4 h5
 rw [← nodesL_app] at h2
 exact h g cap w' h2 h3 h4 h5
theorem flatten_push {α : Type} (ls : List (List α)) (k : Nat) (x : List α) (h : ls[k]? = some x) : (ls.take (k + 1)).flatten = (ls.take k).flatten ++ x := by
 rw [List.take_add_one, h]
 simp
set_option maxHeartbeats 2500000 in
theorem qapply1_any (t : Nd) (p : Nat) (ht : arN t = (p : Int)) (hp1 : 1 ≤ p) (hp8 : p ≤ 8) (b : Nat) (sl : Value) (i d : Nat) (sv : Value) (rs : List (List Nd)) (vs : List Value) (n : Nat) (hn : rs.length = n + p) (w : World) (hP : Pq w b sl i d sv) (hS : Sk w b rs sv vs) (hnl : n ≤ 200000) :
  Calls Tryz.prog 91 #[ptr b, ndV t] w fun e w' => e = .returned (.tuple #[]) ∧ ∃ sv' vs', Pq w' b sl i d sv' ∧ Sk w' b (rs.take n ++ [((rs.drop n).flatten ++ [t]).take 257]) sv' vs' ∧ Fb w b sv vs w' sv' vs' := by
 have CA := Lib.hid (fun W => parity_any t W)
 rw [ht] at CA
 obtain ⟨op, ⟨vk, vn, vss⟩, nm, ar⟩ := t
 have hbw := hP.lt
 have hb0 : Below w.heap.size w (w.alloc (.cells #[.int .i64 op, .int .i64 vk, .int .i64 vn, .string vss, .string nm, .int .i64 ar] 53)) := (Below.refl _ _).alloc (Nat.le_refl _) _
 obtain ⟨i0, hi, hz0, hz1, hz2⟩ := info_parts info_nsl
 have mm : maxLen = 9223372036854775807 := rfl
 unfold ndV at CA ⊢
 simp only at CA ⊢
 have HP := Lib.hid hP
 have HS := Lib.hid hS
 have hlen := hS.len
 have hpb : ((p : Int) == 0) = false := by simpa using (by omega : ¬ p = 0)
 clear hP hS hb0 ht
 go_enter Tryz.func91, Tryz.ntmps91
 go_wp2_with fail
 refine (CA.out _).mono ?_
 rintro e w1 ⟨rfl, hb1⟩
 obtain ⟨b0, b1, b2, b3, b4, b5⟩ := box6 hb1
 have hB1 := below_box hb1
 have hP1 := HP.out.below hB1 HP.out.lt
 have hS1 := HS.out.below hB1
 have p3 := hP1.c3
 have pf := hP1.free
 have hs1 := hB1.size
 have hbw1 : b < w1.heap.size := hP1.lt
 have hws1 : w.heap.size < w1.heap.size := by have := hb1.size; simp at this; omega
 obtain ⟨sa, sc, rfl, hsc1, hsc2, hsc3, hsx⟩ := hS1.form
 obtain ⟨g, c, r0, hv0, hr0, ho0, hr1, hr2, hgb, hbg, hglt⟩ := hS1.get (k := n) (by omega)
 have hgw : g < w.heap.size := ((HS.out.row n _ r0 hv0 hr0).1.lt g rfl).2
 obtain ⟨x, rfl⟩ : ∃ x, sa = some x := by
  cases sa with
  | none => have := hsc3 rfl; omega
  | some x => exact ⟨x, rfl⟩
 obtain ⟨gs, rfl, hgs1, hgs2, hcell⟩ := hsx _ rfl
 have HNB := Lib.hid (And.intro b0 (And.intro b1 (And.intro b2 (And.intro b3 (And.intro b4 b5)))))
 have HP1 := Lib.hid hP1
 have HS1 := Lib.hid hS1
 have HB1 := Lib.hid hB1
 have HCELL := Lib.hid hcell
 clear hb1 hB1 hP1 hS1 HP HS hsx hcell
 have hwr : IntKind.i64.wrap (n : Int) = (n : Int) := by rw [IntKind.wrap_i64]; omega
 go_wp2_with fail
 have hS0 : w1.drew.cell? ⟨b, 3, none⟩ = some (.slice (some ⟨gs, 0, none⟩) rs.length sc) ∧ w1.drew.cell? ⟨w.heap.size, 0, none⟩ = some (.int .i64 op) ∧ w1.drew.cell? ⟨w.heap.size, 1, none⟩ = some (.int .i64 vk) ∧ w1.drew.cell? ⟨w.heap.size, 2, none⟩ = some (.int .i64 vn) ∧ w1.drew.cell? ⟨w.heap.size, 3, none⟩ = some (.string vss) ∧ w1.drew.cell? ⟨w.heap.size, 4, none⟩ = some (.string nm) ∧ w1.drew.cell? ⟨w.heap.size, 5, none⟩ = some (.int .i64 ar) ∧ Below w1.heap.size w1 w1.drew := ⟨p3, b0, b1, b2, b3, b4, b5, (Below.refl _ _).drew⟩
 go_region_held3 (fun w' => w'.cell? ⟨b, 3, none⟩ = some (.slice (some ⟨gs, 0, none⟩) rs.length sc) ∧ w'.cell? ⟨w.heap.size, 0, none⟩ = some (.int .i64 op) ∧ w'.cell? ⟨w.heap.size, 1, none⟩ = some (.int .i64 vk) ∧ w'.cell? ⟨w.heap.size, 2, none⟩ = some (.int .i64 vn) ∧ w'.cell? ⟨w.heap.size, 3, none⟩ = some (.string vss) ∧ w'.cell? ⟨w.heap.size, 4, none⟩ = some (.string nm) ∧ w'.cell? ⟨w.heap.size, 5, none⟩ = some (.int .i64 ar) ∧ Below w1.heap.size w1 w')
  (first | with_reducible exact hS0 | with_reducible exact keepAp hbw1 hws1 hS0 hcall)
  (first | (go_at_call 35; refine (CA.out _).mono ?_; rintro e w' ⟨rfl, hcall⟩))
 all_goals
  obtain ⟨p3', b0', b1', b2', b3', b4', b5', hbel2⟩ := keepAp hbw1 hws1 hS0 hcall
  have hs2 := hbel2.size
  have hP2 := HP1.out.below hbel2 hbw1
  have hS2 := HS1.out.below hbel2
  have hpf := hP2.free
  have hcn := (hbel2.cell (p := ⟨gs, n, none⟩) hgs2).trans (HCELL.out n _ hv0)
  obtain ⟨a2, c2, hsl, ha2⟩ := slice_tail gs rs.length sc n p hn hp1 hsc1 hsc2
  have HP2 := Lib.hid hP2
  have HS2 := Lib.hid hS2
  have HBEL2 := Lib.hid hbel2
  have HN2 := Lib.hid (And.intro b0' (And.intro b1' (And.intro b2' (And.intro b3' (And.intro b4' b5')))))
  have hln : (n : Int) < ((n + p : Nat) : Int) := by omega
  clear hS0 hcall hP2 hS2 hbel2 HP1 HS1 b0 b1 b2 b3 b4 b5 p3 pf b0' b1' b2' b3' b4' b5' HNB
  rw [hn] at p3'
  go_wp2_with fail
  have hgw2 : g < w'.heap.size := by omega
  have hgs3 : gs < w'.heap.size := by omega
  have hggs : g ≠ gs := fun hc => (HS2.out.far n _ hv0).2 gs rfl (by rw [hc]; rfl)
  have hL0 : ((rs.drop n).take 1).flatten = r0 := by
   rw [List.take_one, List.head?_drop, hr0]
   simp
  have HL0 := Lib.hid hL0
  have HROW := Lib.hid (fun (k : Nat) u q (hne : k ≠ n) (hu : vs[k]? = some u) (hq : rs[k]? = some q) (W : World) (hg : w'.grownBy W (some g)) => (HS2.out.row k u q hu hq).1.kept hg (.inr (fun hc => HS2.out.apart k n u _ hne hu hv0 g hc rfl)))
  clear hL0 p3' hcn
  go_loopw [5, 45] (fun ev iv wr => ∃ (j ge ce : Nat) (L : List Nd), j ≤ p - 1 ∧ iv = .int .i64 j ∧ Hid (L = ((rs.drop n).take (j + 1)).flatten ∧ 1 ≤ L.length ∧ L.length ≤ 257 * (j + 1)) ∧ ev = .slice (some ⟨ge, 0, none⟩) L.length ce ∧ wr.ownsRow b 53 6 (.slice (some ⟨ge, 0, none⟩) L.length ce) L.length (nodesL L) ∧ Hid ((ge = g ∨ w'.heap.size ≤ ge) ∧ ge < wr.heap.size ∧ w'.grownBy wr (some g))) (fun _ iv _ => p - 1 - (intOf iv).toNat)
  case atStart => exact ⟨0, g, c, r0, by omega, by go_num, ⟨HL0.out.symm, hr1, by omega⟩, rfl, (HS2.out.row n _ r0 hv0 hr0).1, ⟨.inl rfl, hgw2, World.grownBy.refl _ _⟩⟩
  case round =>
   obtain ⟨j, ge, ce, L, hj, rfl, HL, rfl, hown, HG⟩ := hrel
   have hLl := HL.out.2
   by_cases hlt : j < p - 1
   ·have ha2' := ha2 (by omega)
    subst ha2'
    obtain ⟨gk, ck, rk, hvk, hrk, hok, hk1, hk2, hkb, hbk, hklt⟩ := HS2.out.get (k := n + 1 + j) (by omega)
    have hrow := HROW.out (n + 1 + j) _ rk (by omega) hvk hrk wr HG.out.2.2
    obtain ⟨ak, ck2, hkv, q, qc, qm, qn, qx⟩ := own_nodes hrow rfl
    cases hkv
    have hck := (HG.out.2.2.cell ((HBEL2.out.cell (p := ⟨gs, n + 1 + j, none⟩) hgs2).trans (HCELL.out (n + 1 + j) _ hvk)) (fun hc => hggs (Option.some.inj hc).symm))
    have hji : (j : Int) < ((p - 1 : Nat) : Int) := by omega
    have hbs : b ≤ wr.heap.size := by have := HG.out.2.1; have := HG.out.2.2.size; omega
    clear hok hrow qx HL0
    go_wp2_with (at_builtin; refine wpList_appn rfl (.tmp 49) (.tmp 50) rfl rfl rfl hown hbs q hk1 (by omega) (by omega) ?_)
    intro g9 c9 w9 ho9 hg9 hat9 hlt9
    have hLn : L ++ rk = ((rs.drop n).take (j + 1 + 1)).flatten := by
     rw [flatten_push (rs.drop n) (j + 1) rk (by rw [List.getElem?_drop, show n + (j + 1) = n + 1 + j by omega]; exact hrk), ← HL.out.1]
    have HNL : Hid (L ++ rk = ((rs.drop n).take (j + 1 + 1)).flatten ∧ 1 ≤ (L ++ rk).length ∧ (L ++ rk).length ≤ 257 * (j + 1 + 1)) := ⟨hLn, by rw [List.length_append]; omega, by rw [List.length_append]; omega⟩
    have ho10 : w9.ownsRow b 53 6 (.slice (some ⟨g9, 0, none⟩) (L ++ rk).length c9) (L ++ rk).length (nodesL (L ++ rk)) := by rw [List.length_append]; exact ho9
    have HG9 : Hid ((g9 = g ∨ w'.heap.size ≤ g9) ∧ g9 < w9.heap.size ∧ w'.grownBy w9 (some g)) := by
     refine ⟨?_, hlt9, HG.out.2.2.andThen hg9 (fun z hz => ?_)⟩
     ·rcases hat9 with h | h
      ·have : ge = g9 := Option.some.inj h
       rw [← this]
       exact HG.out.1
      ·rw [h]
       exact .inr HG.out.2.2.size
     ·have : ge = z := Option.some.inj hz
      rcases HG.out.1 with h | h
      ·exact .inr (by rw [← this, h])
      ·exact .inl (by omega)
    have hlenv : L.length + rk.length = (L ++ rk).length := by rw [List.length_append]
    rw [hlenv]
    generalize L ++ rk = L2 at *
    clear ho9 hg9 hat9 hlt9 hown hLn hlenv q qn hck
    go_wp2_with fail
    go_roundw
    case rel => exact ⟨j + 1, g9, c9, L2, by omega, by go_num, HNL, rfl, ho10, HG9⟩
    case measure => simp [intOf]; omega
   ·obtain rfl : j = p - 1 := by omega
    have hLall : L = (rs.drop n).flatten := by
     rw [HL.out.1, List.take_of_length_le (by rw [List.length_drop]; omega)]
    have hng : w.heap.size ≠ g := by omega
    obtain ⟨d0, d1, d2, d3, d4, d5⟩ := HN2.out
    have hcc : ∀ (o : Nat) v, w'.cell? ⟨w.heap.size, o, none⟩ = some v → wr.cell? ⟨w.heap.size, o, none⟩ = some v := fun o v h => HG.out.2.2.cell h (fun hc => hng (Option.some.inj hc))
    have f0 := hcc _ _ d0
    have f1 := hcc _ _ d1
    have f2 := hcc _ _ d2
    have f3 := hcc _ _ d3
    have f4 := hcc _ _ d4
    have f5 := hcc _ _ d5
    have hbs : b ≤ wr.heap.size := by have := HG.out.2.1; have := HG.out.2.2.size; omega
    have HLIT := Lib.hid (lit_node wr ⟨op, ⟨vk, vn, vss⟩, nm, ar⟩)
    have HLA := Lib.hid hLall
    have hji : ¬ ((p - 1 : Nat) : Int) < ((p - 1 : Nat) : Int) := by omega
    clear d0 d1 d2 d3 d4 d5 hcc hLall HL0 HN2
    go_wp2_with (at_builtin; refine wpList_appn rfl (.tmp 53) (.tmp 55) rfl rfl rfl (hown.alloc _) (by simp; omega) HLIT.out (by omega) (by omega) (by omega) ?_)
    intro g5 c5 w5 ho5 hg5 hat5 hlt5
    have hgr5 : w'.grownBy w5 (some g) := HG.out.2.2.andThen ((World.grownBy_alloc wr _ _).trans hg5) (fun z hz => by
     have : ge = z := Option.some.inj hz
     rcases HG.out.1 with h | h
     ·exact .inr (by rw [← this, h])
     ·exact .inl (by omega))
    have hg5loc : g5 = g ∨ w'.heap.size ≤ g5 := by
     rcases hat5 with h | h
     ·have : ge = g5 := Option.some.inj h
      rw [← this]
      exact HG.out.1
     ·rw [h]
      have := HG.out.2.2.size
      exact .inr (by omega)
    have hP5 := Pq.kept HP2.out hgr5 (fun hc => hgb (Option.some.inj hc).symm)
    have hrn : ∀ (k : Nat) (u : Value), (vs.take n)[k]? = some u → vs[k]? = some u ∧ k ≠ n := fun k u hu => by
     have hk := (List.getElem?_eq_some_iff.1 hu).1
     rw [List.length_take] at hk
     rw [List.getElem?_take_of_lt (by omega)] at hu
     exact ⟨hu, by omega⟩
    have hS5 : Sk w5 b (rs.take n) (.slice (some ⟨gs, 0, none⟩) n sc) (vs.take n) := (HS2.out.take (k := n) (by omega)).but hgr5 (fun hc => hggs (Option.some.inj hc).symm) (fun k u hu hc => HS2.out.apart n k _ u (hrn k u hu).2.symm hv0 (hrn k u hu).1 g rfl hc)
    have HS5 := Lib.hid hS5
    have HG5 := Lib.hid (And.intro hgr5 (And.intro hg5loc hlt5))
    have ho6 : w5.ownsRow b 53 6 (.slice (some ⟨g5, 0, none⟩) (L.length + 1) c5) (L.length + 1) (nodesL (L ++ [⟨op, ⟨vk, vn, vss⟩, nm, ar⟩])) := ho5
    have hq5 : L.length + 1 ≤ c5 ∧ c5 ≤ maxLen := by
     rcases ho6.2 with ⟨hv, _⟩ | ⟨g', c', cur, hv, _, _, h1, h2, _⟩
     ·cases hv
     ·cases hv
      exact ⟨h1, h2⟩
    have HO6 := Lib.hid ho6
    have p5 := hP5.c3
    have pf5 := hP5.free
    have HP5 := Lib.hid hP5
    have hbw5 : b < w5.heap.size := hP5.lt
    clear ho5 hg5 hat5 hlt5 hgr5 hg5loc hS5 ho6 hP5 f0 f1 f2 f3 f4 f5 hown HG HROW hrn HLIT
    rw [hn] at p5
    obtain ⟨q, hq⟩ : ∃ q, L.length + 1 = q := ⟨_, rfl⟩
    rw [hq] at HO6 hq5 ⊢
    obtain ⟨m, hm⟩ : ∃ m, min q 257 = m := ⟨_, rfl⟩
    have hmq : m ≤ q ∧ 1 ≤ m ∧ m ≤ 257 := by omega
    have HROWM := Lib.hid (own_take HO6.out (k := m) hmq.1)
    have hslS := slice_to_nls gs (n + p) sc n (by omega) hsc2 (by omega)
    have hslE := slice_to_nds g5 q c5 m (by omega) hq5.2 (by omega)
    have HM := Lib.hid (And.intro hq hm)
    have hqb : q ≤ 100000 := by omega
    have hP6 := HP5.out.alloc (.cells #[.slice (some ⟨g5, 0, none⟩) m c5] 30)
    have p6 := hP6.c3
    rw [hn] at p6
    have hnew := World.news_of_block (cs := #[.slice (some ⟨g5, 0, none⟩) m c5]) (t := 30) (fr := (0, 0)) (heap_alloc_new w5 (.cells #[.slice (some ⟨g5, 0, none⟩) m c5] 30))
    have hb56 : Below w5.heap.size w5 (w5.alloc (.cells #[.slice (some ⟨g5, 0, none⟩) m c5] 30)) := (Below.refl _ _).alloc (Nat.le_refl _) _
    have HS6 := Lib.hid (HS5.out.below hb56)
    have hvl : (vs.take n).length = n := by rw [List.length_take]; omega
    have ho7 := HS6.out.own
    rw [hvl] at ho7
    have HP6 := Lib.hid hP6
    clear hP6 hb56 hq
    have hmin : min (q : Int) 257 = (m : Int) := by omega
    clear hm
    have FIN : Hid (∀ (gg cc : Nat) (w9 : World), w9.ownsRow b 30 1 (.slice (some ⟨gg, 0, none⟩) (n + 1) cc) (n + 1) (vs.take n ++ [.slice (some ⟨g5, 0, none⟩) m c5]) → (w5.alloc (.cells #[.slice (some ⟨g5, 0, none⟩) m c5] 30)).drew.grownBy w9 (Value.slice (some ⟨gs, 0, none⟩) n sc).ownBlock → ((Value.slice (some ⟨gs, 0, none⟩) n sc).ownBlock = some gg ∨ gg = w5.heap.size + 1) → ∃ sv' vs', Pq (w9.setCell ⟨b, 3, none⟩ (.slice (some ⟨gg, 0, none⟩) (n + 1) cc)) b sl i d sv' ∧ Sk (w9.setCell ⟨b, 3, none⟩ (.slice (some ⟨gg, 0, none⟩) (n + 1) cc)) b (rs.take n ++ [((rs.drop n).flatten ++ [(⟨op, ⟨vk, vn, vss⟩, nm, ar⟩ : Nd)]).take 257]) sv' vs' ∧ Fb w b (.slice (some ⟨gs, 0, none⟩) rs.length sc) vs (w9.setCell ⟨b, 3, none⟩ (.slice (some ⟨gg, 0, none⟩) (n + 1) cc)) sv' vs') := by
     intro gg cc w9 hown9 hgrow9 hat9
     have hP9 := Pq.kept HP6.out.drew hgrow9 (fun hc => HS6.out.nb hc.symm)
     obtain ⟨hgr5, hgl5, hlt5⟩ := HG5.out
     have hrow : w5.ownsRow b 53 6 (.slice (some ⟨g5, 0, none⟩) m c5) m (nodesL (((rs.drop n).flatten ++ [(⟨op, ⟨vk, vn, vss⟩, nm, ar⟩ : Nd)]).take 257)) := by
      have h := HROWM.out
      rw [nodesL_take] at h
      have e : (L ++ [(⟨op, ⟨vk, vn, vss⟩, nm, ar⟩ : Nd)]).take m = ((rs.drop n).flatten ++ [(⟨op, ⟨vk, vn, vss⟩, nm, ar⟩ : Nd)]).take 257 := by
       rw [← HLA.out]
       have hl : (L ++ [(⟨op, ⟨vk, vn, vss⟩, nm, ar⟩ : Nd)]).length = q := by rw [← HM.out.1]; simp
       by_cases h257 : q ≤ 257
       ·rw [List.take_of_length_le (by omega), List.take_of_length_le (by omega)]
       ·rw [show m = 257 by have := HM.out.2; omega]
      rw [e] at h
      exact h
     have hrl : (((rs.drop n).flatten ++ [(⟨op, ⟨vk, vn, vss⟩, nm, ar⟩ : Nd)]).take 257).length = m := by
      rw [← HLA.out, List.length_take]
      have hl : (L ++ [(⟨op, ⟨vk, vn, vss⟩, nm, ar⟩ : Nd)]).length = q := by rw [← HM.out.1]; simp
      omega
     have hsk := (HS6.out.below (Below.refl _ _).drew).push (v := .slice (some ⟨g5, 0, none⟩) m c5) (r := ((rs.drop n).flatten ++ [(⟨op, ⟨vk, vn, vss⟩, nm, ar⟩ : Nd)]).take 257) (gv := g5) (g := gg) (cap := cc) (by rw [hrl]; exact (hrow.alloc _).drew) ⟨by omega, by omega⟩ rfl (by omega) (fun hc => by have hc2 : gs = g5 := Option.some.inj hc; omega) (fun k u hu hc => by
      have hk := (List.getElem?_eq_some_iff.1 hu).1
      rw [hvl] at hk
      rw [List.getElem?_take_of_lt hk] at hu
      obtain ⟨rk, hrk⟩ : ∃ rk, rs[k]? = some rk := ⟨_, List.getElem?_eq_getElem (by omega)⟩
      rcases hgl5 with h | h
      ·exact HS2.out.apart n k _ u (by omega) hv0 hu g rfl (by rw [hc, h])
      ·have := ((HS2.out.row k u rk hu hrk).1.lt g5 hc).2
       omega) (by simp; omega) (by simp; omega) (by rw [hvl]; exact hown9) hgrow9 (by
      rcases hat9 with h | h
      ·exact .inl h
      ·refine .inr ?_
       rw [h]
       simp)
     rw [hvl] at hsk
     refine ⟨_, _, Box4.set3 hP9, hsk.keep (grown_set _ _ _ _), ?_, fun k hk => ?_⟩
     rotate_left
     ·have hkw := hk.1
      have hkg : k ≠ g := fun hc => hk.2.2.2 _ (List.mem_of_getElem? hv0) (by rw [hc]; rfl)
      have hkgs : k ≠ gs := fun hc => hk.2.2.1 (by rw [hc]; rfl)
      have hww : w.heap.size ≤ w'.heap.size := by omega
      obtain ⟨e1, o1⟩ := hk.below (HB1.out.trans (HBEL2.out.mono hs1))
      obtain ⟨e2, o2⟩ := o1.grown hgr5 (fun hc => hkg (Option.some.inj hc).symm)
      obtain ⟨e3, o3⟩ := o2.below (((Below.refl _ _).alloc (Nat.le_refl _) (.cells #[.slice (some ⟨g5, 0, none⟩) m c5] 30)).drew)
      obtain ⟨e4, o4⟩ := o3.grown hgrow9 (fun hc => hkgs (Option.some.inj hc).symm)
      obtain ⟨e5, o5⟩ := o4.grown (grown_set w9 b 3 (.slice (some ⟨gg, 0, none⟩) (n + 1) cc)) (fun hc => hk.2.1 (Option.some.inj hc).symm)
      have hk5 := o2.1
      refine ⟨e5.trans (e4.trans (e3.trans (e2.trans e1))), o5.1, o5.2.1, fun hc => ?_, fun u hu hc => ?_⟩
      ·have hc2 : gg = k := Option.some.inj hc
       rcases hat9 with h | h
       ·exact hkgs (by rw [← hc2]; exact (Option.some.inj h).symm)
       ·omega
      ·rcases List.mem_append.1 hu with hu | hu
       ·exact hk.2.2.2 u (List.mem_of_mem_take hu) hc
       ·rw [List.mem_singleton] at hu
        subst hu
        have hc2 : g5 = k := Option.some.inj hc
        rcases hgl5 with h | h
        ·omega
        ·omega
     have hBw : Below b w w' := (HB1.out.trans (HBEL2.out.mono hs1)).mono (by omega)
     have hB5 : Below b w w5 := hBw.grown hgr5 (by have := hBw.size; omega) (fun z hz => by cases hz; exact hbg)
     have hB6 : Below b w (w5.alloc (.cells #[.slice (some ⟨g5, 0, none⟩) m c5] 30)).drew := (hB5.alloc (by have := hB5.size; omega) _).drew
     have hb9 : Below b w w9 := hB6.grown hgrow9 (by have := hB6.size; omega) (fun z hz => (HS6.out.own.lt z hz).1)
     exact hb9.grown (grown_set _ _ _ _) (by have := hb9.size; omega) (fun z hz => by cases hz; exact Nat.le_refl _)
    have hmc : (m : Int) ≤ (c5 : Int) := by omega
    have hmc2 : m ≤ c5 := by omega
    have hnsc : (n : Int) ≤ (sc : Int) := by omega
    have hnsc2 : n ≤ sc := by omega
    have hm0 : ¬ c5 = 0 := by omega
    have hs0 : ¬ sc = 0 := by omega
    clear CA HLA HM HROWM HS2 HBEL2 HB1 HCELL HO6 HG5 HS5 HP5 HP2 hv0 hr0 ho0 hr1 hr2 ha2 hsl hpb hwr
    go_wp2_with fail
    go_region_law (refine step_append_lies (o := Oper.mk (some 70) _ _ _ _ none) _ (by rfl) (.tmp 63) (.tmp 69) _ (by rfl) b 30 i0 _ 1 24 Tryz.underlying61 hi hz0 hz1 hz2 rfl (by omega) _ _ _ (by rfl) ho7.drew ⟨w5.heap.size, 0, none⟩ 1 1 [.slice (some ⟨g5, 0, none⟩) m c5] (by rfl) (by rfl) hnew (by simp [Value.oneCell']) (by omega) (by unfold maxLen; omega) (by omega) (by simp; omega) (w5.heap.size + 1) (by simp) ?_; intro gg cc w9 hown9 hgrow9 hat9 hlt9; have hP9 := Pq.kept HP6.out.drew hgrow9 (fun hc => HS6.out.nb hc.symm); have z3 := hP9.c3; have zf := hP9.free)
    all_goals
     have F := Lib.hid (FIN.out gg cc w9 hown9 hgrow9 hat9)
     clear hP9 hown9 hgrow9 hat9 hlt9 z3 zf
     go_wp2_with fail
     exact bodyPost_end (v := .tuple #[]) (by simp [results, Tryz.results91, go_sem]) rfl ⟨rfl, F.out⟩
end Go.Proofs.YtmdpjahhhfajaaaGreatDoor
