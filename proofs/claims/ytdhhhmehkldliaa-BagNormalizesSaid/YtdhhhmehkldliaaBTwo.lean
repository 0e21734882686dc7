/-
  Two lists of entries that a loop makes at once: the one as it comes, the other turned round. They share the rows.
-/
import Derived.Test.YtdhhhmehkldliaaBLKit
set_option linter.unusedVariables false
set_option maxRecDepth 100000
namespace Wh

theorem cntL_reverse (l : List En) (r : List V) : cntL l.reverse r = cntL l r := by
  induction l with
  | nil => rfl
  | cons e l ih =>
    rw [List.reverse_cons, cntL_append, ih]
    simp only [cntL]
    omega
def entD (zs : List Int) (k : Nat) : En := ⟨[anyV (atZ zs k % 12)], atZ zs k / 16 % 8 - 3⟩
def drawD (zs : List Int) (k : Nat) : List En := (List.range k).map (entD zs)
theorem drawD_succ (zs : List Int) (k : Nat) : drawD zs (k + 1) = drawD zs k ++ [entD zs k] := by
  unfold drawD
  rw [List.range_succ, List.map_append]
  rfl
theorem drawD_length (zs : List Int) (k : Nat) : (drawD zs k).length = k := by simp [drawD]
theorem drawD_fit (zs : List Int) (k : Nat) : ∀ e ∈ drawD zs k, fitE e = 0 := fun e he => by
  obtain ⟨i, _, rfl⟩ := List.mem_map.1 he
  exact fitE_of (by show [anyV _].length ≤ 12; simp) (by show -65536 ≤ atZ zs i / 16 % 8 - 3; omega) (by show atZ zs i / 16 % 8 - 3 ≤ 65536; omega) (okRow_one _)
theorem norm_turned (zs : List Int) (k : Nat) : normOut (drawD zs k).reverse = normOut (drawD zs k) := by
  unfold normOut
  rw [if_pos (fitsE_of (drawD_fit zs k)), if_pos (fitsE_of fun e he => drawD_fit zs k e (List.mem_reverse.1 he)), sumOut_eq, sumOut_eq, bagL_perm fun r => cntL_reverse (drawD zs k) r]

end Wh
namespace Go.Proofs.Ytdhhhmehkldliaa
open Go.RowKit Wh

theorem own_same {w w' : World} {base : Nat} {e : TypeId} {size n : Nat} {v : Value} {xs : List Value} (h : w.ownsRow base e size v n xs) (hb : ∀ j, v.ownBlock = some j → w'.heap[j]? = w.heap[j]?) : w'.ownsRow base e size v n xs := by
  obtain ⟨h1, h2⟩ := h
  refine ⟨h1, ?_⟩
  rcases h2 with h2 | ⟨g, cap, cur, rfl, a1, a2, a3, a4, a5, a6⟩
  · exact .inl h2
  · exact .inr ⟨g, cap, cur, rfl, a1, by rw [hb g rfl]; exact a2, a3, a4, a5, a6⟩
theorem own_news {w : World} {base g n cap : Nat} {e : TypeId} {size : Nat} {xs : List Value} (h : w.ownsRow base e size (.slice (some ⟨g, 0, none⟩) n cap) n xs) : ∀ j u, xs[j]? = some u → w.cell? ((⟨g, 0, none⟩ : Addr).add j) = some u := fun j u hu => by
  have hadd : (⟨g, 0, none⟩ : Addr).add j = ⟨g, j, none⟩ := by unfold Addr.add; split <;> simp_all
  have hj := (List.getElem?_eq_some_iff.1 hu).1
  rw [h.1] at hj
  rw [hadd, h.cellAt j hj]
  exact hu
theorem far_new {w : World} {G : Nat} {u : Value} {q : List V} (h : IsRow w u q) (hG : w.heap.size ≤ G) : FarOf (some G) u q := by
  obtain ⟨a, n, c, rfl, g1, _⟩ := h
  intro hne x n' c' hx
  cases hx
  rcases g1.2 with h0 | ⟨b, off, hx, hlt, _⟩
  · exact absurd h0 hne
  · cases hx
    intro hc
    cases hc
    exact absurd hlt (Nat.not_lt.2 hG)
/-- A list of one entry that is written out. -/
theorem own_lit {w : World} {base G : Nat} {rv : Value} {c : Int} (h : w.heap[G]? = some (.cells #[rv, .int .i64 c] 30 (0, 0))) (hb : base ≤ G) :
    w.ownsRow base 30 2 (.slice (some ⟨G, 0, none⟩) 1 1) 1 [rv, .int .i64 c] :=
  ⟨rfl, .inr ⟨G, 1, #[rv, .int .i64 c], rfl, hb, h, Nat.le_refl _, by unfold maxLen; omega, rfl, rfl⟩⟩

structure TwoAt (w : World) (base : Nat) (xv tv : Value) (es : List En) (l : List T2) : Prop where
  len : l.length = es.length
  fst : w.ownsRow base 30 2 xv es.length (flat2 l)
  snd : w.ownsRow base 30 2 tv es.length (flat2 l.reverse)
  rows : ∀ (i : Nat) (e : En), es[i]? = some e → ∃ rv : Value, l[i]? = some (rv, .int .i64 e.cnt) ∧ IsRow w rv e.row ∧ FarOf xv.ownBlock rv e.row ∧ FarOf tv.ownBlock rv e.row
  apart : ∀ j, xv.ownBlock = some j → tv.ownBlock ≠ some j
theorem TwoAt.nil (w : World) (base : Nat) : TwoAt w base (.slice none 0 0) (.slice none 0 0) [] [] := ⟨rfl, World.ownsRow_nil _ _ _ _, World.ownsRow_nil _ _ _ _, fun i e h => by simp at h, fun j h => by cases h⟩

variable {w : World} {base : Nat} {xv tv : Value} {es : List En} {l : List T2}
theorem TwoAt.below {w' : World} (h : TwoAt w base xv tv es l) (hb : Below w.heap.size w w') : TwoAt w' base xv tv es l :=
  ⟨h.len, own_below h.fst hb, own_below h.snd hb, fun i e he => by
    obtain ⟨rv, a1, a2, a3⟩ := h.rows i e he
    exact ⟨rv, a1, a2.below hb (Nat.le_refl _), a3⟩, h.apart⟩
theorem TwoAt.one (h : TwoAt w base xv tv es l) : OwnEnts w base xv es := ⟨l, h.len, h.fst, fun i e he => by
  obtain ⟨rv, a1, a2, a3, _⟩ := h.rows i e he
  exact ⟨rv, a1, a2, a3⟩⟩
theorem TwoAt.other (h : TwoAt w base xv tv es l) : OwnEnts w base tv es.reverse := ⟨l.reverse, by simp [h.len], by rw [List.length_reverse]; exact h.snd, fun i e he => by
  have hi := (List.getElem?_eq_some_iff.1 he).1
  rw [List.length_reverse] at hi
  rw [List.getElem?_reverse hi] at he
  obtain ⟨rv, a1, a2, _, a4⟩ := h.rows _ e he
  refine ⟨rv, ?_, a2, a4⟩
  rw [List.getElem?_reverse (by rw [h.len]; exact hi), h.len]
  exact a1⟩
theorem TwoAt.cells (h : TwoAt w base xv tv es l) : ∀ u ∈ flat2 l.reverse, u.oneCell' = true := fun u hu => by
  unfold flat2 at hu
  obtain ⟨p, hp, hu⟩ := List.mem_flatMap.1 hu
  obtain ⟨i, hi⟩ := List.mem_iff_getElem?.1 (List.mem_reverse.1 hp)
  have hlt := (List.getElem?_eq_some_iff.1 hi).1
  obtain ⟨rv, a1, ⟨a, n, c, rfl, _⟩, _⟩ := h.rows i _ (List.getElem?_eq_getElem (by rw [← h.len]; exact hlt))
  rw [hi] at a1
  cases a1
  simp only [List.mem_cons, List.not_mem_nil, or_false] at hu
  rcases hu with rfl | rfl <;> rfl
/-- What is to be turned round lies still behind the first append. -/
theorem TwoAt.still {U w9 U' : World} (h : TwoAt w base xv tv es l) (hU : Below w.heap.size w U) (hg : U.grownBy w9 xv.ownBlock) (h9 : Below w9.heap.size w9 U') : U'.ownsRow base 30 2 tv es.length (flat2 l.reverse) := by
  refine own_below (own_same (own_below h.snd hU) fun j hj => hg.block j ?_ fun hx => h.apart j hx.symm hj) h9
  exact Nat.lt_of_lt_of_le (h.snd.lt j hj).2 hU.size
/-- One entry more: behind the one, before the other. -/
theorem TwoAt.step {U w9 U' w10 : World} {r : List V} {rv : Value} {c : Int} {gg cc hh dd G : Nat} (h : TwoAt w base xv tv es l) (hU : Below w.heap.size w U)
    (hr : IsRow U rv r) (hrx : FarOf xv.ownBlock rv r) (hrG : FarOf (some G) rv r)
    (hown : w9.ownsRow base 30 2 (.slice (some ⟨gg, 0, none⟩) (es.length + 1) cc) (es.length + 1) (flat2 l ++ [rv, .int .i64 c]))
    (hgrow : U.grownBy w9 xv.ownBlock) (hat : xv.ownBlock = some gg ∨ U.heap.size ≤ gg) (hlt : gg < w9.heap.size)
    (h9 : Below w9.heap.size w9 U') (hGn : G ≠ gg) (hG : w.heap.size ≤ G)
    (hown' : w10.ownsRow base 30 2 (.slice (some ⟨hh, 0, none⟩) (es.length + 1) dd) (es.length + 1) ([rv, .int .i64 c] ++ flat2 l.reverse))
    (hgrow' : U'.grownBy w10 (some G)) (hat' : G = hh ∨ U'.heap.size ≤ hh) :
    TwoAt w10 base (.slice (some ⟨gg, 0, none⟩) (es.length + 1) cc) (.slice (some ⟨hh, 0, none⟩) (es.length + 1) dd) (es ++ [⟨r, c⟩]) (l ++ [(rv, .int .i64 c)]) := by
  have hs1 := hgrow.size
  have hs2 := h9.size
  have keep : ∀ u q, IsRow U u q → FarOf xv.ownBlock u q → FarOf (some G) u q → IsRow w10 u q ∧ FarOf (some gg) u q ∧ FarOf (some hh) u q := fun u q hu f1 f2 => by
    have fU := fun K (hK : U.heap.size ≤ K) => far_new hu hK
    obtain ⟨a, n, k, rfl, g1, g2⟩ := hu
    have i1 := g1.grown hgrow fun hne x hx => f1 hne x n k (by rw [hx])
    have i2 : IsVals U' a n q := i1.below h9 (Nat.le_refl _)
    have i3 := i2.grown hgrow' fun hne x hx => f2 hne x n k (by rw [hx])
    refine ⟨⟨a, n, k, rfl, i3, g2⟩, ?_, ?_⟩
    · rcases hat with hat | hat
      · rw [← hat]; exact f1
      · exact fU gg hat
    · rcases hat' with hat' | hat'
      · rw [← hat']; exact f2
      · exact fU hh (by omega)
  refine ⟨by simp [h.len], ?_, ?_, fun i x hx => ?_, fun j hj => ?_⟩
  · rw [flat2_append, List.length_append]
    exact own_same hown fun j hj => by
      cases hj
      exact (hgrow'.block gg (by omega) fun hx => hGn (by cases hx; rfl)).trans (h9.block gg hlt)
  · rw [List.reverse_append, List.length_append]
    exact hown'
  · by_cases hi : i < es.length
    · rw [List.getElem?_append_left hi] at hx
      obtain ⟨u, a1, a2, a3, a4⟩ := h.rows i x hx
      obtain ⟨k1, k2, k3⟩ := keep u _ (a2.below hU (Nat.le_refl _)) a3 (far_new a2 hG)
      exact ⟨u, by rw [List.getElem?_append_left (by rw [h.len]; exact hi)]; exact a1, k1, k2, k3⟩
    · have hlt := (List.getElem?_eq_some_iff.1 hx).1
      simp only [List.length_append, List.length_cons, List.length_nil] at hlt
      obtain rfl : i = es.length := by omega
      rw [List.getElem?_append_right (Nat.le_refl _), Nat.sub_self] at hx
      simp at hx
      subst hx
      obtain ⟨k1, k2, k3⟩ := keep rv _ hr hrx hrG
      exact ⟨rv, by rw [List.getElem?_append_right (by rw [h.len]; exact Nat.le_refl _), h.len, Nat.sub_self]; rfl, k1, k2, k3⟩
  · cases hj
    intro hx
    cases hx
    rcases hat' with hat' | hat'
    · exact hGn hat'
    · omega

/-- To append nothing, as a step of a region that draws. -/
theorem step_append_none {w : World} {ops : Array Oper} {o : Oper} {a : Act} {K : Act → World → Prop} {Q : Exit → Act → World → Prop} {E : Prop} (hgd : o.guard = none) (s x : Operand) (t : TypeId)
    (ho : o.op = .call { callee := .builtin .append, args := #[s, x], argTypes := #[t, t] })
    (base : Nat) (e : TypeId) (i : TypeInfo) (size : Nat) (ht : Try.prog.underlying t = some (.slice e)) (hi : Try.prog.info? e = some i)
    (v : Value) (n : Nat) (xs : List Value) (hs : a.eval s = v) (hx : a.eval x = .slice none 0 0) (hown : w.ownsRow base e size v n xs)
    (h : K (a.put o.dst v) w) : if Region.wanted o (yielded ops a.tmps) = true then Oper.wp Try.prog o a w K Q else E := by
  have hw : Region.wanted o (yielded ops a.tmps) = true := by simp [Region.wanted, hgd]
  rw [if_pos hw]
  have hr := run_append_owned_none (P := Try.prog) (w := w) base t o.type e i size ht hi v n xs hown
  unfold Oper.wp execOp
  simp only [ho, resolve, invoke, builtin, Sem.run_bind, Sem.run_pure, Result.andThen_ok, List.map_toArray, List.map_cons, List.map_nil, hs, hx, hr]
  exact h

end Go.Proofs.Ytdhhhmehkldliaa
