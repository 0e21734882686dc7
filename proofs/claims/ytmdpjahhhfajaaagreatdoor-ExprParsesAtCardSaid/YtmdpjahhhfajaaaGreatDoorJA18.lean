/-
  The reference's parser: call.
-/
import Derived.Test.YtmdpjahhhfajaaaGreatDoorJA17
import Derived.Test.YtmdpjahhhfajaaaGreatDoorJA14
import Derived.LoopTactic
set_option linter.unusedVariables false
set_option linter.unusedSimpArgs false
set_option maxRecDepth 100000
namespace Wh
open Go Go.Proofs.YtmdpjahhhfajaaaGreatDoor

def calSL : List ByteArray := [⟨#[105, 102]⟩, ⟨#[99, 111, 97, 108, 101, 115, 99, 101]⟩, ⟨#[105, 115, 110, 117, 108, 108]⟩, ⟨#[108, 101, 110, 103, 116, 104]⟩]
def calOL : List Int := [17, 18, 16, 19]
/-- The node of a call when k names have been looked at. -/
def lastN (s : ByteArray) (n : Int) : Nat → Nd
  | 0 => ⟨21, ⟨0, 0, ⟨#[]⟩⟩, s, n⟩
  | k + 1 => if eqS (calSL.getD k ⟨#[]⟩) s = true then opNd (calOL.getD k 0) else lastN s n k
theorem lastN_call (s : ByteArray) (n : Nat) : lastN s n 4 = (callO s n).1 := by
  unfold callO
  by_cases h1 : eqS s ⟨#[105, 102]⟩ = true
  · rw [if_pos h1, eqS_iff.1 h1, lastN, if_neg (by decide +kernel), lastN, if_neg (by decide +kernel), lastN, if_neg (by decide +kernel), lastN, if_pos (by decide +kernel)]; rfl
  rw [if_neg h1]
  by_cases h2 : eqS s ⟨#[99, 111, 97, 108, 101, 115, 99, 101]⟩ = true
  · rw [if_pos h2, eqS_iff.1 h2, lastN, if_neg (by decide +kernel), lastN, if_neg (by decide +kernel), lastN, if_pos (by decide +kernel)]; rfl
  rw [if_neg h2]
  by_cases h3 : eqS s ⟨#[105, 115, 110, 117, 108, 108]⟩ = true
  · rw [if_pos h3, eqS_iff.1 h3, lastN, if_neg (by decide +kernel), lastN, if_pos (by decide +kernel)]; rfl
  rw [if_neg h3]
  by_cases h4 : eqS s ⟨#[108, 101, 110, 103, 116, 104]⟩ = true
  · rw [if_pos h4, eqS_iff.1 h4, lastN, if_pos (by decide +kernel)]; rfl
  rw [if_neg h4]
  have g : ∀ t, ¬ eqS s t = true → eqS t s = false := fun t h => by
    rw [eqS_comm]; simpa using h
  have e1 := g _ h1
  have e2 := g _ h2
  have e3 := g _ h3
  have e4 := g _ h4
  show (if eqS _ s = true then _ else if eqS _ s = true then _ else if eqS _ s = true then _ else if eqS _ s = true then _ else _) = _
  simp only [calSL, List.getD_cons_succ, List.getD_cons_zero, e1, e2, e3, e4, Bool.false_eq_true, if_false]
  rfl
theorem callO_ar (s : ByteArray) (n : Nat) : (callO s n).2 = arN (callO s n).1 := by
  unfold callO
  split
  · rfl
  · split
    · rfl
    · split
      · rfl
      · split
        · rfl
        · unfold arN; rw [if_pos rfl]

end Wh
namespace Go.Proofs.YtmdpjahhhfajaaaGreatDoor
open Go.RowKit Wh

theorem RdP.at {w w1 w' : World} {b : Nat} {sl : Value} {len i i1 d : Nat} {P : PO} {e : Ending} (hi : i ≤ i1) (hg : w.grownBy w1 (some b)) (h : RdP w1 b sl len i1 d P e w') : RdP w b sl len i d P e w' := by
  obtain ⟨v, l, j, dd, x, rfl, hown, hb, hP, hg1, hc⟩ := h
  exact ⟨v, l, j, dd, x, rfl, own_mono hown hg.size, ⟨by omega, hb.2⟩, hP, hg.trans hg1, hc⟩
theorem app_keeps0 {w w4 w5 : World} {b n : Nat} {sl v : Value} {i d : Nat} {x : Int} {xs : List Value} (hP : Pr w4 b sl i d x) (hg : w.grownBy w4 (some b)) (hbw : b < w.heap.size) (hown : w4.ownsRow w.heap.size 53 6 v n xs) (hg5 : w4.grownBy w5 v.ownBlock) :
    Pr w5 b sl i d x ∧ w.grownBy w5 (some b) := by
  refine ⟨hP.kept hg5 (fun hc => ?_), hg.andThen hg5 (fun j hj => .inl (hown.lt j hj).1)⟩
  have := (hown.lt b hc.symm).1
  omega

/-- What holds in the loop over a call's operands. -/
def CaRel (w : World) (b : Nat) (sl : Value) (ts : List TA) (rd : Nat → PO) (s : ByteArray) (len i d : Nat) (R : PO) (ev nv : Value) (wr : World) : Prop :=
  ∃ (l : List Nd) (n j dd : Nat) (x : Int), nv = .int .i64 n ∧ wr.ownsRow w.heap.size 53 6 ev l.length (nodesL l) ∧ (l.length ≤ len - i ∧ j < len ∧ dd ≤ 300 ∧ n ≤ 200000) ∧ Pr wr b sl j dd x ∧ w.grownBy wr (some b) ∧
    ((x = 0 ∧ dd = d + 1 ∧ i + 2 ≤ j ∧ n ≤ j ∧ ∃ (rs : List (List Nd)) (g : Nat), rs.length = n ∧ rs.flatten = l ∧ l.length ≤ j - (i + 2) ∧ len ≤ j + g ∧ (¬ n = 0 → symT (tkA ts j) clsS = false → symT (tkA ts j) comS = true) ∧ (if symT (tkA ts j) clsS = true then finT s rs j else agT ts rd s g rs (if n = 0 then j else j + 1)) = R) ∨
      (¬ x = 0 ∧ R = .bad x j ∧ d ≤ dd))

theorem CaRel.next {w wr w2 : World} {b : Nat} {sl : Value} {ts : List TA} {rd : Nat → PO} {s : ByteArray} {len i d : Nat} {R : PO} {ev nv : Value} (h : CaRel w b sl ts rd s len i d R ev nv wr) (hb : Below wr.heap.size wr w2) : CaRel w b sl ts rd s len i d R ev nv w2 := by
  obtain ⟨l, n, j, dd, x, h1, h2, h3, h4, h5, h6⟩ := h
  exact ⟨l, n, j, dd, x, h1, own_below h2 hb, h3, h4.below hb h4.lt, h5.trans (grown_below hb _), h6⟩
/-- A round: what the operand at token k leaves. -/
theorem CaRel.step {w w5 : World} {b : Nat} {sl : Value} {ts : List TA} {rd : Nat → PO} {s : ByteArray} {len i d n j k g : Nat} {R : PO} {l l2 : List Nd} {rs : List (List Nd)} {j2 dd2 : Nat} {x2 : Int} {v5 : Value} {f : Nat} {a : Option Addr} (hT : TkH ts a len)
    (hrd : rd k = prT ts f 0 k (d + 1)) (hjk : j ≤ k) (hk : k < len) (hm : 9 * (len - k) + 8 < f) (hij : i + 2 ≤ j) (hnj : n ≤ j) (hrs : rs.length = n) (hfl : rs.flatten = l) (hll : l.length ≤ j - (i + 2)) (hlen : len ≤ j + g)
    (hR : agT ts rd s g rs k = R) (hb2 : l2.length ≤ len - k ∧ j2 < len ∧ dd2 ≤ 300) (hP : Pr w5 b sl j2 dd2 x2) (hg : w.grownBy w5 (some b)) (hown : w5.ownsRow w.heap.size 53 6 v5 (l.length + l2.length) (nodesL (l ++ l2)))
    (hc : (x2 = 0 ∧ prT ts f 0 k (d + 1) = .ok l2 j2 ∧ dd2 = d + 1) ∨ (¬ x2 = 0 ∧ prT ts f 0 k (d + 1) = .bad x2 j2 ∧ d + 1 ≤ dd2)) :
    ((¬ x2 = 0 ∨ (x2 = 0 ∧ (symT (tkA ts j2) clsS = true ∨ symT (tkA ts j2) comS = true))) → CaRel w b sl ts rd s len i d R v5 (.int .i64 ((n + 1 : Nat) : Int)) w5 ∧ (if x2 = 0 then len + 1 - j2 else 0) < len + 1 - j) ∧
    (x2 = 0 → symT (tkA ts j2) clsS = false → symT (tkA ts j2) comS = false → R = .bad 3 j2 ∧ dd2 = d + 1) := by
  obtain ⟨g, rfl⟩ : ∃ k, g = k + 1 := ⟨g - 1, by omega⟩
  have hG := pr_gd hT.el f 0 k (d + 1) (by omega) (by rw [hT.ln]; exact hk) (by rw [hT.ln]; omega) (At8.no (by omega))
  have e : (l ++ l2).length = l.length + l2.length := List.length_append
  unfold agT at hR
  rw [hrd] at hR
  refine ⟨fun hcond => ⟨⟨l ++ l2, n + 1, j2, dd2, x2, rfl, by rw [e]; exact hown, ⟨by rw [e]; omega, hb2.2.1, hb2.2.2, by have := hT.le; omega⟩, hP, hg, ?_⟩, ?_⟩, fun hx h1 h2 => ?_⟩
  · rcases hc with ⟨h1, h2, h3⟩ | ⟨h1, h2, h3⟩
    · rw [h2] at hG hR
      obtain ⟨g1, g2, g3, g4, g5⟩ := hG
      simp only at hR
      refine .inl ⟨h1, h3, by omega, by omega, rs ++ [l2], g, by simp [hrs], by simp [hfl], by rw [e]; omega, by omega, fun _ hcl => ?_, ?_⟩
      · rcases hcond with hx | ⟨_, hx⟩
        · exact absurd h1 hx
        · rcases hx with hx | hx
          · rw [hcl] at hx; cases hx
          · exact hx
      · rw [if_neg (by omega : ¬ n + 1 = 0)]
        by_cases hcl : symT (tkA ts j2) clsS = true
        · rw [if_pos hcl] at hR ⊢; exact hR
        · rw [if_neg hcl] at hR ⊢
          have hcm : symT (tkA ts j2) comS = true := by
            rcases hcond with hx | ⟨_, hx⟩
            · exact absurd h1 hx
            · rcases hx with hx | hx
              · exact absurd hx hcl
              · exact hx
          rw [if_pos hcm] at hR
          exact hR
    · rw [h2] at hR
      exact .inr ⟨h1, hR.symm, by omega⟩
  · rcases hc with ⟨h1, h2, h3⟩ | ⟨h1, h2, h3⟩
    · rw [h2] at hG
      obtain ⟨g1, g2, g3, g4, g5⟩ := hG
      rw [if_pos h1]
      omega
    · rw [if_neg h1]
      omega
  · rcases hc with ⟨h3, h4, h5⟩ | ⟨h3, _⟩
    · rw [h4] at hR
      simp only [h1, h2, Bool.false_eq_true, if_false] at hR
      exact ⟨hR.symm, h5⟩
    · exact absurd hx h3

/-- A call's node, made known name by name: the box of the node. -/
theorem node_store {w : World} {B : Nat} {t u : Nd} (h : w.heap[B]? = some (.cells #[.int .i64 t.op, .int .i64 t.v.k, .int .i64 t.v.n, .string t.v.s, .string t.nm, .int .i64 t.ar] 53 (0, 0))) :
    ((((((w.setCell ⟨B, 0, none⟩ (.int .i64 u.op)).setCell ⟨B, 1, none⟩ (.int .i64 u.v.k)).setCell ⟨B, 2, none⟩ (.int .i64 u.v.n)).setCell ⟨B, 3, none⟩ (.string u.v.s)).setCell ⟨B, 4, none⟩ (.string u.nm)).setCell ⟨B, 5, none⟩ (.int .i64 u.ar)).heap[B]? = some (.cells #[.int .i64 u.op, .int .i64 u.v.k, .int .i64 u.v.n, .string u.v.s, .string u.nm, .int .i64 u.ar] 53 (0, 0)) := by
  simp only [World.setCell, Array.getElem?_modify, if_pos]
  rw [h]
  rfl

theorem grown_setRow (w : World) (g : Nat) (cs : Array Value) : w.grownBy (w.setRow g cs) (some g) := ⟨rfl, rfl, rfl, by simp, fun k hk hne => setRow_other w g k cs (fun h => hne (by rw [h]))⟩
theorem cells4S {W : World} {g : Nat} (hh : W.heap[g]? = some (.cells #[.string ⟨#[105, 102]⟩, .string ⟨#[99, 111, 97, 108, 101, 115, 99, 101]⟩, .string ⟨#[105, 115, 110, 117, 108, 108]⟩, .string ⟨#[108, 101, 110, 103, 116, 104]⟩] 9 (0, 0))) (k : Nat) (s : ByteArray) (hs : calSL[k]? = some s) : W.cell? ⟨g, k, none⟩ = some (.string s) := by
  have hk : k < 4 := (List.getElem?_eq_some_iff.1 hs).1
  have h6 : k = 0 ∨ k = 1 ∨ k = 2 ∨ k = 3 := by omega
  rcases h6 with rfl | rfl | rfl | rfl <;> cases hs
  · exact cell_of_row _ _ 0 _ _ _ hh
  · exact cell_of_row _ _ 1 _ _ _ hh
  · exact cell_of_row _ _ 2 _ _ _ hh
  · exact cell_of_row _ _ 3 _ _ _ hh
theorem cells4I {W : World} {g : Nat} (hh : W.heap[g]? = some (.cells #[.int .i64 17, .int .i64 18, .int .i64 16, .int .i64 19] 3 (0, 0))) (k : Nat) (s : Int) (hs : calOL[k]? = some s) : W.cell? ⟨g, k, none⟩ = some (.int .i64 s) := by
  have hk : k < 4 := (List.getElem?_eq_some_iff.1 hs).1
  have h6 : k = 0 ∨ k = 1 ∨ k = 2 ∨ k = 3 := by omega
  rcases h6 with rfl | rfl | rfl | rfl <;> cases hs
  · exact cell_of_row _ _ 0 _ _ _ hh
  · exact cell_of_row _ _ 1 _ _ _ hh
  · exact cell_of_row _ _ 2 _ _ _ hh
  · exact cell_of_row _ _ 3 _ _ _ hh

set_option maxHeartbeats 16000000 in
theorem pcall_any {ts : List TA} {a : Option Addr} {len cap f : Nat} (hT : TkH ts a len) (H0 : Reads8 ts a len cap f 0 32) (i d b : Nat) (s : ByteArray) (w : World) (hP : Pr w b (.slice a len cap) i d 0) (hK : IsToks w a len ts) (hfar : ∀ x, a = some x → x.block ≠ b) (hi : i + 2 < len) (hm : 9 * (len - (i + 2)) + 8 < f) (hd : d ≤ 256) :
    Calls Tryz.prog 234 #[ptr b, .string s] w (RdP w b (.slice a len cap) len i d (if eqS s dayS = true then seqP (prT ts f 0 (i + 2) (d + 1)) (dayT ts) else if symT (tkA ts (i + 2)) clsS = true then finT s [] (i + 2) else agT ts (fun k => prT ts f 0 k (d + 1)) s ts.length [] (i + 2))) := by
  have hbw := hP.lt
  have hib : i < 100000 := by have := hT.le; omega
  have h2 := (Pr.inc2 (Pr.inc1b hP))
  have hg2 := (grown_set w b 1 (.int .i64 ((i : Int) + 2))).trans (grown_set _ b 2 (.int .i64 ((d : Int) + 1)))
  have q1 := hP.c1
  have q2 := hP.c2
  have qf := hP.free
  have hde : eqS s dayS = (s.toList == [100, 97, 121]) := by unfold eqS; rw [show dayS.toList = [100, 97, 121] from by decide +kernel]
  by_cases hday : eqS s dayS = true
  · rw [if_pos hday]
    rw [hde] at hday
    have CD := Lib.hid (pday_any hT H0 (i + 2) d b _ h2 (toks_grown hK hg2 hfar) hfar hi hm hd)
    have HG2 := Lib.hid hg2
    clear H0 hP hK hfar h2 hg2 hde
    go_enter Tryz.func234, Tryz.ntmps234
    go_wp2_with fail
    refine CD.out.mono ?_
    intro e w2 hr
    have hr2 := hr.at (i := i) (by omega) HG2.out
    obtain ⟨v, rfl⟩ := hr2.ret
    have F := Lib.hid hr2
    clear hr hr2 CD HG2
    go_wp2_with fail
    go_ret
    exact F.out
  rw [if_neg hday]
  have hdn : (s.toList == [100, 97, 121]) = false := by rw [← hde]; simpa using hday
  obtain ⟨R, hR⟩ : ∃ R, (if symT (tkA ts (i + 2)) clsS = true then finT s [] (i + 2) else agT ts (fun k => prT ts f 0 k (d + 1)) s ts.length [] (i + 2)) = R := ⟨_, rfl⟩
  rw [hR]
  have HST : Hid (CaRel w b (.slice a len cap) ts (fun k => prT ts f 0 k (d + 1)) s len i d R (.slice none 0 0) (.int .i64 ((0 : Nat) : Int)) ((w.setCell ⟨b, 1, none⟩ (.int .i64 ((i : Int) + 2))).setCell ⟨b, 2, none⟩ (.int .i64 ((d : Int) + 1)))) :=
    ⟨[], 0, i + 2, d + 1, 0, rfl, World.ownsRow_nil _ _ _ _, ⟨Nat.zero_le _, hi, by omega, by omega⟩, h2, hg2, .inl ⟨rfl, rfl, Nat.le_refl _, Nat.zero_le _, [], ts.length, rfl, rfl, Nat.zero_le _, by rw [hT.ln]; omega, fun h => absurd rfl h, by rw [if_pos rfl]; exact hR⟩⟩
  have HK := Lib.hid hK
  have HFAR := Lib.hid hfar
  have HH := Lib.hid H0
  clear H0 hP hK hfar h2 hg2 hde hR hday
  go_enter Tryz.func234, Tryz.ntmps234
  go_wp2_with fail
  go_loopw [5, 6] (fun ev nv wr => Hid (CaRel w b (.slice a len cap) ts (fun k => prT ts f 0 k (d + 1)) s len i d R ev nv wr)) (fun _ _ wr => prM b len wr)
  case atStart => exact HST
  case round =>
    obtain ⟨l, n, j, dd, x, rfl, hown, hbd, hPr, hg, hc⟩ := hrel.out
    have hbr := hPr.lt
    have hj := hbd.2.1
    have hjb : j < 100000 := by have := hT.le; omega
    have hnb := hbd.2.2.2
    have CI := Lib.hid (p := ∀ S q (_ : isS x (tkA ts j) 5 S = q) W (_ : Below wr.heap.size wr W), Calls Tryz.prog 168 #[ptr b, .string S] W fun e w' => e = .returned (.bool q) ∧ Below W.heap.size W w') (by
      intro S q hq W h
      rw [← hq]
      exact pis_any b a len cap ts j dd x S W (hPr.below h hPr.lt) ((toks_grown HK.out hg HFAR.out).below h (Nat.le_refl _)) hT.one (by have := hT.le; omega) (by have := hT.le; omega) (tkA ts j) (hT.get j))
    by_cases hx : x = 0
    · subst hx
      rcases hc with ⟨_, hdd, hij, hnj, rs, g, hrs, hfl, hll, hlen, hcm, hRR⟩ | ⟨hx, _⟩
      rotate_left
      · exact absurd rfl hx
      subst hdd
      by_cases hcl : symT (tkA ts j) clsS = true
      · rw [if_pos hcl] at hRR
        have CI1 := Lib.hid (CI.out clsS true hcl wr (Below.refl _ _))
        have hjn := hT.next hj (by rw [(symT_k hcl).1]; decide)
        have p3 := hPr.c3
        have HPR := Lib.hid hPr
        have HG := Lib.hid hg
        have HOW := Lib.hid hown
        have HR := Lib.hid hRR
        have hn8 : n ≤ 100000 := by omega
        clear hrel hown hPr hg CI hcl hRR hcm
        go_wp2_with fail
        refine CI1.out.mono ?_
        rintro e w3 ⟨rfl, hb3⟩
        have hP3 := HPR.out.below hb3 hbr
        have p4 := hP3.c3
        obtain ⟨A, hA⟩ : ∃ A, Obj.cells #[.string ⟨#[105, 102]⟩, .string ⟨#[99, 111, 97, 108, 101, 115, 99, 101]⟩, .string ⟨#[105, 115, 110, 117, 108, 108]⟩, .string ⟨#[108, 101, 110, 103, 116, 104]⟩] 9 = A := ⟨_, rfl⟩
        obtain ⟨B, hB⟩ : ∃ B, Obj.cells #[.int .i64 17, .int .i64 18, .int .i64 16, .int .i64 19] 3 = B := ⟨_, rfl⟩
        obtain ⟨D, hD⟩ : ∃ D, Obj.cells #[.int .i64 21, .int .i64 0, .int .i64 0, .string ⟨#[]⟩, .string s, .int .i64 n] 53 = D := ⟨_, rfl⟩
        have hsz : (w3.alloc A).heap.size = w3.heap.size + 1 := by simp
        have hsz2 : ((w3.alloc A).alloc B).heap.size = w3.heap.size + 1 + 1 := by simp
        have hsz3 : (((w3.alloc A).alloc B).alloc D).heap.size = w3.heap.size + 3 := by simp
        have hb34 : Below w3.heap.size w3 (((w3.alloc A).alloc B).alloc D) := (((Below.refl _ _).alloc (Nat.le_refl _) _).alloc (by omega) _).alloc (by omega) _
        have HSY : Hid (∀ (k : Nat) (t : ByteArray), calSL[k]? = some t → (((w3.alloc A).alloc B).alloc D).cell? ⟨w3.heap.size, k, none⟩ = some (.string t)) :=
          cells4S (by rw [Below.heap_alloc _ _ _ (by omega), Below.heap_alloc _ _ _ (by omega), heap_alloc_new, hA])
        have HOP : Hid (∀ (k : Nat) (o : Int), calOL[k]? = some o → (((w3.alloc A).alloc B).alloc D).cell? ⟨w3.heap.size + 1, k, none⟩ = some (.int .i64 o)) :=
          cells4I (by rw [Below.heap_alloc _ _ _ (by omega), ← hsz, heap_alloc_new, hB])
        have HND : Hid ((((w3.alloc A).alloc B).alloc D).heap[w3.heap.size + 1 + 1]? = some (.cells #[.int .i64 (lastN s n 0).op, .int .i64 (lastN s n 0).v.k, .int .i64 (lastN s n 0).v.n, .string (lastN s n 0).v.s, .string (lastN s n 0).nm, .int .i64 (lastN s n 0).ar] 53 (0, 0))) := by
          show _ = _
          rw [← hsz2, heap_alloc_new, ← hD]
          rfl
        have HW3 := Lib.hid (Nat.le_trans HG.out.size hb3.size)
        have HSZ : Hid ((((w3.alloc A).alloc B).alloc D).heap.size = w3.heap.size + 3) := hsz3
        have HO4 := Lib.hid (own_below HOW.out (hb3.trans (hb34.mono hb3.size)))
        have HP4 := Lib.hid (hP3.below hb34 hP3.lt)
        have HG4 := Lib.hid ((HG.out.trans (grown_below hb3 _)).trans (grown_below hb34 (some b)))
        have hb3s : b < w3.heap.size := hP3.lt
        have HNEW := Lib.hid (fun (z : Nat) (hz : u5.ownBlock = some z) => Nat.lt_of_lt_of_le (HOW.out.lt z hz).2 hb3.size)
        clear hP3 hb3 hb34 HPR HG HOW CI1 p3 hsz hsz2 hsz3
        go_wp2_with fail
        try simp only [hA, hB, hD]
        generalize ((w3.alloc A).alloc B).alloc D = w4 at *
        clear p4
        go_loopw [10] (fun iv wr => ∃ k : Nat, k ≤ 4 ∧ iv = .int .i64 k ∧ w4.grownBy wr (some (w3.heap.size + 1 + 1)) ∧ Hid (wr.heap[w3.heap.size + 1 + 1]? = some (.cells #[.int .i64 (lastN s n k).op, .int .i64 (lastN s n k).v.k, .int .i64 (lastN s n k).v.n, .string (lastN s n k).v.s, .string (lastN s n k).nm, .int .i64 (lastN s n k).ar] 53 (0, 0)))) (fun iv _ => 4 - (intOf iv).toNat)
        case atStart => exact ⟨0, by omega, rfl, World.grownBy.refl _ _, HND⟩
        case round =>
          obtain ⟨k, hk, rfl, hgq, HNQ⟩ := hrel
          have hsq := hgq.size
          have hs4 := HSZ.out
          by_cases hlt : k < 4
          · obtain ⟨t, ht⟩ : ∃ t, calSL[k]? = some t := ⟨_, List.getElem?_eq_getElem (by simpa [calSL] using hlt)⟩
            obtain ⟨o, ho⟩ : ∃ t, calOL[k]? = some t := ⟨_, List.getElem?_eq_getElem (by simpa [calOL] using hlt)⟩
            have c1 := hgq.cell (HSY.out k t ht) (fun h => by have h2 : w3.heap.size = w3.heap.size + 1 + 1 := Option.some.inj h; omega)
            have c2 := hgq.cell (HOP.out k o ho) (fun h => by have h2 : w3.heap.size + 1 = w3.heap.size + 1 + 1 := Option.some.inj h; omega)
            have hlast : lastN s n (k + 1) = if eqS t s = true then opNd o else lastN s n k := by
              show (if eqS (calSL.getD k ⟨#[]⟩) s = true then opNd (calOL.getD k 0) else lastN s n k) = _
              rw [List.getD_eq_getElem?_getD, List.getD_eq_getElem?_getD, ht, ho]
              rfl
            have hkm : k < 100 := by omega
            have HC := Lib.hid (And.intro hgq hlast)
            by_cases hy : eqS t s = true
            · have hyb : (t.toList == s.toList) = true := hy
              rw [if_pos hy] at hlast
              have HST : Hid ((wr.setRow (w3.heap.size + 1 + 1) #[.int .i64 o, .int .i64 0, .int .i64 0, .string ⟨#[]⟩, .string ⟨#[]⟩, .int .i64 0]).heap[w3.heap.size + 1 + 1]? = some (.cells #[.int .i64 (lastN s n (k + 1)).op, .int .i64 (lastN s n (k + 1)).v.k, .int .i64 (lastN s n (k + 1)).v.n, .string (lastN s n (k + 1)).v.s, .string (lastN s n (k + 1)).nm, .int .i64 (lastN s n (k + 1)).ar] 53 (0, 0))) := by
                show _ = _
                rw [hlast]
                exact setRow_heap _ _ _ _ _ _ HNQ.out
              have HGS := Lib.hid (hgq.trans (grown_setRow wr (w3.heap.size + 1 + 1) #[.int .i64 o, .int .i64 0, .int .i64 0, .string ⟨#[]⟩, .string ⟨#[]⟩, .int .i64 0]))
              clear hlast HC hgq ht ho hy
              go_wp2_with (with_reducible refine wpList_store_row (o := Oper.mk none (Op.store 53 (.tmp 9) (.tmp 97)) _ _ _ none) rfl 53 (.tmp 9) (.tmp 97) rfl (w3.heap.size + 1 + 1) #[.int .i64 o, .int .i64 0, .int .i64 0, .string ⟨#[]⟩, .string ⟨#[]⟩, .int .i64 0] ?hx ?hy 53 _ HNQ.out ?hi ?ho ?h1 ?hk)
              case hx => rfl
              case hy => rfl
              case hi => kernel_rfl
              case ho => rfl
              case h1 => simp [Value.oneCell']
              go_wp2_with fail
              go_roundw
              case rel => exact ⟨k + 1, by omega, by go_num, HGS.out, HST⟩
              case measure => simp [intOf]; omega
            · have hyb : (t.toList == s.toList) = false := by simpa [eqS] using hy
              rw [if_neg hy] at hlast
              have HNN : Hid (wr.heap[w3.heap.size + 1 + 1]? = some (.cells #[.int .i64 (lastN s n (k + 1)).op, .int .i64 (lastN s n (k + 1)).v.k, .int .i64 (lastN s n (k + 1)).v.n, .string (lastN s n (k + 1)).v.s, .string (lastN s n (k + 1)).nm, .int .i64 (lastN s n (k + 1)).ar] 53 (0, 0))) := by rw [hlast]; exact HNQ
              clear hlast hy ht ho hgq
              go_wp2_with fail
              go_roundw
              case rel => exact ⟨k + 1, by omega, by go_num, HC.out.1, HNN⟩
              case measure => simp [intOf]; omega
          · obtain rfl : k = 4 := by omega
            obtain ⟨t, ht⟩ : ∃ t, lastN s n 4 = t := ⟨_, rfl⟩
            have hcall : (callO s n).1 = t := by rw [← lastN_call, ht]
            have har : (callO s n).2 = arN t := by rw [callO_ar, hcall]
            have hnd := HNQ.out
            rw [ht] at hnd
            have CA := Lib.hid (fun W => rarity_any t W)
            have hPr := Pr.kept HP4.out hgq (fun h => by have h2 : b = w3.heap.size + 1 + 1 := Option.some.inj h; omega)
            have hgw := HG4.out.andThen hgq (fun z hz => .inl (by have h2 : w3.heap.size + 1 + 1 = z := Option.some.inj hz; have := HW3.out; omega))
            have hOq := HO4.out.kept hgq (by
              cases ho : u5.ownBlock with
              | none => exact .inl rfl
              | some z => exact .inr (fun hc => by have h1 := HNEW.out z ho; have h2 : z = w3.heap.size + 1 + 1 := Option.some.inj hc; omega))
            have m0 := cell_of_row _ _ 0 _ _ _ hnd
            have m1 := cell_of_row _ _ 1 _ _ _ hnd
            have m2 := cell_of_row _ _ 2 _ _ _ hnd
            have m3 := cell_of_row _ _ 3 _ _ _ hnd
            have m4 := cell_of_row _ _ 4 _ _ _ hnd
            have m5 := cell_of_row _ _ 5 _ _ _ hnd
            simp only [List.getElem?_toArray, List.getElem?_cons_zero, List.getElem?_cons_succ] at m0 m1 m2 m3 m4 m5
            have hRR := HR.out
            unfold finT at hRR
            rw [hrs, hfl, har, hcall] at hRR
            have HRR := Lib.hid hRR
            have HPR := Lib.hid hPr
            have HGW := Lib.hid hgw
            have HOQ := Lib.hid hOq
            obtain ⟨op, ⟨vk, vn, vs⟩, nm, ar⟩ := t
            unfold ndV at CA
            simp only at CA m0 m1 m2 m3 m4 m5
            have q1' := hPr.c1
            have q2' := hPr.c2
            have qf' := hPr.free
            clear hPr hgw hOq hRR hcall har ht hnd HNQ HND HSY HOP HP4 HG4 HO4 hgq HR
            by_cases h8 : 8 < n
            · have hR := HRR.out
              rw [if_pos (.inl h8)] at hR
              have h8i : (8 : Int) < (n : Int) := by omega
              have CF := Lib.hid (pfail_any b (.slice a len cap) j (d + 1) 0 3 wr HPR.out)
              clear CA HRR
              go_wp2_with fail
              refine CF.out.mono ?_
              rintro e w5 ⟨rfl, hP5, hg5⟩
              simp only [if_true] at hP5
              have F := Lib.hid (RdP.nil (w := w) (len := len) (i := i) (d := d) hP5 (by decide) hR.symm hj (by omega) (by omega) (HGW.out.trans hg5))
              clear hP5 hg5 CF HGW hR HPR m0 m1 m2 m3 m4 m5 q1' q2' qf'
              go_wp2_with fail
              go_ret
              exact F.out
            · have h8i : ¬ (8 : Int) < (n : Int) := by omega
              by_cases ha : arN ⟨op, ⟨vk, vn, vs⟩, nm, ar⟩ = n
              · have hR := HRR.out
                rw [if_neg (by rw [ha]; simp; omega)] at hR
                rw [ha] at CA
                have HR2 := Lib.hid hR
                clear HRR hR ha
                go_wp2_with fail
                refine (CA.out wr).mono ?_
                rintro e w5 ⟨rfl, hb5⟩
                have hP5 := Pr.inc1 (Pr.dec2 (HPR.out.below hb5 HPR.out.lt) (Nat.le_add_left 1 d))
                have e1 : ((d + 1 : Nat) : Int) - 1 = (d : Int) := by omega
                have e2 : d + 1 - 1 = d := by omega
                rw [e1, e2] at hP5
                have p1 := (HPR.out.below hb5 HPR.out.lt).c1
                have p2 := (HPR.out.below hb5 HPR.out.lt).c2
                have pf := (HPR.out.below hb5 HPR.out.lt).free
                have e3 : ((d + 1 : Nat) : Int) = (d : Int) + 1 := by omega
                rw [e3] at p2
                have hgB := ((grown_below hb5 (some b)).trans (grown_set w5 b 2 (.int .i64 (d : Int)))).trans (grown_set _ b 1 (.int .i64 ((j : Int) + 1)))
                have hneB : ∀ z : Nat, some ({ block := w3.heap.size + 1 + 1, off := z } : Addr).block ≠ some b := fun z h => by have h2 : w3.heap.size + 1 + 1 = b := Option.some.inj h; omega
                have y0 := hgB.cell m0 (hneB 0)
                have y1 := hgB.cell m1 (hneB 1)
                have y2 := hgB.cell m2 (hneB 2)
                have y3 := hgB.cell m3 (hneB 3)
                have y4 := hgB.cell m4 (hneB 4)
                have y5 := hgB.cell m5 (hneB 5)
                have HGB := Lib.hid (HGW.out.trans hgB)
                have HOB := Lib.hid (own_parser HOQ.out hgB hbw)
                have hL := lit_node ((w5.setCell ⟨b, 2, none⟩ (.int .i64 (d : Int))).setCell ⟨b, 1, none⟩ (.int .i64 ((j : Int) + 1))) ⟨op, ⟨vk, vn, vs⟩, nm, ar⟩
                rw [size_setC, size_setC] at hL
                have HL := Lib.hid hL
                have HPB := Lib.hid hP5
                have hsB := HGB.out.size
                have hs5 : w.heap.size ≤ w5.heap.size := by have := HGW.out.size; have := hb5.size; omega
                have hll : l.length ≤ 100000 := by have := hT.le; omega
                clear hL hP5 hb5 CA m0 m1 m2 m3 m4 m5 q1' q2' qf' hgB hneB HPR HGW e1 e2 e3
                go_wp2_with (at_builtin; refine wpList_app rfl (.tmp 122) (.tmp 124) rfl rfl rfl (HOB.out.alloc _) (by simp; omega) HL.out (fun h => by cases h) (by omega) (by omega) ?_)
                intro v7 w7 ho7 hg7
                obtain ⟨k1, k2⟩ := app_keeps HPB.out HGB.out hbw HOB.out hg7
                have F := Lib.hid (RdP.made (w := w) (len := len) (i := i) (P := R) (l := l ++ [⟨op, ⟨vk, vn, vs⟩, nm, ar⟩]) (by rw [show (l ++ [(⟨op, ⟨vk, vn, vs⟩, nm, ar⟩ : Nd)]).length = l.length + 1 by simp]; exact ho7) (by simp; omega) k1 hjn (by omega) k2 HR2.out.symm)
                clear k1 k2 ho7 hg7 HPB HGB HOB HL HR2 y0 y1 y2 y3 y4 y5 p1 p2 pf
                go_wp2_with fail
                go_ret
                exact F.out
              · have hR := HRR.out
                rw [if_pos (.inr ha)] at hR
                have hab : ¬ arN ⟨op, ⟨vk, vn, vs⟩, nm, ar⟩ = (n : Int) := ha
                generalize arN ⟨op, ⟨vk, vn, vs⟩, nm, ar⟩ = z at *
                have hzb : (z == (n : Int)) = false := by simpa using hab
                clear HRR
                go_wp2_with fail
                refine (CA.out wr).mono ?_
                rintro e w5 ⟨rfl, hb5⟩
                have hP5 := HPR.out.below hb5 HPR.out.lt
                have CF := Lib.hid (pfail_any b (.slice a len cap) j (d + 1) 0 3 w5 hP5)
                have HG5 := Lib.hid (HGW.out.trans (grown_below hb5 (some b)))
                clear CA hP5 hb5 HPR HGW m0 m1 m2 m3 m4 m5 q1' q2' qf'
                go_wp2_with fail
                refine CF.out.mono ?_
                rintro e w6 ⟨rfl, hP6, hg6⟩
                simp only [if_true] at hP6
                have F := Lib.hid (RdP.nil (w := w) (len := len) (i := i) (d := d) hP6 (by decide) hR.symm hj (by omega) (by omega) (HG5.out.trans hg6))
                clear hP6 hg6 CF HG5 hR
                go_wp2_with fail
                go_ret
                exact F.out
      · have hcl0 : symT (tkA ts j) clsS = false := by simpa using hcl
        rw [if_neg hcl] at hRR
        have CI1 := Lib.hid (CI.out clsS false hcl0 wr (Below.refl _ _))
        have p3 := hPr.c3
        have hpm := prM_eq (len := len) hPr
        rw [if_pos rfl] at hpm
        have HPM := Lib.hid hpm
        have HPR := Lib.hid hPr
        have HG := Lib.hid hg
        have HOW := Lib.hid hown
        have CT := Lib.hid (fun W (hP' : Pr W b (.slice a len cap) j (d + 1) 0) (hg : w.grownBy W (some b)) => ptake_any b a len cap ts j (d + 1) 0 comS W hP' (toks_grown HK.out hg HFAR.out) hT.one (by have := hT.le; omega) (by have := hT.le; omega) (tkA ts j) (hT.get j))
        have HCM := Lib.hid hcm
        clear hrel hown hPr hg CI hcl hcm hpm
        by_cases hn0 : n = 0
        · rw [if_pos hn0] at hRR
          have hRk : agT ts (fun k => prT ts f 0 k (d + 1)) s g rs j = R := hRR
          have hkl : j < len := hj
          have hn0i : ¬ (0 : Int) < (n : Int) := by omega
          clear hRR CT HCM hcl0 hn0
          go_wp2_with fail
          refine CI1.out.mono ?_
          rintro e w3 ⟨rfl, hb3⟩
          have HPX := Lib.hid (HPR.out.below hb3 hbr)
          have HGX := Lib.hid (HG.out.trans (grown_below hb3 (some b)))
          have HOX := Lib.hid (own_below HOW.out hb3)
          have p4 := HPX.out.c3
          clear hb3 HPR HG HOW CI1 p3
          have C5 := Lib.hid (HH.out (j) (d + 1) b w3 HPX.out (toks_grown HK.out HGX.out HFAR.out) HFAR.out hkl (by omega) (by omega) (At8.no (by omega)) (by omega))
          have pX := HPX.out.c3
          have hsX := HGX.out.size
          go_wp2_with fail
          refine C5.out.mono ?_
          rintro e w5 ⟨v2, l2, j2, dd2, x2, rfl, hown2, hbd2, hP5, hg5, hc5⟩
          have HO5 := Lib.hid (own_parser HOX.out hg5 hbw)
          have HG5 := Lib.hid (HGX.out.trans hg5)
          have hs5 := HG5.out.size
          obtain ⟨a2, c2, rfl, q2, qc2, qm2, qn2, qx2⟩ := own_nodes hown2 rfl
          have HP5 := Lib.hid hP5
          have HC5 := Lib.hid hc5
          have hl2 : l2.length ≤ 100000 := by have := hbd2.1; have := hT.le; omega
          have hl1 : l.length ≤ 100000 := by have := hT.le; omega
          have hj2 := hbd2.2.1
          have hj2b : j2 < 100000 := by have := hT.le; omega
          clear C5 hown2 hP5 hg5 hc5 qx2 pX HOX HGX HPX
          go_wp2_with (at_builtin; refine wpList_app rfl (.tmp 48) (.tmp 50) rfl rfl rfl HO5.out hs5 q2 qn2 (by omega) (by omega) ?_)
          intro v7 w7 ho7 hg7
          obtain ⟨k1, k2⟩ := app_keeps0 HP5.out HG5.out hbw HO5.out hg7
          obtain ⟨st1, st2⟩ := CaRel.step (w := w) (i := i) (n := n) (b := b) (sl := .slice a len cap) hT (rd := fun k => prT ts f 0 k (d + 1)) rfl (by omega : j ≤ j) hkl (by omega) hij hnj hrs hfl hll hlen hRk hbd2 k1 k2 ho7 HC5.out
          have ST1 := Lib.hid st1
          have ST2 := Lib.hid st2
          have hpm7 := prM_eq (len := len) k1
          have HPM7 := Lib.hid (And.intro HPM.out hpm7)
          have p7 := k1.c3
          have CI7 := Lib.hid (p := ∀ S q (_ : isS x2 (tkA ts j2) 5 S = q) W (_ : Below w7.heap.size w7 W), Calls Tryz.prog 168 #[ptr b, .string S] W fun e w' => e = .returned (.bool q) ∧ Below W.heap.size W w') (by
            intro S q hq W h
            rw [← hq]
            exact pis_any b a len cap ts j2 dd2 x2 S W (k1.below h k1.lt) ((toks_grown HK.out k2 HFAR.out).below h (Nat.le_refl _)) hT.one (by have := hT.le; omega) (by have := hT.le; omega) (tkA ts j2) (hT.get j2))
          have CF7 := Lib.hid (fun W (h : Below w7.heap.size w7 W) => pfail_any b (.slice a len cap) j2 dd2 x2 3 W (k1.below h k1.lt))
          have HK1 := Lib.hid k1
          have HK2 := Lib.hid k2
          clear st1 st2 k1 k2 ho7 hg7 HO5 HG5 HP5 HC5 q2 qn2 hpm7
          have hncast : ((n + 1 : Nat) : Int) = (n : Int) + 1 := by omega
          by_cases hx2 : x2 = 0
          · subst hx2
            by_cases hcl2 : symT (tkA ts j2) clsS = true
            · have T := Lib.hid (ST1.out (.inr ⟨rfl, .inl hcl2⟩))
              have CX := Lib.hid (CI7.out clsS true ((isS_sym _ _).trans hcl2) w7 (Below.refl _ _))
              clear ST1 ST2 CI7 CF7 hcl2
              go_wp2_with fail
              refine CX.out.mono ?_
              rintro e w8 ⟨rfl, hb8⟩
              have REL := Lib.hid (T.out.1.next hb8)
              have MEA := Lib.hid (And.intro T.out.2 (prM_eq (len := len) (HK1.out.below hb8 HK1.out.lt)))
              clear T hb8 CX HK1 HK2
              rw [hncast] at REL
              go_wp2_with fail
              go_roundw
              case rel => exact REL
              case measure =>
                obtain ⟨m1, m2⟩ := MEA.out
                rw [m2, HPM7.out.1]
                exact m1
            · have hcl3 : symT (tkA ts j2) clsS = false := by simpa using hcl2
              have CX := Lib.hid (CI7.out clsS false ((isS_sym _ _).trans hcl3) w7 (Below.refl _ _))
              by_cases hcm2 : symT (tkA ts j2) comS = true
              · have T := Lib.hid (ST1.out (.inr ⟨rfl, .inr hcm2⟩))
                have CY := Lib.hid (fun W h => CI7.out comS true ((isS_sym _ _).trans hcm2) W h)
                clear ST1 ST2 CI7 CF7 hcl2 hcl3 hcm2
                go_wp2_with fail
                refine CX.out.mono ?_
                rintro e w8 ⟨rfl, hb8⟩
                have CY8 := Lib.hid (CY.out w8 hb8)
                have HB8 := Lib.hid hb8
                clear CX CY hb8
                go_wp2_with fail
                refine CY8.out.mono ?_
                rintro e w9 ⟨rfl, hb9⟩
                have hb79 := HB8.out.trans (hb9.mono HB8.out.size)
                have REL := Lib.hid (T.out.1.next hb79)
                have MEA := Lib.hid (And.intro T.out.2 (prM_eq (len := len) (HK1.out.below hb79 HK1.out.lt)))
                clear T hb9 hb79 CY8 HK1 HK2
                rw [hncast] at REL
                go_wp2_with fail
                go_roundw
                case rel => exact REL
                case measure =>
                  obtain ⟨m1, m2⟩ := MEA.out
                  rw [m2, HPM7.out.1]
                  exact m1
              · have hcm3 : symT (tkA ts j2) comS = false := by simpa using hcm2
                have T := Lib.hid (ST2.out rfl hcl3 hcm3)
                have CY := Lib.hid (fun W h => CI7.out comS false ((isS_sym _ _).trans hcm3) W h)
                clear ST1 ST2 CI7 hcl2 hcl3 hcm2 hcm3
                go_wp2_with fail
                refine CX.out.mono ?_
                rintro e w8 ⟨rfl, hb8⟩
                have CY8 := Lib.hid (CY.out w8 hb8)
                have HB8 := Lib.hid hb8
                clear CX CY hb8
                go_wp2_with fail
                refine CY8.out.mono ?_
                rintro e w9 ⟨rfl, hb9⟩
                have hb79 := HB8.out.trans (hb9.mono HB8.out.size)
                have CF9 := Lib.hid (CF7.out w9 hb79)
                have HG9 := Lib.hid (HK2.out.trans (grown_below hb79 (some b)))
                clear hb9 hb79 CY8 HK1 HK2 CF7
                go_wp2_with fail
                refine CF9.out.mono ?_
                rintro e w10 ⟨rfl, hP10, hg10⟩
                simp only [if_true] at hP10
                have F := Lib.hid (RdP.nil (w := w) (len := len) (i := i) (d := d) hP10 (by decide) T.out.1 hj2 (by have := T.out.2; omega) hbd2.2.2 (HG9.out.trans hg10))
                clear hP10 hg10 CF9 HG9 T
                go_wp2_with fail
                go_ret
                exact F.out
          · have T := Lib.hid (ST1.out (.inl hx2))
            have hxb := bne0 hx2
            have REL := Lib.hid T.out.1
            have MEA := Lib.hid (And.intro T.out.2 HPM7.out.2)
            clear ST1 ST2 CI7 CF7 HK1 HK2 T
            rw [hncast] at REL
            go_wp2_with fail
            go_roundw
            case rel => exact REL
            case measure =>
              obtain ⟨m1, m2⟩ := MEA.out
              rw [m2, HPM7.out.1]
              exact m1

        · rw [if_neg hn0] at hRR
          have hRk : agT ts (fun k => prT ts f 0 k (d + 1)) s g rs (j + 1) = R := hRR
          have hcm1 := HCM.out hn0 hcl0
          have hkl : j + 1 < len := hT.next hj (by rw [(symT_k hcm1).1]; decide)
          have hn0i : (0 : Int) < (n : Int) := by omega
          have CT2 := Lib.hid (p := ∀ W (_ : Pr W b (.slice a len cap) j (d + 1) 0) (_ : w.grownBy W (some b)), Calls Tryz.prog 233 #[ptr b, .string comS] W fun e w' => e = .returned (.tuple #[]) ∧ Pr w' b (.slice a len cap) (j + 1) (d + 1) 0 ∧ W.grownBy w' (some b)) (by
            intro W h1 h2
            have h := CT.out W h1 h2
            rw [isS_sym, hcm1, if_pos rfl, if_pos rfl] at h
            exact h)
          clear hRR CT HCM hcl0 hcm1
          go_wp2_with fail
          refine CI1.out.mono ?_
          rintro e w3 ⟨rfl, hb3⟩
          have hP3 := HPR.out.below hb3 hbr
          have hg3 := HG.out.trans (grown_below hb3 (some b))
          have CT3 := Lib.hid (CT2.out w3 hP3 hg3)
          have HG3 := Lib.hid hg3
          have HO3 := Lib.hid (own_below HOW.out hb3)
          have p4 := hP3.c3
          clear hb3 hP3 hg3 HPR HG HOW CI1 CT2 p3
          go_wp2_with fail
          refine CT3.out.mono ?_
          rintro e w4 ⟨rfl, hP4, hg4⟩
          have HPX := Lib.hid hP4
          have HGX := Lib.hid (HG3.out.trans hg4)
          have HOX := Lib.hid (own_parser HO3.out hg4 hbw)
          clear hP4 hg4 HG3 HO3 CT3 p4
          have C5 := Lib.hid (HH.out (j + 1) (d + 1) b w4 HPX.out (toks_grown HK.out HGX.out HFAR.out) HFAR.out hkl (by omega) (by omega) (At8.no (by omega)) (by omega))
          have pX := HPX.out.c3
          have hsX := HGX.out.size
          go_wp2_with fail
          refine C5.out.mono ?_
          rintro e w5 ⟨v2, l2, j2, dd2, x2, rfl, hown2, hbd2, hP5, hg5, hc5⟩
          have HO5 := Lib.hid (own_parser HOX.out hg5 hbw)
          have HG5 := Lib.hid (HGX.out.trans hg5)
          have hs5 := HG5.out.size
          obtain ⟨a2, c2, rfl, q2, qc2, qm2, qn2, qx2⟩ := own_nodes hown2 rfl
          have HP5 := Lib.hid hP5
          have HC5 := Lib.hid hc5
          have hl2 : l2.length ≤ 100000 := by have := hbd2.1; have := hT.le; omega
          have hl1 : l.length ≤ 100000 := by have := hT.le; omega
          have hj2 := hbd2.2.1
          have hj2b : j2 < 100000 := by have := hT.le; omega
          clear C5 hown2 hP5 hg5 hc5 qx2 pX HOX HGX HPX
          go_wp2_with (at_builtin; refine wpList_app rfl (.tmp 48) (.tmp 50) rfl rfl rfl HO5.out hs5 q2 qn2 (by omega) (by omega) ?_)
          intro v7 w7 ho7 hg7
          obtain ⟨k1, k2⟩ := app_keeps0 HP5.out HG5.out hbw HO5.out hg7
          obtain ⟨st1, st2⟩ := CaRel.step (w := w) (i := i) (n := n) (b := b) (sl := .slice a len cap) hT (rd := fun k => prT ts f 0 k (d + 1)) rfl (by omega : j ≤ j + 1) hkl (by omega) hij hnj hrs hfl hll hlen hRk hbd2 k1 k2 ho7 HC5.out
          have ST1 := Lib.hid st1
          have ST2 := Lib.hid st2
          have hpm7 := prM_eq (len := len) k1
          have HPM7 := Lib.hid (And.intro HPM.out hpm7)
          have p7 := k1.c3
          have CI7 := Lib.hid (p := ∀ S q (_ : isS x2 (tkA ts j2) 5 S = q) W (_ : Below w7.heap.size w7 W), Calls Tryz.prog 168 #[ptr b, .string S] W fun e w' => e = .returned (.bool q) ∧ Below W.heap.size W w') (by
            intro S q hq W h
            rw [← hq]
            exact pis_any b a len cap ts j2 dd2 x2 S W (k1.below h k1.lt) ((toks_grown HK.out k2 HFAR.out).below h (Nat.le_refl _)) hT.one (by have := hT.le; omega) (by have := hT.le; omega) (tkA ts j2) (hT.get j2))
          have CF7 := Lib.hid (fun W (h : Below w7.heap.size w7 W) => pfail_any b (.slice a len cap) j2 dd2 x2 3 W (k1.below h k1.lt))
          have HK1 := Lib.hid k1
          have HK2 := Lib.hid k2
          clear st1 st2 k1 k2 ho7 hg7 HO5 HG5 HP5 HC5 q2 qn2 hpm7
          have hncast : ((n + 1 : Nat) : Int) = (n : Int) + 1 := by omega
          by_cases hx2 : x2 = 0
          · subst hx2
            by_cases hcl2 : symT (tkA ts j2) clsS = true
            · have T := Lib.hid (ST1.out (.inr ⟨rfl, .inl hcl2⟩))
              have CX := Lib.hid (CI7.out clsS true ((isS_sym _ _).trans hcl2) w7 (Below.refl _ _))
              clear ST1 ST2 CI7 CF7 hcl2
              go_wp2_with fail
              refine CX.out.mono ?_
              rintro e w8 ⟨rfl, hb8⟩
              have REL := Lib.hid (T.out.1.next hb8)
              have MEA := Lib.hid (And.intro T.out.2 (prM_eq (len := len) (HK1.out.below hb8 HK1.out.lt)))
              clear T hb8 CX HK1 HK2
              rw [hncast] at REL
              go_wp2_with fail
              go_roundw
              case rel => exact REL
              case measure =>
                obtain ⟨m1, m2⟩ := MEA.out
                rw [m2, HPM7.out.1]
                exact m1
            · have hcl3 : symT (tkA ts j2) clsS = false := by simpa using hcl2
              have CX := Lib.hid (CI7.out clsS false ((isS_sym _ _).trans hcl3) w7 (Below.refl _ _))
              by_cases hcm2 : symT (tkA ts j2) comS = true
              · have T := Lib.hid (ST1.out (.inr ⟨rfl, .inr hcm2⟩))
                have CY := Lib.hid (fun W h => CI7.out comS true ((isS_sym _ _).trans hcm2) W h)
                clear ST1 ST2 CI7 CF7 hcl2 hcl3 hcm2
                go_wp2_with fail
                refine CX.out.mono ?_
                rintro e w8 ⟨rfl, hb8⟩
                have CY8 := Lib.hid (CY.out w8 hb8)
                have HB8 := Lib.hid hb8
                clear CX CY hb8
                go_wp2_with fail
                refine CY8.out.mono ?_
                rintro e w9 ⟨rfl, hb9⟩
                have hb79 := HB8.out.trans (hb9.mono HB8.out.size)
                have REL := Lib.hid (T.out.1.next hb79)
                have MEA := Lib.hid (And.intro T.out.2 (prM_eq (len := len) (HK1.out.below hb79 HK1.out.lt)))
                clear T hb9 hb79 CY8 HK1 HK2
                rw [hncast] at REL
                go_wp2_with fail
                go_roundw
                case rel => exact REL
                case measure =>
                  obtain ⟨m1, m2⟩ := MEA.out
                  rw [m2, HPM7.out.1]
                  exact m1
              · have hcm3 : symT (tkA ts j2) comS = false := by simpa using hcm2
                have T := Lib.hid (ST2.out rfl hcl3 hcm3)
                have CY := Lib.hid (fun W h => CI7.out comS false ((isS_sym _ _).trans hcm3) W h)
                clear ST1 ST2 CI7 hcl2 hcl3 hcm2 hcm3
                go_wp2_with fail
                refine CX.out.mono ?_
                rintro e w8 ⟨rfl, hb8⟩
                have CY8 := Lib.hid (CY.out w8 hb8)
                have HB8 := Lib.hid hb8
                clear CX CY hb8
                go_wp2_with fail
                refine CY8.out.mono ?_
                rintro e w9 ⟨rfl, hb9⟩
                have hb79 := HB8.out.trans (hb9.mono HB8.out.size)
                have CF9 := Lib.hid (CF7.out w9 hb79)
                have HG9 := Lib.hid (HK2.out.trans (grown_below hb79 (some b)))
                clear hb9 hb79 CY8 HK1 HK2 CF7
                go_wp2_with fail
                refine CF9.out.mono ?_
                rintro e w10 ⟨rfl, hP10, hg10⟩
                simp only [if_true] at hP10
                have F := Lib.hid (RdP.nil (w := w) (len := len) (i := i) (d := d) hP10 (by decide) T.out.1 hj2 (by have := T.out.2; omega) hbd2.2.2 (HG9.out.trans hg10))
                clear hP10 hg10 CF9 HG9 T
                go_wp2_with fail
                go_ret
                exact F.out
          · have T := Lib.hid (ST1.out (.inl hx2))
            have hxb := bne0 hx2
            have REL := Lib.hid T.out.1
            have MEA := Lib.hid (And.intro T.out.2 HPM7.out.2)
            clear ST1 ST2 CI7 CF7 HK1 HK2 T
            rw [hncast] at REL
            go_wp2_with fail
            go_roundw
            case rel => exact REL
            case measure =>
              obtain ⟨m1, m2⟩ := MEA.out
              rw [m2, HPM7.out.1]
              exact m1
    · have CI1 := Lib.hid (CI.out clsS false (isS_bad hx _ _ _) wr (Below.refl _ _))
      have p3 := hPr.c3
      have hxb := bne0 hx
      have hR : R = .bad x j ∧ d ≤ dd := by
        rcases hc with ⟨h, _⟩ | ⟨_, h⟩
        · exact absurd h hx
        · exact h
      have HPR := Lib.hid hPr
      have HG := Lib.hid hg
      clear hrel hown hPr hg hc CI
      go_wp2_with fail
      refine CI1.out.mono ?_
      rintro e w3 ⟨rfl, hb3⟩
      have hP3 := HPR.out.below hb3 hbr
      have p4 := hP3.c3
      have F := Lib.hid (RdP.nil (w := w) (len := len) (i := i) (d := d) hP3 hx hR.1 hj hR.2 hbd.2.2.1 (HG.out.trans (grown_below hb3 _)))
      clear hP3 hb3 HPR HG CI1 p3 hR
      go_wp2_with fail
      go_ret
      exact F.out

end Go.Proofs.YtmdpjahhhfajaaaGreatDoor
