/-
  The program's parser: call.
-/
import Derived.Test.YtmdpjahhhfajaaaGreatDoorJC19
set_option linter.unusedVariables false
set_option linter.unusedSimpArgs false
set_option maxRecDepth 100000
namespace Go.Proofs.YtmdpjahhhfajaaaGreatDoor
open Go.RowKit Wh
theorem node_cells {w : World} {B : Nat} {x y z u v t : Value} (h : w.heap[B]? = some (.cells #[x, y, z, u, v, t] 53 (0, 0))) : w.cell? ⟨B, 0, none⟩ = some x ∧ w.cell? ⟨B, 1, none⟩ = some y ∧ w.cell? ⟨B, 2, none⟩ = some z ∧ w.cell? ⟨B, 3, none⟩ = some u ∧ w.cell? ⟨B, 4, none⟩ = some v ∧ w.cell? ⟨B, 5, none⟩ = some t :=
 ⟨(cell_of_row _ _ 0 _ _ _ h).trans rfl, (cell_of_row _ _ 1 _ _ _ h).trans rfl, (cell_of_row _ _ 2 _ _ _ h).trans rfl, (cell_of_row _ _ 3 _ _ _ h).trans rfl, (cell_of_row _ _ 4 _ _ _ h).trans rfl, (cell_of_row _ _ 5 _ _ _ h).trans rfl⟩
set_option maxHeartbeats 16000000 in
theorem qcall_any {ts : List TA} {a : Option Addr} {len cap f : Nat} (H : ReadsQ ts a len cap f) (i d b : Nat) (sv : Value) (rs : List (List Nd)) (vs : List Value) (w : World) (hP : Pq w b (.slice a len cap) i d sv) (hS : Sk w b rs sv vs) (hE : EnvQ w b a len ts) (hi : i + 2 < len) (hk : (tkA ts i).1.k = 1) (hrs : rs.length ≤ i) (hm : 9 * (len - (i + 2)) + 8 < f) (hd : d ≤ 256) :
  Calls Tryz.prog 163 #[ptr b] w (QdP w b (.slice a len cap) len d rs sv vs (calT ts f (tkA ts i).1.tx i d)) := by
 have hbw := hP.lt
 have hlen8 : len ≤ 100000 := hE.hH.le
 have hi8 : i < 100000 := by omega
 have CW := Lib.hid (qword_any b a len cap ts i d sv w hP hE.tk (by omega) (by omega))
 rw [wrdC_k hk] at CW
 have CB := Lib.hid (fun s W (hb : Below w.heap.size w W) => builtinOp_any s W (hE.tb.below hb (Nat.le_refl _)))
 have CD := Lib.hid (fun W (hPW : Pq W b (.slice a len cap) (i + 2) d sv) (hSW : Sk W b rs sv vs) (hb : Below b w W) => qday_any H (i + 2) d b sv rs vs W hPW hSW (hE.below hb) hi (by omega) hm hd)
 have CO := Lib.hid (fun s W (hPW : Pq W b (.slice a len cap) (i + 2) d sv) (hSW : Sk W b rs sv vs) (hb : Below b w W) => qoperands_any H s (i + 2) d b sv rs vs W hPW hSW (hE.below hb) hi (by omega) hm hd)
 have CT := Lib.hid (fun S j (hj : j < len) dd sv' W (hb : Below b w W) (hPW : Pq W b (.slice a len cap) j dd sv') => qtake_any b a len cap ts j dd sv' S W hPW (hE.below hb).tk hj (by omega))
 have HWS := Lib.hid (fun j (hj : j < len) => wT_sym (hE.hO j (by rw [hE.hH.ln]; exact hj)) (s := clsS) (by decide +kernel) (by decide +kernel))
 have HX := Lib.hid (fun j (hj : j < len) (h : ¬ (tkA ts j).1.k = 0) => hE.hH.next hj h)
 have CA := Lib.hid (fun t (ls : List (List Nd)) (ht : arN t = (ls.length : Int)) (h8 : ls.length ≤ 8) j dd sv' vs' W (hPW : Pq W b (.slice a len cap) j dd sv') (hSW : Sk W b (rs ++ ls.map (·.take 257)) sv' vs') => qapl_any t ls ht h8 b (.slice a len cap) j dd sv' rs vs' W hPW hSW (by omega))
 have PA := Lib.hid (fun t W => parity_any t W)
 unfold ndV at CA PA
 obtain ⟨s, hs⟩ : ∃ s, (tkA ts i).1.tx = s := ⟨_, rfl⟩
 rw [hs] at CW ⊢
 obtain ⟨R, hR⟩ : ∃ R, calT ts f s i d = R := ⟨_, rfl⟩
 rw [hR]
 unfold calT at hR
 have HPS := Lib.hid (And.intro hP hS)
 clear hP hS hE H hs hk
 cases h20 : eqS s dayS with
 | true =>
  rw [if_pos h20] at hR
  have CB1 := Lib.hid (CB.out s)
  rw [bltO_day h20] at CB1
  simp only [Option.map_some, Option.getD_some, Option.isSome_some] at CB1
  rw [hR] at CD
  clear CB CO CT HWS HX CA PA h20 hR
  go_enter Tryz.func163, Tryz.ntmps163
  go_wp2_with fail
  refine CW.out.mono ?_
  rintro e w1 ⟨rfl, hb1⟩
  have CB2 := Lib.hid (CB1.out w1 hb1)
  have HB1 := Lib.hid hb1
  clear hb1 CB1 CW
  go_wp2_with fail
  refine CB2.out.mono ?_
  rintro e w2 ⟨rfl, hb2⟩
  have hB2 := HB1.out.trans (hb2.mono HB1.out.size)
  have hP2 := HPS.out.1.below hB2 hbw
  have q1 := hP2.c1
  have qf := hP2.free
  have hP3 := Pq.inc1b hP2
  have hF3 := (Fb.below (sv := sv) (vs := vs) hB2 hbw).trans (Fb.set 1 (.int .i64 ((i : Int) + 2)) hP2.lt)
  have hS3 := (HPS.out.2.below hB2).keep (grown_set w2 b 1 (.int .i64 ((i : Int) + 2)))
  have CD3 := Lib.hid (CD.out _ hP3 hS3 hF3.bel)
  have HF3 := Lib.hid hF3
  clear hb2 hB2 hP2 hP3 hF3 hS3 CD HB1 CB2 HPS
  go_wp2_with fail
  refine CD3.out.mono ?_
  intro e w4 hr
  have hr2 := hr.from HF3.out
  obtain ⟨x, rfl⟩ := hr2.ret
  have F := Lib.hid hr2
  clear hr hr2 CD3 HF3 q1 qf
  go_wp2_with fail
  go_ret
  exact F.out
 | false =>
  rw [if_neg (by rw [h20]; simp)] at hR
  have CO1 := Lib.hid (CO.out s)
  rw [hR] at CO1
  have CB1 := Lib.hid (CB.out s)
  have HC := Lib.hid (fun n => bltO_call h20 n)
  rcases HC.out 0 with ⟨hb0, _⟩ | ⟨nm, op, hb0, hop, _⟩
  ·have HC2 : Hid (∀ n, callO s n = (⟨21, ⟨0, 0, ⟨#[]⟩⟩, s, n⟩, (n : Int))) := fun n => by
    rcases HC.out n with ⟨_, h⟩ | ⟨x, op, h, _⟩
    ·exact h
    ·rw [hb0] at h; cases h
   rw [hb0] at CB1
   simp only [Option.map_none, Option.getD_none, Option.isSome_none] at CB1
   clear CB CO CD HC hb0 h20 hR
   go_enter Tryz.func163, Tryz.ntmps163
   go_wp2_with fail
   refine CW.out.mono ?_
   rintro e w1 ⟨rfl, hb1⟩
   have CB2 := Lib.hid (CB1.out w1 hb1)
   have HB1 := Lib.hid hb1
   clear hb1 CB1 CW
   go_wp2_with fail
   refine CB2.out.mono ?_
   rintro e w2 ⟨rfl, hb2⟩
   have hB2 := HB1.out.trans (hb2.mono HB1.out.size)
   have hP2 := HPS.out.1.below hB2 hbw
   have q1 := hP2.c1
   have qf := hP2.free
   have hP3 := Pq.inc1b hP2
   have hF3 := (Fb.below (sv := sv) (vs := vs) hB2 hbw).trans (Fb.set 1 (.int .i64 ((i : Int) + 2)) hP2.lt)
   have hS3 := (HPS.out.2.below hB2).keep (grown_set w2 b 1 (.int .i64 ((i : Int) + 2)))
   have CD3 := Lib.hid (CO1.out _ hP3 hS3 hF3.bel)
   have HF3 := Lib.hid hF3
   clear hb2 hB2 hP2 hP3 hF3 hS3 CO1 HB1 CB2 HPS
   go_wp2_with fail
   refine CD3.out.mono ?_
   rintro e w4 ⟨j, dd, n, x, sv4, vs4, rfl, ⟨hj, hd3⟩, hP4, hF4, hc⟩
   have hFF := HF3.out.trans hF4
   rcases hc with ⟨rfl, rfl, ls, rfl, hls, hcl, hRR, hS4⟩ | ⟨hx, hdd, hRR⟩
   rotate_left
   ·have F := Lib.hid (QdP.err (rs := rs) hRR hx hj hdd hd3 hP4 hFF)
    clear CD3 HF3 hP4 hF4 hFF CT HWS HX CA PA HC2 q1 qf
    go_wp2_with fail
    go_ret
    exact F.out
   unfold finT at hRR
   rw [HC2.out] at hRR
   simp only at hRR
   have HP4 := Lib.hid hP4
   have HS4 := Lib.hid hS4
   have HFF := Lib.hid hFF
   have hbw4 := hP4.lt
   have PA1 := Lib.hid (PA.out ⟨21, ⟨0, 0, ⟨#[]⟩⟩, s, (ls.length : Int)⟩)
   simp only at PA1
   rw [arN_call] at PA1
   have hls8 : ls.length ≤ 100000 := by omega
   clear CD3 HF3 hP4 hF4 hFF hS4 q1 qf HC2 PA
   by_cases h8 : 8 < ls.length
   ·rw [if_pos (.inl h8)] at hRR
    have h8i : (8 : Int) < (ls.length : Int) := by omega
    clear CT HWS HX CA hcl
    go_wp2_with fail
    refine (PA1.out _).mono ?_
    rintro e w5 ⟨rfl, hb5⟩
    have hB5 := below_box hb5
    have F := Lib.hid (QdP.err (rs := rs) hRR (by decide : ¬ (3 : Int) = 0) hj (Nat.le_refl _) hd3 (HP4.out.below hB5 hbw4) (HFF.out.trans (Fb.below hB5 hbw4)))
    clear hb5 hB5 PA1 HP4 HS4 HFF
    go_wp2_with fail
    go_ret
    exact F.out
   ·rw [if_neg (by rintro (h | h); exact h8 h; exact h rfl)] at hRR
    have h8i : ¬ (8 : Int) < (ls.length : Int) := by omega
    have CA1 := Lib.hid (fun W hPW hSW => CA.out ⟨21, ⟨0, 0, ⟨#[]⟩⟩, s, (ls.length : Int)⟩ ls (arN_call s ls.length) (by omega) j dd sv4 vs4 W hPW hSW)
    simp only at CA1
    have hws := HWS.out j hj
    have hj1 := HX.out j hj (by rw [(symT_k hcl).1]; decide)
    rw [hcl] at hws
    clear HWS HX CA
    go_wp2_with fail
    refine (PA1.out _).mono ?_
    rintro e w5 ⟨rfl, hb5⟩
    obtain ⟨b0, b1, b2, b3, b4, b5⟩ := box6 hb5
    have hB5 := below_box hb5
    have CA5 := Lib.hid (CA1.out w5 (HP4.out.below hB5 hbw4) (HS4.out.below hB5))
    have HF5 := Lib.hid (HFF.out.trans (Fb.below hB5 hbw4))
    clear hb5 hB5 PA1 CA1 HP4 HS4 HFF
    go_wp2_with fail
    refine CA5.out.mono ?_
    rintro e w6 ⟨rfl, sv6, vs6, hP6, hS6, hF6⟩
    have hB6 := HF5.out.trans hF6
    have CT6 := Lib.hid (CT.out clsS j hj dd sv6 w6 hB6.bel hP6)
    rw [hws, if_pos rfl, if_pos rfl] at CT6
    have hbw6 := hP6.lt
    have HB6 := Lib.hid hB6
    have HS6 := Lib.hid hS6
    clear hP6 hS6 hF6 hB6 CA5 HF5 CT b0 b1 b2 b3 b4 b5 hws
    go_wp2_with fail
    refine CT6.out.mono ?_
    rintro e w7 ⟨rfl, hP7, hg7⟩
    have F := Lib.hid (QdP.done (rs := rs) hRR hj1 (by omega) hP7 (HS6.out.keep hg7) HB6.out (Fb.grown hg7 hbw6))
    clear hP7 hg7 CT6 HB6 HS6
    go_wp2_with fail
    go_ret
    exact F.out
  ·have HC2 : Hid (∀ n, callO s n = (opNd op, arN (opNd op))) := fun n => by
    rcases HC.out n with ⟨h, _⟩ | ⟨x, op', h, _, h'⟩
    ·rw [hb0] at h; cases h
    ·rw [hb0] at h; cases h; exact h'
   rw [hb0] at CB1
   simp only [Option.map_some, Option.getD_some, Option.isSome_some] at CB1
   have hopb : (op == 20) = false := by simpa using hop
   clear CB CO CD HC hb0 h20 hR
   go_enter Tryz.func163, Tryz.ntmps163
   go_wp2_with fail
   refine CW.out.mono ?_
   rintro e w1 ⟨rfl, hb1⟩
   have CB2 := Lib.hid (CB1.out w1 hb1)
   have HB1 := Lib.hid hb1
   clear hb1 CB1 CW
   go_wp2_with fail
   refine CB2.out.mono ?_
   rintro e w2 ⟨rfl, hb2⟩
   have hB2 := HB1.out.trans (hb2.mono HB1.out.size)
   have hP2 := HPS.out.1.below hB2 hbw
   have q1 := hP2.c1
   have qf := hP2.free
   have hP3 := Pq.inc1b hP2
   have hF3 := (Fb.below (sv := sv) (vs := vs) hB2 hbw).trans (Fb.set 1 (.int .i64 ((i : Int) + 2)) hP2.lt)
   have hS3 := (HPS.out.2.below hB2).keep (grown_set w2 b 1 (.int .i64 ((i : Int) + 2)))
   have CD3 := Lib.hid (CO1.out _ hP3 hS3 hF3.bel)
   have HF3 := Lib.hid hF3
   clear hb2 hB2 hP2 hP3 hF3 hS3 CO1 HB1 CB2 HPS
   go_wp2_with fail
   refine CD3.out.mono ?_
   rintro e w4 ⟨j, dd, n, x, sv4, vs4, rfl, ⟨hj, hd3⟩, hP4, hF4, hc⟩
   have hFF := HF3.out.trans hF4
   rcases hc with ⟨rfl, rfl, ls, rfl, hls, hcl, hRR, hS4⟩ | ⟨hx, hdd, hRR⟩
   rotate_left
   ·have F := Lib.hid (QdP.err (rs := rs) hRR hx hj hdd hd3 hP4 hFF)
    clear CD3 HF3 hP4 hF4 hFF CT HWS HX CA PA HC2 q1 qf
    go_wp2_with fail
    go_ret
    exact F.out
   unfold finT at hRR
   rw [HC2.out] at hRR
   simp only at hRR
   have HP4 := Lib.hid hP4
   have HS4 := Lib.hid hS4
   have HFF := Lib.hid hFF
   have hbw4 := hP4.lt
   have PA1 := Lib.hid (PA.out (opNd op))
   simp only at PA1
   obtain ⟨m, hmm⟩ : ∃ m, arN (opNd op) = m := ⟨_, rfl⟩
   rw [hmm] at PA1 hRR
   have HNEW := Lib.hid (heap_alloc_new w4 (.cells #[.int .i64 21, .int .i64 0, .int .i64 0, .string ⟨#[]⟩, .string s, .int .i64 (ls.length : Int)] 53))
   have hROW : ((w4.alloc (.cells #[.int .i64 21, .int .i64 0, .int .i64 0, .string ⟨#[]⟩, .string s, .int .i64 (ls.length : Int)] 53)).setRow w4.heap.size #[.int .i64 op, .int .i64 0, .int .i64 0, .string ⟨#[]⟩, .string ⟨#[]⟩, .int .i64 0]).heap[w4.heap.size]? = some (.cells #[.int .i64 op, .int .i64 0, .int .i64 0, .string ⟨#[]⟩, .string ⟨#[]⟩, .int .i64 0] 53 (0, 0)) := setRow_heap _ _ _ _ _ _ HNEW.out
   have hbel : Below w4.heap.size w4 ((w4.alloc (.cells #[.int .i64 21, .int .i64 0, .int .i64 0, .string ⟨#[]⟩, .string s, .int .i64 (ls.length : Int)] 53)).setRow w4.heap.size #[.int .i64 op, .int .i64 0, .int .i64 0, .string ⟨#[]⟩, .string ⟨#[]⟩, .int .i64 0]) := ((Below.refl _ _).alloc (Nat.le_refl _) _).grown (grown_setRow _ _ _) (by simp) (fun z hz => by cases hz; exact Nat.le_refl _)
   have hsz : w4.heap.size < ((w4.alloc (.cells #[.int .i64 21, .int .i64 0, .int .i64 0, .string ⟨#[]⟩, .string s, .int .i64 (ls.length : Int)] 53)).setRow w4.heap.size #[.int .i64 op, .int .i64 0, .int .i64 0, .string ⟨#[]⟩, .string ⟨#[]⟩, .int .i64 0]).heap.size := (Array.getElem?_eq_some_iff.1 hROW).1
   have HROW := Lib.hid hROW
   have HBEL := Lib.hid hbel
   have HSZ := Lib.hid hsz
   have hls8 : ls.length ≤ 100000 := by omega
   clear CD3 HF3 hP4 hF4 hFF hS4 q1 qf HC2 PA hop hROW hbel hsz
   obtain ⟨b0, b1, b2, b3, b4, b5⟩ := node_cells HROW.out
   have HB5 : Hid (∀ W6, Below ((w4.alloc (.cells #[.int .i64 21, .int .i64 0, .int .i64 0, .string ⟨#[]⟩, .string s, .int .i64 (ls.length : Int)] 53)).setRow w4.heap.size #[.int .i64 op, .int .i64 0, .int .i64 0, .string ⟨#[]⟩, .string ⟨#[]⟩, .int .i64 0]).heap.size ((w4.alloc (.cells #[.int .i64 21, .int .i64 0, .int .i64 0, .string ⟨#[]⟩, .string s, .int .i64 (ls.length : Int)] 53)).setRow w4.heap.size #[.int .i64 op, .int .i64 0, .int .i64 0, .string ⟨#[]⟩, .string ⟨#[]⟩, .int .i64 0]) W6 → Below w4.heap.size w4 W6 ∧ W6.cell? ⟨w4.heap.size, 0, none⟩ = some (.int .i64 op) ∧ W6.cell? ⟨w4.heap.size, 1, none⟩ = some (.int .i64 0) ∧ W6.cell? ⟨w4.heap.size, 2, none⟩ = some (.int .i64 0) ∧ W6.cell? ⟨w4.heap.size, 3, none⟩ = some (.string ⟨#[]⟩) ∧ W6.cell? ⟨w4.heap.size, 4, none⟩ = some (.string ⟨#[]⟩) ∧ W6.cell? ⟨w4.heap.size, 5, none⟩ = some (.int .i64 0)) := fun W6 h => by
    refine ⟨HBEL.out.trans (h.mono HBEL.out.size), ?_⟩
    refine node_cells ?_
    rw [h.block _ HSZ.out]
    exact HROW.out
   go_wp2_with (with_reducible refine wpList_store_row (o := Oper.mk none (Op.store 53 (.tmp 8) (.tmp 43)) _ _ _ none) rfl 53 (.tmp 8) (.tmp 43) rfl w4.heap.size #[.int .i64 op, .int .i64 0, .int .i64 0, .string ⟨#[]⟩, .string ⟨#[]⟩, .int .i64 0] ?gx ?gy 53 _ HNEW.out ?gi ?go ?g1 ?gk)
   case gx => rfl
   case gy => rfl
   case gi => kernel_rfl
   case go => rfl
   case g1 => simp [Value.oneCell']
   all_goals
    refine (PA1.out _).mono ?_
    rintro e w5 ⟨rfl, hb5⟩
    have HB6 := Lib.hid (HB5.out w5 hb5)
    clear hb5 PA1 HB5 HNEW HROW HBEL HSZ b0 b1 b2 b3 b4 b5
    by_cases hbad : 8 < ls.length ∨ m ≠ ls.length
    ·rw [if_pos hbad] at hRR
     clear CT HWS HX CA hcl
     have hcase : (¬ m = (ls.length : Int) ∧ ((ls.length : Int) == m) = false) ∨ (m = (ls.length : Int) ∧ (8 : Int) < (ls.length : Int)) := by
      by_cases h : m = (ls.length : Int)
      ·refine .inr ⟨h, ?_⟩
       rcases hbad with h' | h'
       ·omega
       ·exact absurd h h'
      ·exact .inl ⟨h, by simpa using fun h' => h h'.symm⟩
     clear hbad
     rcases hcase with ⟨hne, hneb⟩ | ⟨rfl, h8i⟩
     all_goals
      have hB5 := HB6.out.1
      have F := Lib.hid (QdP.err (rs := rs) hRR (by decide : ¬ (3 : Int) = 0) hj (Nat.le_refl _) hd3 (HP4.out.below hB5 hbw4) (HFF.out.trans (Fb.below hB5 hbw4)))
      clear hB5 HP4 HS4 HFF HB6
      go_wp2_with fail
      all_goals
       go_ret
       exact F.out
    ·rw [if_neg hbad] at hRR
     have h8i : ¬ (8 : Int) < (ls.length : Int) := fun h => hbad (.inl (by omega))
     have hml : m = (ls.length : Int) := by
      by_cases h : m = (ls.length : Int)
      ·exact h
      ·exact absurd (.inr h) hbad
     subst hml
     have CA1 := Lib.hid (fun W hPW hSW => CA.out (opNd op) ls hmm (by omega) j dd sv4 vs4 W hPW hSW)
     simp only at CA1
     have hws := HWS.out j hj
     have hj1 := HX.out j hj (by rw [(symT_k hcl).1]; decide)
     rw [hcl] at hws
     clear HWS HX CA hbad
     obtain ⟨hB5, d0, d1, d2, d3, d4, d5⟩ := HB6.out
     have CA5 := Lib.hid (CA1.out w5 (HP4.out.below hB5 hbw4) (HS4.out.below hB5))
     have HF5 := Lib.hid (HFF.out.trans (Fb.below hB5 hbw4))
     clear hB5 CA1 HP4 HS4 HFF HB6
     go_wp2_with fail
     refine CA5.out.mono ?_
     rintro e w6 ⟨rfl, sv6, vs6, hP6, hS6, hF6⟩
     have hB6 := HF5.out.trans hF6
     have CT6 := Lib.hid (CT.out clsS j hj dd sv6 w6 hB6.bel hP6)
     rw [hws, if_pos rfl, if_pos rfl] at CT6
     have hbw6 := hP6.lt
     have HB6 := Lib.hid hB6
     have HS6 := Lib.hid hS6
     clear hP6 hS6 hF6 hB6 CA5 HF5 CT d0 d1 d2 d3 d4 d5 hws
     go_wp2_with fail
     refine CT6.out.mono ?_
     rintro e w7 ⟨rfl, hP7, hg7⟩
     have F := Lib.hid (QdP.done (rs := rs) hRR hj1 (by omega) hP7 (HS6.out.keep hg7) HB6.out (Fb.grown hg7 hbw6))
     clear hP7 hg7 CT6 HB6 HS6
     go_wp2_with fail
     go_ret
     exact F.out
end Go.Proofs.YtmdpjahhhfajaaaGreatDoor
