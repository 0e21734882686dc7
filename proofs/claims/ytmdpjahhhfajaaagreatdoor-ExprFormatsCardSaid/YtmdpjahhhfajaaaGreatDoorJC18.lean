/-
  The program's parser: binary. · The program's parser: binary reads what is to be read; read.
-/
import Derived.Test.YtmdpjahhhfajaaaGreatDoorJC17
import Derived.BigQuiet
set_option linter.unusedVariables false
set_option linter.unusedSimpArgs false
set_option maxRecDepth 100000
namespace Wh
def sw2 (n k : Nat) : Nat := if k = n then n + 1 else if k = n + 1 then n else k
theorem sw2_inj {n k k' : Nat} (h : k ≠ k') : sw2 n k ≠ sw2 n k' := by
 unfold sw2
 repeat' split
 all_goals omega
theorem sw2_get {α : Type} {l : List α} {n : Nat} (hn : l.length = n) (x y : α) (k : Nat) : (l ++ [y, x])[k]? = (l ++ [x, y])[sw2 n k]? := by
 unfold sw2
 by_cases h1 : k = n
 ·rw [if_pos h1]
  subst h1
  subst hn
  rw [List.getElem?_append_right (Nat.le_refl _), List.getElem?_append_right (by omega)]
  simp
 rw [if_neg h1]
 by_cases h2 : k = n + 1
 ·rw [if_pos h2]
  subst h2
  subst hn
  rw [List.getElem?_append_right (by omega), List.getElem?_append_right (Nat.le_refl _)]
  simp
 rw [if_neg h2]
 by_cases h3 : k < n
 ·rw [List.getElem?_append_left (by omega), List.getElem?_append_left (by omega)]
 ·rw [List.getElem?_eq_none (by simp; omega), List.getElem?_eq_none (by simp; omega)]
end Wh
namespace Go.Proofs.YtmdpjahhhfajaaaGreatDoor
open Go.RowKit Wh
theorem Sk.swap {w : World} {b g n cap : Nat} {rs : List (List Nd)} {x y : List Nd} {u v : Value} {vs : List Value} (h : Sk w b (rs ++ [x, y]) (.slice (some ⟨g, 0, none⟩) (n + 2) cap) (vs ++ [u, v])) (hn : vs.length = n) (hbw : b < w.heap.size) :
  Sk ((w.setCell ⟨g, n, none⟩ v).setCell ⟨g, n + 1, none⟩ u) b (rs ++ [y, x]) (.slice (some ⟨g, 0, none⟩) (n + 2) cap) (vs ++ [v, u]) ∧
   Fb w b (.slice (some ⟨g, 0, none⟩) (n + 2) cap) (vs ++ [u, v]) ((w.setCell ⟨g, n, none⟩ v).setCell ⟨g, n + 1, none⟩ u) (.slice (some ⟨g, 0, none⟩) (n + 2) cap) (vs ++ [v, u]) ∧ w.grownBy ((w.setCell ⟨g, n, none⟩ v).setCell ⟨g, n + 1, none⟩ u) (some g) ∧ g ≠ b := by
 have hgb : g ≠ b := fun hc => h.nb (by rw [hc]; rfl)
 have hrn : rs.length = n := by have := h.len; simp at this; omega
 have hg : w.grownBy ((w.setCell ⟨g, n, none⟩ v).setCell ⟨g, n + 1, none⟩ u) (some g) := (grown_set w g n v).trans (grown_set _ g (n + 1) u)
 have hbg : b ≤ g := (h.own.lt g rfl).1
 have hl : (vs ++ [u, v]).length = n + 2 := by simp [hn]
 have hl2 : (vs ++ [v, u]).length = n + 2 := by simp [hn]
 have ho := h.own
 rw [hl] at ho
 have o1 := (ho.stored n v).1
 have o2 := (o1.stored (n + 1) u).1
 have e : ((vs ++ [u, v]).set n v).set (n + 1) u = vs ++ [v, u] := by
  subst hn
  rw [List.set_append_right _ _ (Nat.le_refl _), List.set_append_right _ _ (by omega)]
  simp
 rw [e] at o2
 refine ⟨⟨by simp [hn, hrn], by rw [hl2]; exact o2, h.nb, fun k a r ha hr => ?_, fun k a ha => ?_, fun k k' a a' hne ha ha' => ?_⟩, ⟨(Below.refl b w).grown hg (Nat.le_of_lt hbw) (fun z hz => by cases hz; exact hbg), fun k hk => ?_⟩, hg, hgb⟩
 ·rw [sw2_get hn] at ha
  rw [sw2_get hrn] at hr
  obtain ⟨h1, h2⟩ := h.row _ a r ha hr
  exact ⟨h1.kept hg (.inr (fun hc => (h.far _ a ha).2 g rfl hc)), h2⟩
 ·rw [sw2_get hn] at ha
  exact h.far _ a ha
 ·rw [sw2_get hn] at ha ha'
  exact h.apart _ _ a a' (sw2_inj hne) ha ha'
 ·obtain ⟨e1, o1⟩ := hk.grown hg (fun hc => hk.2.2.1 (by rw [← hc]; rfl))
  refine ⟨e1, o1.1, o1.2.1, o1.2.2.1, fun z hz => o1.2.2.2 z ?_⟩
  simp only [List.mem_append, List.mem_cons, List.not_mem_nil, or_false] at hz ⊢
  rcases hz with hz | hz | hz
  ·exact .inl hz
  ·exact .inr (.inr hz)
  ·exact .inr (.inl hz)
theorem Sk.last2 {w : World} {b : Nat} {rs : List (List Nd)} {x y : List Nd} {sv : Value} {vs : List Value} (h : Sk w b (rs ++ [x, y]) sv vs) :
  ∃ (g cap : Nat) (u v : Value) (vs0 : List Value), sv = .slice (some ⟨g, 0, none⟩) (rs.length + 2) cap ∧ vs = vs0 ++ [u, v] ∧ vs0.length = rs.length ∧ w.cell? ⟨g, rs.length, none⟩ = some u ∧ w.cell? ⟨g, rs.length + 1, none⟩ = some v ∧ (∀ j, w.frozen? ⟨g, j, none⟩ = false) ∧ b ≤ g ∧ g < w.heap.size ∧ g ≠ b ∧ (∃ a1 n1 c1, u = .slice a1 n1 c1) ∧ (∃ a2 n2 c2, v = .slice a2 n2 c2) := by
 have hl := h.len
 obtain ⟨a, cap, hsv, hc1, hc2, hn, hx⟩ := h.form
 have hrl : (rs ++ [x, y]).length = rs.length + 2 := by simp
 rw [hrl] at hsv hl hc1
 obtain ⟨p, rfl⟩ : ∃ p, a = some p := by
  cases a with
  | none => have := hn rfl; omega
  | some p => exact ⟨p, rfl⟩
 obtain ⟨g, rfl, hbg, hgl, hcell⟩ := hx _ rfl
 obtain ⟨u, hu⟩ : ∃ u, vs[rs.length]? = some u := ⟨_, List.getElem?_eq_getElem (by omega)⟩
 obtain ⟨v, hv⟩ : ∃ v, vs[rs.length + 1]? = some v := ⟨_, List.getElem?_eq_getElem (by omega)⟩
 have hvs : vs = vs.take rs.length ++ [u, v] := by
  have e1 : vs.drop rs.length = [u, v] := by
   have d1 : vs.drop rs.length = u :: vs.drop (rs.length + 1) := by
    obtain ⟨hk, rfl⟩ := List.getElem?_eq_some_iff.1 hu
    exact List.drop_eq_getElem_cons hk
   have d2 : vs.drop (rs.length + 1) = v :: vs.drop (rs.length + 1 + 1) := by
    obtain ⟨hk, rfl⟩ := List.getElem?_eq_some_iff.1 hv
    exact List.drop_eq_getElem_cons hk
   rw [d1, d2, List.drop_of_length_le (by omega)]
  rw [← e1, List.take_append_drop]
 have ho := h.own
 rw [hsv, hl] at ho
 refine ⟨g, cap, u, v, vs.take rs.length, hsv, hvs, by rw [List.length_take]; omega, hcell _ _ hu, hcell _ _ hv, fun j => ho.frozenAt j, hbg, hgl, fun hc => h.nb (by rw [hsv, hc]; rfl), ?_, ?_⟩
 ·obtain ⟨g1, c1, r1, h1, _⟩ := h.get (k := rs.length) (by simp)
  rw [hu] at h1
  exact ⟨_, _, _, Option.some.inj h1⟩
 ·obtain ⟨g1, c1, r1, h1, _⟩ := h.get (k := rs.length + 1) (by simp)
  rw [hv] at h1
  exact ⟨_, _, _, Option.some.inj h1⟩
theorem Sk.out {w w' : World} {b k : Nat} {rs : List (List Nd)} {sv : Value} {vs : List Value} (h : Sk w b rs sv vs) (hb : b < w.heap.size) (hk : w.heap.size ≤ k) (hk2 : k < w'.heap.size) : OutQ w' b sv vs k := by
 refine ⟨hk2, by omega, fun hc => ?_, fun v hv hc => ?_⟩
 ·have := (h.own.lt k hc).2
  omega
 ·obtain ⟨m, hm⟩ := List.getElem?_of_mem hv
  obtain ⟨q, hq⟩ : ∃ q, rs[m]? = some q := ⟨_, List.getElem?_eq_getElem (by rw [← h.len]; exact (List.getElem?_eq_some_iff.1 hm).1)⟩
  have := ((h.row m v q hm hq).1.lt k hc).2
  omega
def qM (b len : Nat) (w : World) : Nat :=
 match w.cell? ⟨b, 1, none⟩ with
 | some (.int _ j) => len + 1 - j.toNat
 | _ => 0
theorem qM_eq {w : World} {b : Nat} {sl sv : Value} {j d len : Nat} (h : Pq w b sl j d sv) : qM b len w = len + 1 - j := by
 unfold qM
 rw [h.c1]
 simp
theorem infL_ar : ∀ o ∈ infL, arN (opNd o.2.2.1) = 2 := by decide +kernel
theorem infW_mem {s : ByteArray} {l : Int} {o : ByteArray × Int × Int × Bool} (h : infW s l = some o) : o ∈ infL := List.mem_of_find?_eq_some h
theorem begL_next {lvl : Nat} {t u : TA} (hl : lvl + 1 ≤ 7) (h2 : ¬ lvl = 2) (h : begL lvl t u = false) : begL (lvl + 1) t u = false := by
 unfold begL at h ⊢
 have a7 : lvl ≤ 7 := by omega
 by_cases a2 : lvl ≤ 1
 ·have a2' : lvl ≤ 2 := by omega
  have b2 : lvl + 1 ≤ 2 := by omega
  simpa [a2', b2, a7, hl] using h
 ·have a2' : ¬ lvl ≤ 2 := by omega
  have b2 : ¬ lvl + 1 ≤ 2 := by omega
  simpa [a2', b2, a7, hl] using h
structure BinQ (ts : List TA) (len f lvl d : Nat) (LQ : List Nd → Nat → Prop) (R : PO) : Prop where
 stop : ∀ l j, LQ l j → infW (wT (tkA ts j)) lvl = none → R = .ok l j
 more : ∀ l j o, LQ l j → infW (wT (tkA ts j)) lvl = some o → j < len → j + 1 < len ∧ d ≤ 256 ∧ 9 * (len - (j + 1)) + (8 - (lvl + 1)) < f
 bad : ∀ l j o c j2, LQ l j → infW (wT (tkA ts j)) lvl = some o → prT ts f (lvl + 1) (j + 1) d = .bad c j2 → R = .bad c j2
 cmp : ∀ l j o l2 j2, LQ l j → infW (wT (tkA ts j)) lvl = some o → lvl = 3 → prT ts f (lvl + 1) (j + 1) d = .ok l2 j2 → R = .ok ((if o.2.2.2 = true then l2 ++ l else l ++ l2) ++ [opNd o.2.2.1]) j2
 step : ∀ l j o l2 j2, LQ l j → infW (wT (tkA ts j)) lvl = some o → ¬ lvl = 3 → j < len → prT ts f (lvl + 1) (j + 1) d = .ok l2 j2 → o.2.2.2 = false ∧ j < j2 ∧ LQ (l ++ l2 ++ [opNd o.2.2.1]) j2
 far : ∀ l j, LQ l j → j + 1 ≤ len → True
set_option maxHeartbeats 8000000 in
theorem qbin_loop {ts : List TA} {a : Option Addr} {len cap f : Nat} (H : ReadsQ ts a len cap f) (lvl : Nat) (hlv : lvl ≤ 6) (LQ : List Nd → Nat → Prop) (i d b : Nat) (sv : Value) (rs : List (List Nd)) (vs : List Value) (w : World) (R : PO) (hQ : BinQ ts len f lvl d LQ R) (hP : Pq w b (.slice a len cap) i d sv) (hS : Sk w b rs sv vs) (hE : EnvQ w b a len ts) (hi : i < len) (hrs : rs.length ≤ i) (hm : 9 * (len - i) + (8 - lvl) < f + 1) (hd : d ≤ 257) (hd8 : 256 < d → begL (lvl + 1) (tkA ts i) (tkA ts (i + 1)) = false)
  (h0b : ∀ c j, prT ts f (lvl + 1) i d = .bad c j → R = .bad c j) (h0 : ∀ l j, prT ts f (lvl + 1) i d = .ok l j → i < j ∧ LQ l j) :
  Calls Tryz.prog 53 #[ptr b, .int .i64 lvl] w (QdP w b (.slice a len cap) len d rs sv vs R) := by
 have hbw := hP.lt
 have hlen8 : len ≤ 100000 := hE.hH.le
 have e1 : ((lvl + 1 : Nat) : Int) = (lvl : Int) + 1 := by omega
 have C0 := Lib.hid (H (lvl + 1) i d b sv rs vs w (by omega) hP hS hE hi hrs (by omega) hd hd8)
 rw [e1] at C0
 have HW := Lib.hid (fun j (hj : j < len) dd sv' W (hb : Below b w W) (hPW : Pq W b (.slice a len cap) j dd sv') => qword_any b a len cap ts j dd sv' W hPW (hE.below hb).tk hj (by omega))
 have HI := Lib.hid (fun s W (hb : Below b w W) => infixOfWord_any s lvl W (hE.below hb).ti)
 have HR := Lib.hid (fun j (hj : j < len) (hr : rs.length + 1 ≤ j) sv' (l : List Nd) vs' W (hb : Below b w W) (hPW : Pq W b (.slice a len cap) j d sv') (hSW : Sk W b (rs ++ [l.take 257]) sv' vs') (hm2 : 9 * (len - j) + (8 - (lvl + 1)) < f) (hd2 : d ≤ 256) => H (lvl + 1) j d b sv' (rs ++ [l.take 257]) vs' W (by omega) hPW hSW (hE.below hb) hj (by simp; omega) hm2 hd (fun h => by omega))
 rw [e1] at HR
 have CA := Lib.hid (fun (o : ByteArray × Int × Int × Bool) (ho : o ∈ infL) (x y : List Nd) j sv' vs' W (hPW : Pq W b (.slice a len cap) j d sv') (hSW : Sk W b (rs ++ [x.take 257, y.take 257]) sv' vs') => qapl_any (opNd o.2.2.1) [x, y] (infL_ar o ho) (by simp) b (.slice a len cap) j d sv' rs vs' W hPW hSW (by omega))
 have HQ := Lib.hid hQ
 have H0 := Lib.hid (And.intro h0b h0)
 clear hP hS hE H hQ h0b h0 hd8
 unfold ndV at CA
 simp only at CA
 go_enter Tryz.func53, Tryz.ntmps53
 go_wp2_with fail
 refine C0.out.mono ?_
 rintro e w1 ⟨j, dd, x, sv1, vs1, rfl, hjd, hP1, hb1, hc⟩
 rcases hc with ⟨rfl, rfl, l, hl, hS1⟩ | ⟨hx, hdd, hl⟩
 rotate_left
 ·have F := Lib.hid (QdP.err (rs := rs) (H0.out.1 _ _ hl) hx hjd.1 hdd hjd.2 hP1 hb1)
  clear C0 HW HI HR CA HQ H0 hP1 hb1 hl
  go_wp2_with fail
  go_ret
  exact F.out
 obtain ⟨hij, hLQ⟩ := H0.out.2 l j hl
 have HS1 := Lib.hid hS1
 have HP1 := Lib.hid hP1
 have HB1 := Lib.hid hb1
 have HLQ := Lib.hid hLQ
 clear C0 hP1 hb1 hS1 H0 hLQ hl
 go_wp2_with fail
 go_loopw [] (fun wr => ∃ (j : Nat) (l : List Nd) (svr : Value) (vsr : List Value), Hid (i < j ∧ j < len ∧ LQ l j ∧ Pq wr b (.slice a len cap) j dd svr ∧ Sk wr b (rs ++ [l.take 257]) svr vsr ∧ Fb w b sv vs wr svr vsr)) (fun wr => qM b len wr)
 case atStart => exact ⟨j, l, sv1, vs1, hij, hjd.1, HLQ.out, HP1.out, HS1.out, HB1.out⟩
 case round =>
  obtain ⟨j, l, svr, vsr, HX⟩ := hrel
  obtain ⟨hij, hjl, hLQ, hPr, hSr, hFr⟩ := HX.out
  have hbr := hPr.lt
  have CW := Lib.hid (HW.out j hjl dd svr wr hFr.bel hPr)
  have HI1 := Lib.hid (fun W (hb : Below wr.heap.size wr W) => HI.out (wT (tkA ts j)) W (hFr.bel.trans (hb.mono (Nat.le_of_lt hbr))))
  have HLQ := Lib.hid hLQ
  have HPr := Lib.hid hPr
  have HSr := Lib.hid hSr
  have HFr := Lib.hid hFr
  obtain ⟨O, hO⟩ : ∃ O, infW (wT (tkA ts j)) lvl = O := ⟨_, rfl⟩
  rw [hO] at HI1
  have hmeas := qM_eq (len := len) hPr
  have HM := Lib.hid hmeas
  clear HX hLQ hPr hSr hFr HI HW hmeas
  generalize wT (tkA ts j) = s at CW HI1
  cases O with
  | none =>
   have FIN := Lib.hid (fun W (hb : Below wr.heap.size wr W) => QdP.done (rs := rs) (HQ.out.stop l j HLQ.out hO) hjl (by omega) (HPr.out.below hb hbr) (HSr.out.below hb) HFr.out (Fb.below hb hbr))
   unfold infV at HI1
   simp only at HI1
   clear HR CA HQ HLQ HPr HSr HFr hO HS1 HP1 HB1 HM
   go_wp2_with fail
   refine CW.out.mono ?_
   rintro e w2 ⟨rfl, hb2⟩
   have HI2 := Lib.hid (HI1.out w2 hb2)
   have HB2 := Lib.hid hb2
   clear hb2 HI1 CW
   go_wp2_with fail
   refine HI2.out.mono ?_
   rintro e w3 ⟨rfl, hb3⟩
   have hB3 := HB2.out.trans (hb3.mono HB2.out.size)
   have F := Lib.hid (FIN.out _ (hB3.alloc hB3.size (.cells #[.string ⟨#[]⟩, .int .i64 0, .int .i64 0, .bool false] 109)))
   clear hb3 hB3 HB2 HI2 FIN
   go_wp2_with fail
   go_ret
   exact F.out
  | some o =>
   obtain ⟨hj1, hd2, hm1⟩ := HQ.out.more l j o HLQ.out hO hjl
   have hom := infW_mem hO
   have hQb := Lib.hid (fun c j2 => HQ.out.bad l j o c j2 HLQ.out hO)
   have hQc := Lib.hid (fun l2 j2 => HQ.out.cmp l j o l2 j2 HLQ.out hO)
   have hQs := Lib.hid (fun l2 j2 h3 => HQ.out.step l j o l2 j2 HLQ.out hO h3 hjl)
   have CA1 := Lib.hid (CA.out o hom)
   clear HQ hO CA hom HLQ HS1 HP1 HB1
   obtain ⟨on, ol, oo, osw⟩ := o
   unfold infV at HI1
   simp only at HI1 hQb hQc hQs CA1
   go_wp2_with fail
   refine CW.out.mono ?_
   rintro e w2 ⟨rfl, hb2⟩
   have HI2 := Lib.hid (HI1.out w2 hb2)
   have HB2 := Lib.hid hb2
   clear hb2 HI1 CW
   go_wp2_with fail
   refine HI2.out.mono ?_
   rintro e w3 ⟨rfl, hb3⟩
   have hB3 := HB2.out.trans (hb3.mono HB2.out.size)
   have hP3 := HPr.out.below hB3 hbr
   have hP4 := hP3.alloc (.cells #[.string on, .int .i64 ol, .int .i64 oo, .bool osw] 109)
   have q1 := hP4.c1
   have qf := hP4.free
   have hbw3 := hP3.lt
   have hbw4 := hP4.lt
   have hB4 := hB3.alloc hB3.size (.cells #[.string on, .int .i64 ol, .int .i64 oo, .bool osw] 109)
   have hS3 := HSr.out.below hB3
   have hg5 := grown_set w3 b 1 (.int .i64 ((j : Int) + 1))
   have hP5 := (Pq.inc1 hP3).alloc (.cells #[.string on, .int .i64 ol, .int .i64 oo, .bool osw] 109)
   have hb5 : Below (w3.setCell ⟨b, 1, none⟩ (.int .i64 ((j : Int) + 1))).heap.size (w3.setCell ⟨b, 1, none⟩ (.int .i64 ((j : Int) + 1))) ((w3.setCell ⟨b, 1, none⟩ (.int .i64 ((j : Int) + 1))).alloc (.cells #[.string on, .int .i64 ol, .int .i64 oo, .bool osw] 109)) := (Below.refl _ _).alloc (Nat.le_refl _) _
   have hS5 := (hS3.keep hg5).below hb5
   have hF5 := ((HFr.out.trans (Fb.below hB3 hbr)).trans (Fb.grown (sv := svr) (vs := vsr) hg5 hbw3)).trans (Fb.below hb5 (by rw [size_setC]; exact hbw3))
   have hO5 : OutQ ((w3.setCell ⟨b, 1, none⟩ (.int .i64 ((j : Int) + 1))).alloc (.cells #[.string on, .int .i64 ol, .int .i64 oo, .bool osw] 109)) b svr vsr w3.heap.size := hS3.out hbw3 (Nat.le_refl _) (by simp [World.setCell])
   have hX5 := Box4.new (w3.setCell ⟨b, 1, none⟩ (.int .i64 ((j : Int) + 1))) (.string on) (.int .i64 ol) (.int .i64 oo) (.bool osw) 109
   rw [size_setC] at hX5
   have CR := Lib.hid (HR.out (j + 1) hj1 (by omega) svr l vsr _ hF5.bel hP5 hS5 hm1 hd2)
   have HF5 := Lib.hid hF5
   have HO5 := Lib.hid hO5
   have HX5 := Lib.hid hX5
   clear hb3 hB3 hP3 hP4 hB4 hS3 hg5 hP5 hb5 hS5 hF5 hO5 hX5 HB2 HI2 HR HPr HSr HFr
   go_wp2_with fail
   refine CR.out.mono ?_
   rintro e w6 ⟨j2, dd2, x, sv6, vs6, rfl, hjd2, hP6, hF6, hc⟩
   rcases hc with ⟨rfl, rfl, l2, hl2, hS6⟩ | ⟨hx, hdd, hl2⟩
   rotate_left
   ·have F := Lib.hid (QdP.err (rs := rs) (hQb.out _ _ hl2) hx hjd2.1 hdd hjd2.2 hP6 (HF5.out.trans hF6))
    clear CR hQb hQc hQs CA1 HF5 HO5 HX5 hP6 hF6 hl2 q1 qf
    go_wp2_with fail
    go_ret
    exact F.out
   have hX6 : Box4 w6 w3.heap.size (.string on) (.int .i64 ol) (.int .i64 oo) (.bool osw) 109 := ⟨((hF6.fr _ HO5.out).1).trans HX5.out.block⟩
   have x2 := hX6.c2
   have x3 := hX6.c3
   have hw6 := hX6.lt
   have hS6b : Sk w6 b (rs ++ [l.take 257, l2.take 257]) sv6 vs6 := by simpa using hS6
   have HF6 := Lib.hid (HF5.out.trans hF6)
   have HO6 := Lib.hid (hF6.fr _ HO5.out).2
   have HX6 := Lib.hid hX6
   have HP6 := Lib.hid hP6
   have HS6 := Lib.hid hS6b
   have HL2 := Lib.hid hl2
   clear CR hF6 hX6 hP6 hS6 hS6b HF5 HO5 HX5 hl2 q1 qf hQb
   cases osw with
   | false =>
    have CA2 := Lib.hid (CA1.out l l2 j2 sv6 vs6 w6 HP6.out HS6.out)
    clear CA1 HX6
    go_wp2_with fail
    refine CA2.out.mono ?_
    rintro e w7 ⟨rfl, sv7, vs7, hP7, hS7, hF7⟩
    have HP7 := Lib.hid hP7
    have HS7 := Lib.hid hS7
    have HF7 := Lib.hid (HF6.out.trans hF7)
    clear CA2 hP7 hS7 hF7 x2 x3 HF6 HO6 HP6 HS6
    by_cases hl3 : lvl = 3
    ·subst hl3
     have F := Lib.hid (QdP.done (rs := rs) (hQc.out l2 j2 rfl HL2.out) hjd2.1 (by omega) HP7.out (by simpa using HS7.out) HF7.out (Fb.below (Below.refl _ _) HP7.out.lt))
     clear hQc hQs HP7 HS7 HF7 HL2 HM
     go_wp2_with fail
     go_ret
     exact F.out
    ·have hl3i : ((lvl : Int) == 3) = false := by simpa using (by omega : ¬ (lvl : Int) = 3)
     obtain ⟨_, hjj, hLQ2⟩ := hQs.out l2 j2 hl3 HL2.out
     have HR2 : Hid (i < j2 ∧ j2 < len ∧ LQ (l ++ l2 ++ [opNd oo]) j2 ∧ Pq w7 b (.slice a len cap) j2 dd2 sv7 ∧ Sk w7 b (rs ++ [(l ++ l2 ++ [opNd oo]).take 257]) sv7 vs7 ∧ Fb w b sv vs w7 sv7 vs7) := ⟨by omega, hjd2.1, hLQ2, HP7.out, by simpa using HS7.out, HF7.out⟩
     have HM2 := Lib.hid (qM_eq (len := len) HP7.out)
     clear hQc hQs HP7 HS7 HF7 HL2 hLQ2
     go_wp2_with fail
     go_roundw
     case rel => exact ⟨j2, _, sv7, vs7, HR2⟩
     case measure =>
      rw [HM.out, HM2.out]
      omega
   | true =>
    have hl3 : lvl = 3 := by
     by_cases h : lvl = 3
     ·exact h
     ·have := (hQs.out l2 j2 h HL2.out).1
      cases this
    subst hl3
    obtain ⟨g, sc, u, v, vs0, rfl, rfl, hv0, hcu, hcv, hfz, hbg, hgl, hgb, ⟨a1, n1, c1, rfl⟩, ⟨a2, n2, c2, rfl⟩⟩ := HS6.out.last2
    have FIN := Lib.hid (fun W0 (hW0 : Below w6.heap.size w6 W0) => show (((W0.setCell ⟨g, rs.length, none⟩ (.slice a2 n2 c2)).setCell ⟨g, rs.length + 1, none⟩ (.slice a1 n1 c1)).cell? ⟨w3.heap.size, 2, none⟩ = some (.int .i64 oo)) ∧ (Pq ((W0.setCell ⟨g, rs.length, none⟩ (.slice a2 n2 c2)).setCell ⟨g, rs.length + 1, none⟩ (.slice a1 n1 c1)) b (.slice a len cap) j2 dd2 (.slice (some ⟨g, 0, none⟩) (rs.length + 2) sc)) ∧ Sk ((W0.setCell ⟨g, rs.length, none⟩ (.slice a2 n2 c2)).setCell ⟨g, rs.length + 1, none⟩ (.slice a1 n1 c1)) b (rs ++ [l2.take 257, l.take 257]) (.slice (some ⟨g, 0, none⟩) (rs.length + 2) sc) (vs0 ++ [.slice a2 n2 c2, .slice a1 n1 c1]) ∧ Fb w b sv vs ((W0.setCell ⟨g, rs.length, none⟩ (.slice a2 n2 c2)).setCell ⟨g, rs.length + 1, none⟩ (.slice a1 n1 c1)) (.slice (some ⟨g, 0, none⟩) (rs.length + 2) sc) (vs0 ++ [.slice a2 n2 c2, .slice a1 n1 c1]) from by
     have hP0 := HP6.out.below hW0 HP6.out.lt
     obtain ⟨hSs, hFs, hgs, _⟩ := (HS6.out.below hW0).swap hv0 hP0.lt
     have hO0 := HO6.out.below hW0
     have hX7 : Box4 ((W0.setCell ⟨g, rs.length, none⟩ (.slice a2 n2 c2)).setCell ⟨g, rs.length + 1, none⟩ (.slice a1 n1 c1)) w3.heap.size (.string on) (.int .i64 ol) (.int .i64 oo) (.bool true) 109 := ⟨((hFs.fr _ hO0.2).1).trans (hO0.1.trans HX6.out.block)⟩
     exact ⟨hX7.c2, Pq.kept hP0 hgs (fun hc => hgb (Option.some.inj hc).symm), hSs, (HF6.out.trans (Fb.below hW0 HP6.out.lt)).trans hFs⟩)
    have p3 := HP6.out.c3
    have r3 := (Pq.kept HP6.out (grown_set w6 g rs.length (.slice a2 n2 c2)) (fun hc => hgb (Option.some.inj hc).symm)).c3
    have hQ7 := Lib.hid (hQc.out l2 j2 rfl HL2.out)
    have CA2 := Lib.hid (CA1.out l2 l j2)
    have hnm : (rs.length : Int) < ((rs.length + 2 : Nat) : Int) := by omega
    have hqm : ((rs.length + 1 : Nat) : Int) < ((rs.length + 2 : Nat) : Int) := by omega
    have hn2 : (((rs.length + 2 : Nat) : Int)) - 2 = (rs.length : Int) := by omega
    have hn1 : (((rs.length + 2 : Nat) : Int)) - 1 = ((rs.length + 1 : Nat) : Int) := by omega
    have hfu := hfz rs.length
    have hfv := hfz (rs.length + 1)
    clear hQc hQs CA1 HF6 HO6 HX6 HP6 HS6 HL2 hfz HM
    have hrs8 : rs.length ≤ 100000 := by omega
    generalize rs.length = n at *
    obtain ⟨q, hq⟩ : ∃ q, n + 1 = q := ⟨_, rfl⟩
    obtain ⟨m, hm9⟩ : ∃ m, n + 2 = m := ⟨_, rfl⟩
    rw [hq] at hqm hn1 hfv hcv FIN
    rw [hm9] at hqm hn1 hnm hn2 p3 r3 FIN
    clear hv0
    go_wp2_with fail
    go_quiet (fail)
    go_wp2_with fail
    go_region
    all_goals
     obtain ⟨y2, hP7, hS7, hF7⟩ := FIN.out (w6.drewN (nq + 1)) (Below.drewN' (Below.refl _ _) _)
     generalize ((w6.drewN (nq + 1)).setCell ⟨g, n, none⟩ (.slice a2 n2 c2)).setCell ⟨g, q, none⟩ (.slice a1 n1 c1) = w7 at *
     have CA3 := Lib.hid (CA2.out _ _ w7 hP7 hS7)
     have HF7 := Lib.hid hF7
     clear hP7 hS7 hF7 CA2 FIN p3 r3 hcu hcv hfu hfv x2 x3
     go_wp2_with fail
     refine CA3.out.mono ?_
     rintro e w8 ⟨rfl, sv8, vs8, hP8, hS8, hF8⟩
     have F := Lib.hid (QdP.done (rs := rs) hQ7.out hjd2.1 (by omega) hP8 (by simpa using hS8) HF7.out hF8)
     clear CA3 hP8 hS8 hF8 HF7
     go_wp2_with fail
     go_ret
     exact F.out
end Go.Proofs.YtmdpjahhhfajaaaGreatDoor
namespace Go.Proofs.YtmdpjahhhfajaaaGreatDoor
open Go.RowKit Wh
theorem prT_bin {ts : List TA} {f lvl i d : Nat} (h : lvl = 0 ∨ lvl = 1 ∨ lvl = 4 ∨ lvl = 5 ∨ lvl = 6) : prT ts (f + 1) lvl i d = seqP (prT ts f (lvl + 1) i d) fun e j => lpT ts (fun k => prT ts f (lvl + 1) k d) lvl ts.length e j := by
 rcases h with rfl | rfl | rfl | rfl | rfl <;> (rw [prT]; rfl)
theorem prT_cmp {ts : List TA} {f i d : Nat} : prT ts (f + 1) 3 i d = seqP (prT ts f 4 i d) fun e j => match cmpO (tkA ts j) with | none => .ok e j | some (op, sw) => seqP (prT ts f 4 (j + 1) d) fun e2 j2 => .ok ((if sw = true then e2 ++ e else e ++ e2) ++ [opNd op]) j2 := by
 rw [prT, if_neg (by decide), if_pos rfl]
 rfl
theorem qbinary_any {ts : List TA} {a : Option Addr} {len cap f : Nat} (H : ReadsQ ts a len cap f) (lvl : Nat) (hlv : lvl ≤ 6) (h2 : ¬ lvl = 2) (i d b : Nat) (sv : Value) (rs : List (List Nd)) (vs : List Value) (w : World) (hP : Pq w b (.slice a len cap) i d sv) (hS : Sk w b rs sv vs) (hE : EnvQ w b a len ts) (hi : i < len) (hrs : rs.length ≤ i) (hm : 9 * (len - i) + (8 - lvl) < f + 1) (hd : d ≤ 257) (hd8 : 256 < d → begL lvl (tkA ts i) (tkA ts (i + 1)) = false) :
  Calls Tryz.prog 53 #[ptr b, .int .i64 lvl] w (QdP w b (.slice a len cap) len d rs sv vs (prT ts (f + 1) lvl i d)) := by
 have hel := hE.hH.el
 have hln := hE.hH.ln
 have gd : ∀ k, k < len → 9 * (len - k) + (8 - (lvl + 1)) < f → Gd ts k (lvl + 1 ≤ 7 → d ≤ 256) (prT ts f (lvl + 1) k d) := fun k hk hm2 => pr_gd hel f (lvl + 1) k d (by omega) (by rw [hln]; exact hk) (by rw [hln]; exact hm2) (At8.no (by omega))
 have next := fun k (hk : k < len) (h : ¬ (tkA ts k).1.k = 0) => hE.hH.next hk h
 have okt : ∀ k, k < len → OkT1 (tkA ts k) := fun k hk => hE.hO k (by rw [hln]; exact hk)
 have hd9 : 256 < d → begL (lvl + 1) (tkA ts i) (tkA ts (i + 1)) = false := fun h => begL_next (by omega) h2 (hd8 h)
 by_cases h3 : lvl = 3
 ·subst h3
  rw [prT_cmp]
  refine qbin_loop H 3 hlv (fun l j => (match cmpO (tkA ts j) with | none => PO.ok l j | some (op, sw) => seqP (prT ts f 4 (j + 1) d) fun e2 j2 => .ok ((if sw = true then e2 ++ l else l ++ e2) ++ [opNd op]) j2) = (seqP (prT ts f 4 i d) fun e j => match cmpO (tkA ts j) with | none => .ok e j | some (op, sw) => seqP (prT ts f 4 (j + 1) d) fun e2 j2 => .ok ((if sw = true then e2 ++ e else e ++ e2) ++ [opNd op]) j2) ∧ i < j ∧ j < len ∧ d ≤ 256) i d b sv rs vs w _ ?_ hP hS hE hi hrs hm hd hd9 ?_ ?_
  ·constructor
   ·intro l j hL hO
    have hc := infW_cmp (okt j hL.2.2.1)
    have hO2 : infW (wT (tkA ts j)) 3 = none := hO
    rw [hO2] at hc
    have hc2 : cmpO (tkA ts j) = none := hc.symm
    have := hL.1
    rw [hc2] at this
    exact this.symm
   ·intro l j o hL hO hj
    have hc := infW_cmp (okt j hL.2.2.1)
    have hO2 : infW (wT (tkA ts j)) 3 = some o := hO
    rw [hO2] at hc
    have h1 := next j hj (cmpO_k hc.symm)
    exact ⟨h1, hL.2.2.2, by omega⟩
   ·intro l j o c j2 hL hO hb
    have hc := infW_cmp (okt j hL.2.2.1)
    have hO2 : infW (wT (tkA ts j)) 3 = some o := hO
    rw [hO2] at hc
    have hc2 : cmpO (tkA ts j) = some (o.2.2.1, o.2.2.2) := hc.symm
    have := hL.1
    rw [hc2] at this
    simp only at this
    rw [hb] at this
    exact this.symm
   ·intro l j o l2 j2 hL hO _ hb
    have hc := infW_cmp (okt j hL.2.2.1)
    have hO2 : infW (wT (tkA ts j)) 3 = some o := hO
    rw [hO2] at hc
    have hc2 : cmpO (tkA ts j) = some (o.2.2.1, o.2.2.2) := hc.symm
    have := hL.1
    rw [hc2] at this
    simp only at this
    rw [hb] at this
    exact this.symm
   ·intro l j o l2 j2 hL hO h3
    exact absurd rfl h3
   ·intro l j _ _
    trivial
  ·intro c j hb
   have hb2 : prT ts f 4 i d = .bad c j := hb
   rw [hb2]
   rfl
  ·intro l j hb
   have hb2 : prT ts f 4 i d = .ok l j := hb
   have hg := gd i hi (by omega)
   rw [hb] at hg
   refine ⟨hg.1, ?_, hg.1, by have := hg.2.1; omega, hg.2.2.2.2 (by omega)⟩
   rw [hb2]
   rfl
 ·have hl5 : lvl = 0 ∨ lvl = 1 ∨ lvl = 4 ∨ lvl = 5 ∨ lvl = 6 := by omega
  rw [prT_bin hl5]
  refine qbin_loop H lvl hlv (fun l j => (∃ g, len ≤ j + g ∧ lpT ts (fun k => prT ts f (lvl + 1) k d) lvl g l j = (seqP (prT ts f (lvl + 1) i d) fun e j => lpT ts (fun k => prT ts f (lvl + 1) k d) lvl ts.length e j)) ∧ i < j ∧ j < len ∧ d ≤ 256) i d b sv rs vs w _ ?_ hP hS hE hi hrs hm hd hd9 ?_ ?_
  ·have bin : ∀ j, j < len → ∀ o, infW (wT (tkA ts j)) lvl = some o → binO lvl (tkA ts j) = some o.2.2.1 ∧ o.2.2.2 = false := by
    intro j hj o hO
    have hc := infW_bin (okt j hj) hl5
    rw [hO] at hc
    cases hb : binO lvl (tkA ts j) with
    | none => rw [hb] at hc; cases hc
    | some op =>
     rw [hb] at hc
     simp only [Option.map_some, Option.some.injEq, Prod.mk.injEq] at hc
     exact ⟨by rw [hc.1], hc.2⟩
   have pos : ∀ {l : List Nd} {j g : Nat} {R : PO}, j < len → len ≤ j + g → lpT ts (fun k => prT ts f (lvl + 1) k d) lvl g l j = R → ∃ g', g = g' + 1 := fun {l j g R} hj hg _ => ⟨g - 1, by omega⟩
   constructor
   ·rintro l j ⟨⟨g, hg, hL⟩, _, hj, _⟩ hO
    obtain ⟨g, rfl⟩ := pos hj hg hL
    have hc := infW_bin (okt j hj) hl5
    rw [hO] at hc
    have hb : binO lvl (tkA ts j) = none := by
     cases hb : binO lvl (tkA ts j) with
     | none => rfl
     | some op => rw [hb] at hc; cases hc
    rw [lpT, hb] at hL
    exact hL.symm
   ·rintro l j o ⟨_, h1, h2, h3⟩ hO hj
    exact ⟨next j hj (binO_k (bin j hj o hO).1), h3, by omega⟩
   ·rintro l j o c j2 ⟨⟨g, hg, hL⟩, _, hj, _⟩ hO hb
    obtain ⟨g, rfl⟩ := pos hj hg hL
    rw [lpT, (bin j hj o hO).1] at hL
    simp only at hL
    rw [hb] at hL
    exact hL.symm
   ·rintro l j o l2 j2 _ _ h3'
    exact absurd h3' h3
   ·rintro l j o l2 j2 ⟨⟨g, hg, hL⟩, hij, hj, hdd⟩ hO _ _ hb
    obtain ⟨g, rfl⟩ := pos hj hg hL
    obtain ⟨b1, b2⟩ := bin j hj o hO
    have hj1 := next j hj (binO_k b1)
    rw [lpT, b1] at hL
    simp only at hL
    rw [hb] at hL
    have hgd := gd (j + 1) hj1 (by omega)
    rw [hb] at hgd
    obtain ⟨g1, g2, _⟩ := hgd
    exact ⟨b2, by omega, ⟨g, by omega, hL⟩, by omega, by omega, hdd⟩
   ·intro l j _ _
    trivial
  ·intro c j hb
   rw [hb]
   rfl
  ·intro l j hb
   have hg := gd i hi (by omega)
   rw [hb] at hg
   refine ⟨hg.1, ⟨ts.length, by omega, ?_⟩, hg.1, by have := hg.2.1; omega, hg.2.2.2.2 (by omega)⟩
   rw [hb]
   rfl
set_option maxHeartbeats 4000000 in
theorem qread_step {ts : List TA} {a : Option Addr} {len cap f : Nat} (H : ReadsQ ts a len cap f) (HQ : PrimQ ts a len cap f) : ReadsQ ts a len cap (f + 1) := by
 intro lvl i d b sv rs vs w hl hP hS hE hi hrs hm hd hd8
 obtain ⟨R, hR⟩ : ∃ R, prT ts (f + 1) lvl i d = R := ⟨_, rfl⟩
 have ret : ∀ F args, Calls Tryz.prog F args w (QdP w b (.slice a len cap) len d rs sv vs (prT ts (f + 1) lvl i d)) → Calls Tryz.prog F args w fun e w' => ∃ x, e = .returned (.int .i64 x) ∧ QdP w b (.slice a len cap) len d rs sv vs R (.returned (.int .i64 x)) w' := fun F args h => by
  rw [hR] at h
  refine h.mono ?_
  intro e w' hq
  obtain ⟨x, rfl⟩ := hq.ret
  exact ⟨x, rfl, hq⟩
 by_cases h2 : lvl = 2
 ·subst h2
  have C := Lib.hid (ret _ _ (qnot_any H i d b sv rs vs w hP hS hE hi hrs (by omega) hd hd8))
  rw [hR]
  clear hP hS hE ret H HQ hd8 hR
  go_enter Tryz.func29, Tryz.ntmps29
  go_wp2_with fail
  refine C.out.mono ?_
  rintro e w1 ⟨x, rfl, hq⟩
  have F := Lib.hid hq
  clear hq C
  go_wp2_with fail
  go_ret
  exact F.out
 ·by_cases h7 : lvl = 7
  ·subst h7
   have C := Lib.hid (ret _ _ (qunary_any H HQ i d b sv rs vs w hP hS hE hi hrs (by omega) hd hd8))
   rw [hR]
   clear hP hS hE ret H HQ hd8 hR
   go_enter Tryz.func29, Tryz.ntmps29
   go_wp2_with fail
   refine C.out.mono ?_
   rintro e w1 ⟨x, rfl, hq⟩
   have F := Lib.hid hq
   clear hq C
   go_wp2_with fail
   go_ret
   exact F.out
  ·have C := Lib.hid (ret _ _ (qbinary_any H lvl (by omega) h2 i d b sv rs vs w hP hS hE hi hrs (by omega) hd hd8))
   rw [hR]
   have l2 : ((lvl : Int) == 2) = false := by simpa using (by omega : ¬ (lvl : Int) = 2)
   have l7 : ((lvl : Int) == 7) = false := by simpa using (by omega : ¬ (lvl : Int) = 7)
   clear hP hS hE ret H HQ hd8 hR
   go_enter Tryz.func29, Tryz.ntmps29
   go_wp2_with fail
   refine C.out.mono ?_
   rintro e w1 ⟨x, rfl, hq⟩
   have F := Lib.hid hq
   clear hq C
   go_wp2_with fail
   go_ret
   exact F.out
end Go.Proofs.YtmdpjahhhfajaaaGreatDoor
