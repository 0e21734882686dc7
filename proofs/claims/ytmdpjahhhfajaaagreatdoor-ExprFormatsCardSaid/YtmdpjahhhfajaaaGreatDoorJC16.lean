/-
  What is read, plainly: names are short; ParseAt, Parse. No program's f · The program's parser: isCall, beginsPrimary, begins. · The program's parser: what a function that reads leaves; apply, nested
-/
import Derived.Test.YtmdpjahhhfajaaaGreatDoorJC08
import Derived.Test.YtmdpjahhhfajaaaGreatDoorJC14
import Derived.Test.YtmdpjahhhfajaaaGreatDoorJC12
import Derived.Test.YtmdpjahhhfajaaaGreatDoorJC15
set_option linter.unusedVariables false
set_option linter.unusedSimpArgs false
set_option maxRecDepth 100000
namespace Wh
open Go Go.Proofs.YtmdpjahhhfajaaaGreatDoor
def NmL (e : List Nd) : Prop := ∀ t ∈ e, t.nm.size ≤ 49
def NmO : PO → Prop
 | .ok e _ => NmL e
 | .bad _ _ => True
theorem NmL.app {a b : List Nd} (h : NmL a) (k : NmL b) : NmL (a ++ b) := fun t ht => by
 rcases List.mem_append.1 ht with ht | ht
 ·exact h t ht
 ·exact k t ht
theorem NmL.one {t : Nd} (h : t.nm.size ≤ 49) : NmL [t] := fun u hu => by
 rw [List.mem_singleton] at hu
 subst hu
 exact h
theorem size0 : (⟨#[]⟩ : ByteArray).size ≤ 49 := by decide
def ShT (ts : List TA) : Prop := ∀ i, (tkA ts i).1.k = 1 → (tkA ts i).1.tx.size ≤ 49
theorem tkA_clamp {ts : List TA} (h : 1 ≤ ts.length) (i : Nat) : ∃ k, k < ts.length ∧ tkA ts i = tkA ts k := by
 refine ⟨min i (ts.length - 1), by omega, ?_⟩
 unfold tkA
 rw [Nat.min_eq_left (by omega : min i (ts.length - 1) ≤ ts.length - 1)]
theorem valE_short {ts : List TA} (h : valE ts = 0) : ShT ts := fun i hk => by
 obtain ⟨k, hk2, he⟩ := tkA_clamp (valE_zero h).1 i
 rw [he] at hk ⊢
 exact qual_sz ((valE_toks h k hk2).1 hk)
theorem callO_nm {s : ByteArray} (h : s.size ≤ 49) (n : Nat) : (callO s n).1.nm.size ≤ 49 := by
 unfold callO
 repeat' split
 all_goals first | exact size0 | exact h
theorem lpT_nm {ts : List TA} {rd : Nat → PO} {lvl : Nat} (hr : ∀ i, NmO (rd i)) : ∀ (g : Nat) (e : List Nd) (i : Nat), NmL e → NmO (lpT ts rd lvl g e i) := by
 intro g
 induction g with
 | zero => intro e i _; trivial
 | succ g ih =>
  intro e i he
  unfold lpT
  cases binO lvl (tkA ts i) with
  | none => exact he
  | some op =>
   simp only
   have := hr (i + 1)
   cases hR : rd (i + 1) with
   | bad c j => trivial
   | ok e2 j =>
    rw [hR] at this
    exact ih _ _ ((he.app this).app (NmL.one size0))
theorem finT_nm {s : ByteArray} (h : s.size ≤ 49) {rs : List (List Nd)} (hr : NmL rs.flatten) (j : Nat) : NmO (finT s rs j) := by
 unfold finT
 split
 ·trivial
 ·exact hr.app (NmL.one (callO_nm h _))
theorem agT_nm {ts : List TA} {rd : Nat → PO} {s : ByteArray} (h : s.size ≤ 49) (hr : ∀ i, NmO (rd i)) : ∀ (g : Nat) (rs : List (List Nd)) (i : Nat), NmL rs.flatten → NmO (agT ts rd s g rs i) := by
 intro g
 induction g with
 | zero => intro rs i _; trivial
 | succ g ih =>
  intro rs i he
  unfold agT
  have := hr i
  cases hR : rd i with
  | bad c j => trivial
  | ok e2 j =>
   rw [hR] at this
   have h2 : NmL (rs ++ [e2]).flatten := by
    rw [List.flatten_append, List.flatten_cons, List.flatten_nil, List.append_nil]
    exact he.app this
   simp only
   split
   ·exact finT_nm h h2 j
   ·split
    ·exact ih _ _ h2
    ·trivial
theorem dayT_nm {ts : List TA} (hS : ShT ts) {e : List Nd} (he : NmL e) (j : Nat) : NmO (dayT ts e j) := by
 unfold dayT
 by_cases c1 : symT (tkA ts j) comS = false
 ·rw [if_pos c1]; trivial
 rw [if_neg c1]
 by_cases c2 : ¬ (tkA ts (j + 1)).1.k = 1 ∨ resB (tkA ts (j + 1)).1.tx = true
 ·rw [if_pos c2]; trivial
 rw [if_neg c2]
 by_cases c3 : symT (tkA ts (j + 2)) clsS = false
 ·rw [if_pos c3]; trivial
 rw [if_neg c3]
 refine he.app (NmL.one (hS (j + 1) ?_))
 by_cases h : (tkA ts (j + 1)).1.k = 1
 ·exact h
 ·exact absurd (.inl h) c2
theorem seqP_nm {P : PO} {k : List Nd → Nat → PO} (h : NmO P) (hk : ∀ e j, NmL e → NmO (k e j)) : NmO (seqP P k) := by
 cases P with
 | ok e j => exact hk e j h
 | bad c j => trivial
set_option maxHeartbeats 1000000 in
theorem pr_nm {ts : List TA} (hS : ShT ts) : ∀ (f lvl i d : Nat), NmO (prT ts f lvl i d) := by
 intro f
 induction f with
 | zero => intro lvl i d; trivial
 | succ f ih =>
  intro lvl i d
  unfold prT
  by_cases l2 : lvl = 2
  ·rw [if_pos l2]
   split
   ·split
    ·trivial
    ·exact seqP_nm (ih 2 (i + 1) (d + 1)) (k := fun e j => .ok (e ++ [opNd 2]) j) fun e j he => he.app (NmL.one size0)
   ·exact ih _ _ _
  rw [if_neg l2]
  by_cases l3 : lvl = 3
  ·rw [if_pos l3]
   refine seqP_nm (ih 4 i d) (k := fun e j => match cmpO (tkA ts j) with | none => .ok e j | some (op, sw) => match prT ts f 4 (j + 1) d with | .bad c j2 => .bad c j2 | .ok e2 j2 => .ok ((if sw = true then e2 ++ e else e ++ e2) ++ [opNd op]) j2) fun e j he => ?_
   cases cmpO (tkA ts j) with
   | none => exact he
   | some x =>
    obtain ⟨op, sw⟩ := x
    refine seqP_nm (ih 4 (j + 1) d) (k := fun e2 j2 => .ok ((if sw = true then e2 ++ e else e ++ e2) ++ [opNd op]) j2) fun e2 j2 he2 => ?_
    cases sw
    ·exact (he.app he2).app (NmL.one size0)
    ·exact (he2.app he).app (NmL.one size0)
  rw [if_neg l3]
  by_cases l7 : lvl = 7
  ·rw [if_pos l7]
   split
   ·trivial
   ·split
    ·trivial
    ·split
     ·split
      ·exact NmL.one size0
      ·exact seqP_nm (ih 7 (i + 1) (d + 1)) (k := fun e j => .ok (e ++ [opNd 3]) j) fun e j he => he.app (NmL.one size0)
     ·exact ih _ _ _
  rw [if_neg l7]
  by_cases l8 : lvl = 8
  ·rw [if_pos l8]
   split
   ·exact NmL.one size0
   split
   ·exact NmL.one size0
   split
   ·exact NmL.one size0
   by_cases k1 : (tkA ts i).1.k = 1
   ·rw [if_pos k1]
    have hs := hS i k1
    split
    ·exact NmL.one size0
    split
    ·exact NmL.one size0
    split
    ·exact NmL.one size0
    split
    ·split
     ·exact seqP_nm (ih 0 (i + 2) (d + 1)) (k := dayT ts) fun e j he => dayT_nm hS he j
     ·split
      ·exact finT_nm hs (fun t ht => by simp at ht) _
      ·exact agT_nm hs (fun k => ih 0 k (d + 1)) _ _ _ (fun t ht => by simp at ht)
    ·exact NmL.one hs
   ·rw [if_neg k1]
    refine seqP_nm (ih 0 (i + 1) (d + 1)) (k := fun e j => if symT (tkA ts j) clsS = true then .ok e (j + 1) else .bad 3 j) fun e j he => ?_
    split
    ·exact he
    ·trivial
  ·rw [if_neg l8]
   exact seqP_nm (ih (lvl + 1) i d) (k := fun e j => lpT ts (fun i => prT ts f (lvl + 1) i d) lvl ts.length e j) fun e j he => lpT_nm (fun k => ih (lvl + 1) k d) _ _ _ he
def patO (ts : List TA) (at_ : Int) : List Nd × Int × Int :=
 if ¬ valE ts = 0 then ([], 0, valE ts)
 else if at_ < 0 ∨ (ts.length : Int) ≤ at_ then ([], 0, 1)
 else match prT ts (9 * ts.length + 9) 0 at_.toNat 0 with
  | .bad c j => ([], j, c)
  | .ok e j => if valN e = 0 then (e, j, 0) else ([], j, valN e)
def parO (s : ByteArray) : List Nd × Int × Int :=
 if ¬ (splitP s).e = 0 then ([], (splitP s).i, (splitP s).e)
 else if ¬ (patO (splitP s).l 0).2.2 = 0 then ([], (tkA (splitP s).l (patO (splitP s).l 0).2.1.toNat).2, (patO (splitP s).l 0).2.2)
 else if ¬ (tkA (splitP s).l (patO (splitP s).l 0).2.1.toNat).1.k = 0 then ([], (tkA (splitP s).l (patO (splitP s).l 0).2.1.toNat).2, 3)
 else ((patO (splitP s).l 0).1, 0, 0)
end Wh
namespace Wh
open Go Go.Proofs.YtmdpjahhhfajaaaGreatDoor
theorem wrdC_snd (s : ByteArray) : (wrdC s).2 = true ↔ (eqS s nulS = true ∨ eqS s truS = true ∨ eqS s falS = true) := by
 unfold wrdC
 by_cases h1 : eqS s nulS = true
 ·rw [if_pos h1]; simp [h1]
 rw [if_neg h1]
 by_cases h2 : eqS s truS = true
 ·rw [if_pos h2]; simp [h2]
 rw [if_neg h2]
 by_cases h3 : eqS s falS = true
 ·rw [if_pos h3]; simp [h3]
 rw [if_neg h3]
 simp [h1, h2, h3]
theorem begT_name {t u : TA} (hk : t.1.k = 1) : begT t u = ((wrdC t.1.tx).2 || (colB t.1.tx || (symT u opnS && !resB t.1.tx))) := by
 unfold begT
 rw [if_neg (by omega), if_pos hk]
 by_cases h : eqS t.1.tx nulS = true ∨ eqS t.1.tx truS = true ∨ eqS t.1.tx falS = true
 ·rw [if_pos h, (wrdC_snd _).2 h]; rfl
 ·rw [if_neg h]
  have hw : (wrdC t.1.tx).2 = false := by
   cases hc : (wrdC t.1.tx).2 with
   | false => rfl
   | true => exact absurd ((wrdC_snd _).1 hc) h
  rw [hw]
  unfold colB
  cases nameB t.1.tx <;> cases resB t.1.tx <;> cases symT u opnS <;> rfl
end Wh
namespace Go.Proofs.YtmdpjahhhfajaaaGreatDoor
open Go.RowKit Wh
set_option maxHeartbeats 4000000 in
theorem qiscall_any (b : Nat) (a : Option Addr) (len cap : Nat) (ts : List TA) (i d : Nat) (sv : Value) (w : World) (hP : Pq w b (.slice a len cap) i d sv) (hT : IsToks w a len ts) (hi : i + 1 < len) (hlm : len ≤ 1000000000000) :
  Calls Tryz.prog 162 #[ptr b] w fun e w' => e = .returned (.bool (symT (tkA ts (i + 1)) opnS)) ∧ Below w.heap.size w w' := by
 have hl := hT.1
 have htk := tkA_in (ts := ts) (i := i + 1) (by omega)
 obtain ⟨kd, tx, nm, p, g, off, e1, rfl, lg, t0, t1, t2, t3⟩ := hT.at hi
 rw [htk] at e1
 have e2 := Option.some.inj e1
 rw [e2]
 have h0 := hP.c0
 have h1 := hP.c1
 have hB := hP.alloc (.cells #[.int .i64 0, .string ⟨#[]⟩, .int .i64 0, .int .i64 0] 71)
 have k0 := hB.c0
 have k1 := hB.c1
 have bel : Below w.heap.size w (w.alloc (.cells #[.int .i64 0, .string ⟨#[]⟩, .int .i64 0, .int .i64 0] 71)) := (Below.refl _ _).alloc (Nat.le_refl _) _
 have e : ∀ o, (w.alloc (.cells #[.int .i64 0, .string ⟨#[]⟩, .int .i64 0, .int .i64 0] 71)).cell? ⟨g, o, none⟩ = w.cell? ⟨g, o, none⟩ := fun o => bel.cell (p := ⟨g, o, none⟩) lg
 have s0 := (e _).trans t0
 have s1 := (e _).trans t1
 have s2 := (e _).trans t2
 have s3 := (e _).trans t3
 clear hP hT htk e1 e2 hB bel e
 have hsy : symT (⟨kd, tx, nm⟩, p) opnS = (decide (kd = 5) && (tx.toList == [40])) := by
  unfold symT eqS
  rw [show opnS.toList = [40] from by decide +kernel]
 rw [hsy]
 clear hsy
 have hlen : ((i : Int) + 1) < (len : Int) := by omega
 obtain ⟨q, hq⟩ : ∃ q : Nat, i + 1 = q := ⟨_, rfl⟩
 have hqi : (i : Int) + 1 = (q : Int) := by omega
 rw [hq] at t0 t1 t2 t3 s0 s1 s2 s3 hi
 rw [hqi] at hlen
 obtain ⟨tb, htb⟩ : ∃ q, (tx.toList == [40]) = q := ⟨_, rfl⟩
 rw [htb]
 by_cases hk5 : kd = 5
 ·subst hk5
  go_enter Tryz.func162, Tryz.ntmps162
  go_wp2_with fail
  go_region
  go_wp2_with fail
  go_ret
  exact ⟨ret_bool (by simp), ((Below.refl _ _).alloc (Nat.le_refl _) _).drew⟩
 ·have hkb5 : (kd == 5) = false := by simpa using hk5
  go_enter Tryz.func162, Tryz.ntmps162
  go_wp2_with fail
  go_region
  go_wp2_with fail
  go_ret
  exact ⟨ret_bool (by simp [hk5]), ((Below.refl _ _).alloc (Nat.le_refl _) _).drew⟩
set_option maxHeartbeats 4000000 in
theorem qbegp_any (b : Nat) (a : Option Addr) (len cap : Nat) (ts : List TA) (i d : Nat) (sv : Value) (w : World) (hP : Pq w b (.slice a len cap) i d sv) (hT : IsToks w a len ts) (hi : i + 1 < len) (hlm : len ≤ 1000000000000) (hk : (tkA ts i).1.k = 1) (hz : (tkA ts i).1.tx.size ≤ 49) :
  Calls Tryz.prog 160 #[ptr b] w fun e w' => e = .returned (.bool (begT (tkA ts i) (tkA ts (i + 1)))) ∧ Below w.heap.size w w' := by
 have CW := Lib.hid (qword_any b a len cap ts i d sv w hP hT (by omega) hlm)
 have CI := Lib.hid (fun W (h : Below w.heap.size w W) => qiscall_any b a len cap ts i d sv W (hP.below h hP.lt) (hT.below h (Nat.le_refl _)) hi hlm)
 rw [begT_name hk]
 have hw : wT (tkA ts i) = (tkA ts i).1.tx := by unfold wT; rw [if_pos (.inl hk)]
 rw [hw] at CW
 obtain ⟨s, hs⟩ : ∃ s, (tkA ts i).1.tx = s := ⟨_, rfl⟩
 rw [hs] at CW hz ⊢
 have CC := Lib.hid (fun W => qwordc_any s W)
 have CO := Lib.hid (fun W => pcol_any s W (by omega))
 have CR := Lib.hid (fun W => tReserved_any s W)
 obtain ⟨N, hN⟩ : ∃ N, (wrdC s).1 = N := ⟨_, rfl⟩
 rw [hN] at CC
 unfold ndV at CC
 clear hP hT hk hw hs hN
 generalize (wrdC s).2 = bf at *
 generalize symT (tkA ts (i + 1)) opnS = bo at *
 generalize colB s = bc at *
 generalize resB s = br at *
 go_enter Tryz.func160, Tryz.ntmps160
 go_wp2_with fail
 refine CW.out.mono ?_
 rintro e w1 ⟨rfl, hb1⟩
 have HB1 := Lib.hid hb1
 clear hb1 CW
 go_wp2_with fail
 refine (CC.out _).mono ?_
 rintro e w2 ⟨rfl, hb2⟩
 have hB2 := HB1.out.trans (hb2.mono HB1.out.size)
 have HB2 := Lib.hid (hB2.alloc hB2.size (.cells #[.int .i64 N.op, .int .i64 N.v.k, .int .i64 N.v.n, .string N.v.s, .string N.nm, .int .i64 N.ar] 53))
 clear hb2 hB2 CC HB1
 cases bf with
 | true =>
  go_wp2_with fail
  go_ret
  exact ⟨rfl, HB2.out⟩
 | false =>
  go_wp2_with fail
  refine (CO.out _).mono ?_
  rintro e w3 ⟨rfl, hb3⟩
  have HB3 := Lib.hid (HB2.out.trans (hb3.mono HB2.out.size))
  clear hb3 CO HB2
  cases bc with
  | true =>
   go_wp2_with fail
   go_ret
   exact ⟨rfl, HB3.out⟩
  | false =>
   have CI3 := Lib.hid (CI.out _ HB3.out)
   clear CI
   go_wp2_with fail
   refine CI3.out.mono ?_
   rintro e w4 ⟨rfl, hb4⟩
   have HB4 := Lib.hid (HB3.out.trans (hb4.mono HB3.out.size))
   clear hb4 CI3 HB3
   cases bo with
   | false =>
    go_wp2_with fail
    go_ret
    exact ⟨rfl, HB4.out⟩
   | true =>
    go_wp2_with fail
    refine (CR.out _).mono ?_
    rintro e w5 ⟨rfl, rfl⟩
    go_wp2_with fail
    go_ret
    exact ⟨ret_bool (by simp), HB4.out⟩
set_option maxHeartbeats 4000000 in
theorem qbegins_any (b : Nat) (a : Option Addr) (len cap : Nat) (ts : List TA) (i d lvl : Nat) (sv : Value) (w : World) (hP : Pq w b (.slice a len cap) i d sv) (hT : IsToks w a len ts) (hH : TkH ts a len) (hS : ShT ts) (hi : i < len) (hlv : lvl ≤ 8) :
  Calls Tryz.prog 128 #[ptr b, .int .i64 lvl] w fun e w' => e = .returned (.bool (begL lvl (tkA ts i) (tkA ts (i + 1)))) ∧ Below w.heap.size w w' := by
 have hl := hT.1
 have hle := hH.le
 have hN := Lib.hid (fun h => hH.next hi h)
 have CB := Lib.hid (fun (h1 : i + 1 < len) (hk : (tkA ts i).1.k = 1) W (h : Below w.heap.size w W) => qbegp_any b a len cap ts i d sv W (hP.below h hP.lt) (hT.below h (Nat.le_refl _)) h1 (by omega) hk (hS i hk))
 have htk := tkA_in (ts := ts) (i := i) (by omega)
 obtain ⟨kd, tx, nm, p, g, off, e1, rfl, lg, t0, t1, t2, t3⟩ := hT.at hi
 rw [htk] at e1
 have e2 := Option.some.inj e1
 rw [e2] at hN CB ⊢
 have h0 := hP.c0
 have h1 := hP.c1
 have hB := hP.alloc (.cells #[.int .i64 0, .string ⟨#[]⟩, .int .i64 0, .int .i64 0] 71)
 have k0 := hB.c0
 have k1 := hB.c1
 have bel : Below w.heap.size w (w.alloc (.cells #[.int .i64 0, .string ⟨#[]⟩, .int .i64 0, .int .i64 0] 71)) := (Below.refl _ _).alloc (Nat.le_refl _) _
 have e : ∀ o, (w.alloc (.cells #[.int .i64 0, .string ⟨#[]⟩, .int .i64 0, .int .i64 0] 71)).cell? ⟨g, o, none⟩ = w.cell? ⟨g, o, none⟩ := fun o => bel.cell (p := ⟨g, o, none⟩) lg
 have s0 := (e _).trans t0
 have s1 := (e _).trans t1
 have s2 := (e _).trans t2
 have s3 := (e _).trans t3
 have hlen : (i : Int) < (len : Int) := by omega
 clear hP hT htk e1 e2 hB bel e
 obtain ⟨u, hu⟩ : ∃ u, tkA ts (i + 1) = u := ⟨_, rfl⟩
 rw [hu] at CB ⊢
 clear hu
 have sn : ∀ (s : ByteArray), ¬ kd = 5 → symT (⟨kd, tx, nm⟩, p) s = false := fun s h => symT_not h
 have wn : ∀ (s : ByteArray), ¬ kd = 1 → wrdT (⟨kd, tx, nm⟩, p) s = false := fun s h => wrdT_not h
 by_cases h234 : kd = 2 ∨ kd = 3 ∨ kd = 4
 ·have hR : begL lvl (⟨kd, tx, nm⟩, p) u = true := by
   unfold begL begT
   rw [if_pos h234, sn _ (by omega)]
   simp
  rw [hR]
  clear hR CB sn wn hN
  rcases h234 with rfl | rfl | rfl
  all_goals
   go_enter Tryz.func128, Tryz.ntmps128
   go_wp2_with fail
   go_region
   go_wp2_with fail
   go_ret
   exact ⟨rfl, ((Below.refl _ _).alloc (Nat.le_refl _) _).drew⟩
 by_cases hk5 : kd = 5
 ·subst hk5
  have hR : begL lvl (⟨5, tx, nm⟩, p) u = ((tx.toList == [40]) || ((tx.toList == [45]) && decide (lvl ≤ 7))) := by
   have hm : symT (⟨5, tx, nm⟩, p) minS = (tx.toList == [45]) := by
    unfold symT eqS
    rw [show minS.toList = [45] from by decide +kernel]
    rfl
   have ho : symT (⟨5, tx, nm⟩, p) opnS = (tx.toList == [40]) := by
    unfold symT eqS
    rw [show opnS.toList = [40] from by decide +kernel]
    rfl
   unfold begL begT
   rw [if_neg h234, if_neg (by simp), wn _ (by omega), hm, ho, Bool.and_false, Bool.false_or]
   by_cases h40 : tx.toList = [40]
   ·rw [h40]; simp
   ·have : (tx.toList == [40]) = false := by simpa using h40
    rw [this]
    cases (tx.toList == [45]) <;> simp
  rw [hR]
  clear hR CB sn wn hN
  obtain ⟨b40, h40⟩ : ∃ q, (tx.toList == [40]) = q := ⟨_, rfl⟩
  obtain ⟨b45, h45⟩ : ∃ q, (tx.toList == [45]) = q := ⟨_, rfl⟩
  rw [h40, h45]
  have hcase : b40 = true ∨ (b40 = false ∧ b45 = false) ∨ (b40 = false ∧ b45 = true) := by cases b40 <;> cases b45 <;> simp
  rcases hcase with rfl | ⟨rfl, rfl⟩ | ⟨rfl, rfl⟩
  all_goals
   go_enter Tryz.func128, Tryz.ntmps128
   go_wp2_with fail
   go_region
   go_wp2_with fail
   go_ret
   refine ⟨ret_bool ?_, ((Below.refl _ _).alloc (Nat.le_refl _) _).drew⟩
   simp
  try omega
 by_cases hk1 : kd = 1
 ·subst hk1
  have hi1 := hN.out (by show ¬ (1 : Int) = 0; decide)
  have CB1 := Lib.hid (fun W h => CB.out hi1 rfl W h)
  have hR : begL lvl (⟨1, tx, nm⟩, p) u = (((tx.toList == [110, 111, 116]) && decide (lvl ≤ 2)) || begT (⟨1, tx, nm⟩, p) u) := by
   have hm : wrdT (⟨1, tx, nm⟩, p) notS = (tx.toList == [110, 111, 116]) := by
    unfold wrdT eqS
    rw [show notS.toList = [110, 111, 116] from by decide +kernel]
    rfl
   unfold begL
   rw [hm, sn _ (by omega)]
   cases (tx.toList == [110, 111, 116]) <;> cases decide (lvl ≤ 2) <;> simp
  rw [hR]
  generalize begT (⟨1, tx, nm⟩, p) u = bt at *
  clear hR CB sn wn hN
  obtain ⟨bn, hbn⟩ : ∃ q, (tx.toList == [110, 111, 116]) = q := ⟨_, rfl⟩
  rw [hbn]
  have hcase : (bn = true ∧ lvl ≤ 2) ∨ (bn = true ∧ ¬ lvl ≤ 2) ∨ bn = false := by
   cases bn
   ·exact .inr (.inr rfl)
   ·by_cases h : lvl ≤ 2
    ·exact .inl ⟨rfl, h⟩
    ·exact .inr (.inl ⟨rfl, h⟩)
  rcases hcase with ⟨rfl, hl2⟩ | ⟨rfl, hl2⟩ | rfl
  ·have hl2i : (lvl : Int) ≤ 2 := by omega
   go_enter Tryz.func128, Tryz.ntmps128
   go_wp2_with fail
   go_region
   go_wp2_with fail
   go_ret
   exact ⟨ret_bool (by simp [hl2]), ((Below.refl _ _).alloc (Nat.le_refl _) _).drew⟩
  ·have hl2i : ¬ (lvl : Int) ≤ 2 := by omega
   rw [decide_eq_false hl2]
   go_enter Tryz.func128, Tryz.ntmps128
   go_wp2_with fail
   go_region
   go_wp2_with fail
   have hb2 := ((Below.refl w.heap.size w).alloc (Nat.le_refl _) (.cells #[.int .i64 1, .string tx, .int .i64 nm, .int .i64 p] 71)).drew
   refine (CB1.out _ hb2).mono ?_
   rintro e w3 ⟨rfl, hb3⟩
   have HB3 := Lib.hid (hb2.trans (hb3.mono hb2.size))
   clear hb3 hb2
   go_wp2_with fail
   go_ret
   exact ⟨ret_bool (by simp; intro h; omega), HB3.out⟩
  ·go_enter Tryz.func128, Tryz.ntmps128
   go_wp2_with fail
   go_region
   go_wp2_with fail
   have hb2 := ((Below.refl w.heap.size w).alloc (Nat.le_refl _) (.cells #[.int .i64 1, .string tx, .int .i64 nm, .int .i64 p] 71)).drew
   refine (CB1.out _ hb2).mono ?_
   rintro e w3 ⟨rfl, hb3⟩
   have HB3 := Lib.hid (hb2.trans (hb3.mono hb2.size))
   clear hb3 hb2
   go_wp2_with fail
   go_ret
   exact ⟨ret_bool (by simp), HB3.out⟩
 ·have hR : begL lvl (⟨kd, tx, nm⟩, p) u = false := by
   unfold begL begT
   rw [if_neg h234, if_neg hk1, wn _ hk1, sn _ hk5, sn _ hk5]
   simp
  rw [hR]
  obtain ⟨n2, n3, n4⟩ : ¬ kd = 2 ∧ ¬ kd = 3 ∧ ¬ kd = 4 := by omega
  have m1 : (kd == 1) = false := by simpa using hk1
  have m2 : (kd == 2) = false := by simpa using n2
  have m3 : (kd == 3) = false := by simpa using n3
  have m4 : (kd == 4) = false := by simpa using n4
  have m5 : (kd == 5) = false := by simpa using hk5
  clear hR CB sn wn hN
  go_enter Tryz.func128, Tryz.ntmps128
  go_wp2_with fail
  go_region
  go_wp2_with fail
  go_ret
  exact ⟨rfl, ((Below.refl _ _).alloc (Nat.le_refl _) _).drew⟩
end Go.Proofs.YtmdpjahhhfajaaaGreatDoor
namespace Go.Proofs.YtmdpjahhhfajaaaGreatDoor
open Go.RowKit Wh
structure EnvQ (w : World) (b : Nat) (a : Option Addr) (len : Nat) (ts : List TA) : Prop where
 tk : IsToks w a len ts
 far : ∀ x, a = some x → x.block < b
 hH : TkH ts a len
 hS : ShT ts
 hO : OkTs ts
 tb : TabB w
 ti : TabI w
 gb : 1 < b
 gi : 0 < b
theorem EnvQ.below {w w' : World} {b : Nat} {a : Option Addr} {len : Nat} {ts : List TA} (h : EnvQ w b a len ts) (hb : Below b w w') : EnvQ w' b a len ts := by
 refine ⟨?_, h.far, h.hH, h.hS, h.hO, ⟨Nat.lt_of_lt_of_le h.tb.1 hb.size, fun j v hv => ?_⟩, ⟨Nat.lt_of_lt_of_le h.ti.1 hb.size, fun j v hv => ?_⟩, h.gb, h.gi⟩
 ·obtain ⟨h1, h2⟩ := h.tk
  refine ⟨h1, ?_⟩
  rcases h2 with h2 | ⟨g, off, ha, hlt, hc⟩
  ·exact .inl h2
  ·have hgb : g < b := h.far _ ha
   have e : ∀ o, w'.cell? ⟨g, o, none⟩ = w.cell? ⟨g, o, none⟩ := fun o => hb.cell (p := ⟨g, o, none⟩) hgb
   refine .inr ⟨g, off, ha, Nat.lt_of_lt_of_le hlt hb.size, fun i s hs => ?_⟩
   rw [e, e, e, e]
   exact hc i s hs
 ·rw [hb.cell (p := ⟨1, 0 + j, none⟩) h.gb]
  exact h.tb.2 j v hv
 ·rw [hb.cell (p := ⟨0, 0 + j, none⟩) h.gi]
  exact h.ti.2 j v hv
def QdP (w : World) (b : Nat) (sl : Value) (len d : Nat) (rs : List (List Nd)) (sv : Value) (vs : List Value) (P : PO) (e : Ending) (w' : World) : Prop :=
 ∃ (j dd : Nat) (x : Int) (sv' : Value) (vs' : List Value), e = .returned (.int .i64 x) ∧ (j < len ∧ dd ≤ 300) ∧ Pq w' b sl j dd sv' ∧ Fb w b sv vs w' sv' vs' ∧
  ((x = 0 ∧ dd = d ∧ ∃ (l : List Nd), P = .ok l j ∧ Sk w' b (rs ++ [l.take 257]) sv' vs') ∨ (¬ x = 0 ∧ d ≤ dd ∧ P = .bad x j))
theorem QdP.from {w w1 w' : World} {b : Nat} {sl sv sv1 : Value} {len d : Nat} {rs : List (List Nd)} {vs vs1 : List Value} {P : PO} {e : Ending} (hb : Fb w b sv vs w1 sv1 vs1) (h : QdP w1 b sl len d rs sv1 vs1 P e w') : QdP w b sl len d rs sv vs P e w' := by
 obtain ⟨j, dd, x, sv', vs', rfl, h1, h2, h3, h4⟩ := h
 exact ⟨j, dd, x, sv', vs', rfl, h1, h2, hb.trans h3, h4⟩
theorem QdP.ret {w w' : World} {b : Nat} {sl sv : Value} {len d : Nat} {rs : List (List Nd)} {vs : List Value} {P : PO} {e : Ending} (h : QdP w b sl len d rs sv vs P e w') : ∃ x, e = .returned (.int .i64 x) := by
 obtain ⟨j, dd, x, sv', vs', rfl, _⟩ := h
 exact ⟨x, rfl⟩
def ReadsQ (ts : List TA) (a : Option Addr) (len cap f : Nat) : Prop :=
 ∀ (lvl i d b : Nat) (sv : Value) (rs : List (List Nd)) (vs : List Value) (w : World), lvl ≤ 7 → Pq w b (.slice a len cap) i d sv → Sk w b rs sv vs → EnvQ w b a len ts → i < len → rs.length ≤ i → 9 * (len - i) + (8 - lvl) < f → d ≤ 257 → (256 < d → begL lvl (tkA ts i) (tkA ts (i + 1)) = false) →
  Calls Tryz.prog 29 #[ptr b, .int .i64 lvl] w (QdP w b (.slice a len cap) len d rs sv vs (prT ts f lvl i d))
theorem qapply_any (t : Nd) (p : Nat) (ht : arN t = (p : Int)) (hp8 : p ≤ 8) (b : Nat) (sl : Value) (i d : Nat) (sv : Value) (rs rs2 : List (List Nd)) (vs : List Value) (hn : rs2.length = p) (w : World) (hP : Pq w b sl i d sv) (hS : Sk w b (rs ++ rs2) sv vs) (hnl : rs.length ≤ 190000) :
  Calls Tryz.prog 91 #[ptr b, ndV t] w fun e w' => e = .returned (.tuple #[]) ∧ ∃ sv' vs', Pq w' b sl i d sv' ∧ Sk w' b (rs ++ [(rs2.flatten ++ [t]).take 257]) sv' vs' ∧ Fb w b sv vs w' sv' vs' := by
 by_cases hp : p = 0
 ·subst hp
  obtain rfl : rs2 = [] := List.eq_nil_of_length_eq_zero hn
  rw [List.append_nil] at hS
  have h := qapply0_any t ht b sl i d sv rs vs w hP hS (by omega)
  simpa using h
 ·have h := qapply1_any t p ht (by omega) hp8 b sl i d sv (rs ++ rs2) vs rs.length (by simp [hn]) w hP hS (by omega)
  rw [List.take_left, List.drop_left] at h
  exact h
set_option maxHeartbeats 8000000 in
theorem qnested_any {ts : List TA} {a : Option Addr} {len cap f : Nat} (H : ReadsQ ts a len cap f) (lvl i d b : Nat) (sv : Value) (rs : List (List Nd)) (vs : List Value) (w : World) (hl : lvl ≤ 7) (hP : Pq w b (.slice a len cap) i d sv) (hS : Sk w b rs sv vs) (hE : EnvQ w b a len ts) (hi : i < len) (hrs : rs.length ≤ i) (hm : 9 * (len - i) + (8 - lvl) < f) (hd : d ≤ 256) :
  Calls Tryz.prog 127 #[ptr b, .int .i64 lvl] w (QdP w b (.slice a len cap) len d rs sv vs (prT ts f lvl i (d + 1))) := by
 have hbw := hP.lt
 have hi8 : i < 100000 := by have := hE.hH.le; omega
 obtain ⟨R, hR⟩ : ∃ R, prT ts f lvl i (d + 1) = R := ⟨_, rfl⟩
 have q2 := hP.c2
 have qf := hP.free
 have hP1 := hP.inc2
 have hS1 := hS.keep (grown_set w b 2 (.int .i64 ((d : Int) + 1)))
 have hB1 : Fb w b sv vs (w.setCell ⟨b, 2, none⟩ (.int .i64 ((d : Int) + 1))) sv vs := Fb.set 2 _ hbw
 have hE1 := hE.below hB1.bel
 have CB := Lib.hid (qbegins_any b a len cap ts i (d + 1) lvl sv _ hP1 hE1.tk hE.hH hE.hS hi (by omega))
 rw [hR]
 by_cases hdeep : 256 < d + 1 ∧ begL lvl (tkA ts i) (tkA ts (i + 1)) = true
 ·have hR2 : R = .bad 2 i := by rw [← hR]; exact pr_deep (7 - lvl) lvl f i (d + 1) (by omega) (by omega) hdeep.1 hdeep.2
  rw [hdeep.2] at CB
  have hd1 : (256 : Int) < (d : Int) + 1 := by omega
  have HP1 := Lib.hid hP1
  have HB1 := Lib.hid hB1
  have p2 := hP1.c2
  have e2 : ((d + 1 : Nat) : Int) = (d : Int) + 1 := by omega
  rw [e2] at p2
  clear hP hS hE hS1 hE1 hP1 hB1 hR hdeep e2 H
  go_enter Tryz.func127, Tryz.ntmps127
  go_wp2_with fail
  refine CB.out.mono ?_
  rintro e w2 ⟨rfl, hb2⟩
  have F : Hid (QdP w b (.slice a len cap) len d rs sv vs R (.returned (.int .i64 2)) w2) := ⟨i, d + 1, 2, sv, vs, rfl, ⟨hi, by omega⟩, HP1.out.below hb2 HP1.out.lt, HB1.out.trans (Fb.below hb2 HP1.out.lt), .inr ⟨by decide, by omega, hR2⟩⟩
  clear hb2 CB HP1 HB1
  go_wp2_with fail
  go_ret
  exact F.out
 ·have HH := Lib.hid (fun W (hPW : Pq W b (.slice a len cap) i (d + 1) sv) (hSW : Sk W b rs sv vs) (hEW : EnvQ W b a len ts) => H lvl i (d + 1) b sv rs vs W hl hPW hSW hEW hi hrs hm (by omega) (fun h => by
   cases hb : begL lvl (tkA ts i) (tkA ts (i + 1)) with
   | false => rfl
   | true => exact absurd ⟨h, hb⟩ hdeep))
  rw [hR] at HH
  have HP1 := Lib.hid hP1
  have HB1 := Lib.hid hB1
  have HS1 := Lib.hid hS1
  have HE1 := Lib.hid hE1
  have p2 := hP1.c2
  have e2 : ((d + 1 : Nat) : Int) = (d : Int) + 1 := by omega
  rw [e2] at p2
  have fin : ∀ (w3 : World) (W : World), Fb w b sv vs W sv vs → ∀ (j dd : Nat) (x : Int) (sv' : Value) (vs' : List Value), 1 ≤ dd → (j < len ∧ dd ≤ 300) → Pq w3 b (.slice a len cap) j dd sv' → Fb W b sv vs w3 sv' vs' → ((x = 0 ∧ dd = d + 1 ∧ ∃ (l : List Nd), R = .ok l j ∧ Sk w3 b (rs ++ [l.take 257]) sv' vs') ∨ (¬ x = 0 ∧ d + 1 ≤ dd ∧ R = .bad x j)) → QdP w b (.slice a len cap) len d rs sv vs R (.returned (.int .i64 x)) (w3.setCell ⟨b, 2, none⟩ (.int .i64 ((dd : Int) - 1))) := by
   intro w3 W hW j dd x sv' vs' h1 h2 h3 h4 h5
   refine ⟨j, dd - 1, x, sv', vs', rfl, ⟨h2.1, by omega⟩, h3.dec2 h1, (hW.trans h4).trans (Fb.set _ _ h3.lt), ?_⟩
   rcases h5 with ⟨h5, h6, l, h7, h8⟩ | ⟨h5, h6, h7⟩
   ·exact .inl ⟨h5, by omega, l, h7, h8.keep (grown_set _ _ _ _)⟩
   ·exact .inr ⟨h5, by omega, h7⟩
  have FIN := Lib.hid fin
  clear hP hS hE hS1 hE1 hP1 hB1 hR e2 H fin
  by_cases hd1 : 256 < d + 1
  ·have hd1i : (256 : Int) < (d : Int) + 1 := by omega
   have hbf : begL lvl (tkA ts i) (tkA ts (i + 1)) = false := by
    cases hb : begL lvl (tkA ts i) (tkA ts (i + 1)) with
    | false => rfl
    | true => exact absurd ⟨hd1, hb⟩ hdeep
   rw [hbf] at CB
   go_enter Tryz.func127, Tryz.ntmps127
   go_wp2_with fail
   refine CB.out.mono ?_
   rintro e w2 ⟨rfl, hb2⟩
   have hB2 := HB1.out.trans (Fb.below hb2 HP1.out.lt)
   have C2 := Lib.hid (HH.out w2 (HP1.out.below hb2 HP1.out.lt) (HS1.out.below hb2) (HE1.out.below (hb2.mono (by rw [size_setC]; omega))))
   have HB2 := Lib.hid hB2
   clear hb2 hB2 CB HH
   go_wp2_with fail
   refine C2.out.mono ?_
   rintro e w3 ⟨j, dd, x, sv', vs', rfl, hjd, hP3, hb3, hc⟩
   have hdd1 : 1 ≤ dd := by rcases hc with ⟨_, h, _⟩ | ⟨_, h, _⟩ <;> omega
   have hdd3 := hjd.2
   have r2 := hP3.c2
   have rf := hP3.free
   have F := Lib.hid (FIN.out w3 w2 HB2.out j dd x sv' vs' hdd1 hjd hP3 hb3 hc)
   clear C2 hP3 hb3 hc FIN
   go_wp2_with fail
   go_ret
   exact F.out
  ·have hd1i : ¬ (256 : Int) < (d : Int) + 1 := by omega
   have C2 := Lib.hid (HH.out _ HP1.out HS1.out HE1.out)
   clear CB HH
   go_enter Tryz.func127, Tryz.ntmps127
   go_wp2_with fail
   refine C2.out.mono ?_
   rintro e w3 ⟨j, dd, x, sv', vs', rfl, hjd, hP3, hb3, hc⟩
   have hdd1 : 1 ≤ dd := by rcases hc with ⟨_, h, _⟩ | ⟨_, h, _⟩ <;> omega
   have hdd3 := hjd.2
   have r2 := hP3.c2
   have rf := hP3.free
   have F := Lib.hid (FIN.out w3 _ HB1.out j dd x sv' vs' hdd1 hjd hP3 hb3 hc)
   clear C2 hP3 hb3 hc FIN
   go_wp2_with fail
   go_ret
   exact F.out
end Go.Proofs.YtmdpjahhhfajaaaGreatDoor
