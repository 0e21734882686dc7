/-
  The law ValueOrders: value.CompareRows is the order of rows that the document says, and a longer row with the same beginning is greater.
-/
import Derived.Test.YtnmlbafhdnffgaaCmpRows
import Derived.Laws.AppendOwnNone
set_option linter.unusedVariables false
namespace Go.Proofs.Ytnmlbafhdnffgaa
open Go.RowKit Wh

theorem vals_cells : ∀ (vs : List V) {w : World} {b off : Nat}, ValsAt w b off vs → ∀ j u, (flat vs)[j]? = some u → w.cell? ⟨b, off + j, none⟩ = some u
  | [], _, _, _, _, j, u, h => by simp [flat] at h
  | v :: vs, w, b, off, hv, j, u, h => by
    have h0 := hv 0 v rfl
    have ih := vals_cells vs (w := w) (b := b) (off := off + 3) (fun i x hx => by
      have := hv (i + 1) x (by simpa using hx)
      rw [show off + (i + 1) * 3 = off + 3 + i * 3 from by omega] at this
      exact this)
    have e : flat (v :: vs) = [.int .i64 v.k, .int .i64 v.n, .string v.s] ++ flat vs := by simp [flat, cl]
    rw [e] at h
    match j, h with
    | 0, h => simp at h; subst h; simpa using h0.1
    | 1, h => simp at h; subst h; simpa using h0.2.1
    | 2, h => simp at h; subst h; simpa using h0.2.2
    | j + 3, h =>
      have := ih j u (by simpa using h)
      rw [show off + (j + 3) = off + 3 + j from by omega]
      exact this

theorem cells_one (vs : List V) (u : Value) (h : u ∈ flat vs) : u.oneCell' = true := by
  simp only [flat, List.mem_flatMap] at h
  obtain ⟨v, _, hv⟩ := h
  simp only [cl, List.mem_cons, List.not_mem_nil, or_false] at hv
  rcases hv with rfl | rfl | rfl <;> rfl

/-- The rows that the law builds: of the numbers at i, and at i + d. -/
def shortV (zs : List Int) (d n : Nat) : List V := (List.range n).map fun (i : Nat) => anyV (atZ zs ((i : Int) + d) % 9)

theorem shortV_next (zs : List Int) (d k : Nat) : shortV zs d (k + 1) = shortV zs d k ++ [anyV (atZ zs ((k : Int) + d) % 9)] := by
  unfold shortV
  rw [List.range_succ, List.map_append]
  rfl

theorem shortV_length (zs : List Int) (d n : Nat) : (shortV zs d n).length = n := by simp [shortV]

theorem flat_snoc (vs : List V) (v : V) : flat (vs ++ [v]) = flat vs ++ cl v := by simp [flat]

/-- Two values that own different blocks. -/
def Apart (v u : Value) : Prop := ∀ g, v.ownBlock = some g → u.ownBlock = some g → False

theorem Apart.kept {v u : Value} (h : Apart v u) : u.ownBlock = none ∨ u.ownBlock ≠ v.ownBlock := by
  cases e : u.ownBlock with
  | none => exact .inl rfl
  | some g =>
    right
    intro e2
    exact h g e2.symm e

set_option maxHeartbeats 2000000 in
theorem orders_walk (w : World) (a1 : Option Addr) (len1 cap1 : Nat) (as1 : List V) (hv1 : IsVals w a1 len1 as1) (hl1 : len1 ≤ cap1) (hm1 : cap1 ≤ maxLen) (hn1 : a1 = none → cap1 = 0)
    (a2 : Option Addr) (len2 cap2 : Nat) (as2 : List V) (hv2 : IsVals w a2 len2 as2) (hl2 : len2 ≤ cap2) (hm2 : cap2 ≤ maxLen) (hn2 : a2 = none → cap2 = 0)
    (a3 : Option Addr) (len3 cap3 : Nat) (zs : List Int) (hzs : IsInts w a3 len3 zs) (hl3 : len3 ≤ cap3) (hm3 : cap3 ≤ maxLen)
    (n : Int) (h0 : -9223372036854775808 ≤ n) (h1 : n ≤ 9223372036854775807) :
    Calls Try.prog 5 #[.slice a1 len1 cap1, .slice a2 len2 cap2, .slice a3 len3 cap3, .int .i64 n] w fun e w' => e = .returned (.bool true) ∧ Below w.heap.size w w' := by
  simp only [maxLen] at hm1 hm2 hm3
  have q1 : len1 ≤ 9223372036854775807 := by omega
  have q2 : len2 ≤ 9223372036854775807 := by omega
  have q3 : len3 ≤ 9223372036854775807 := by omega
  have HV1 := Lib.hid hv1
  have HV2 := Lib.hid hv2
  have HZ := Lib.hid hzs
  have HN1 := Lib.hid hn1
  clear hv1 hv2 hzs hn1 hn2
  by_cases hbig : 100 < len1 ∨ 100 < len2
  · by_cases hb1 : 100 < len1
    · have hd : decide (100 < (len1 : Int)) = true := by simp; omega
      clear hbig
      go_enter Try.func5, Try.ntmps5
      go_wp2_with fail
      refine (known_any _).mono ?_
      rintro e w1 ⟨rfl, hb1⟩
      go_wp2_with fail
      go_ret
      exact ⟨rfl, hb1⟩
    · have hd : decide (100 < (len1 : Int)) = false := by simp; omega
      have hd2 : decide (100 < (len2 : Int)) = true := by simp; omega
      clear hbig
      go_enter Try.func5, Try.ntmps5
      go_wp2_with fail
      refine (known_any _).mono ?_
      rintro e w1 ⟨rfl, hb1⟩
      go_wp2_with fail
      go_ret
      exact ⟨rfl, hb1⟩
  · have hs1 : len1 ≤ 100 := by omega
    have hs2 : len2 ≤ 100 := by omega
    have hd : decide (100 < (len1 : Int)) = false := by simp; omega
    have hd2 : decide (100 < (len2 : Int)) = false := by simp; omega
    clear hbig
    have b3 := and_3
    obtain ⟨m, hm⟩ : ∃ m : Nat, n % 4 = (m : Int) := ⟨(n % 4).toNat, by omega⟩
    have hm4 : m ≤ 3 := by omega
    obtain ⟨i0, hi, hz0, hz1, hz2⟩ := info_parts info_val
    go_enter Try.func5, Try.ntmps5
    go_wp2_with fail
    go_loopw [9, 10, 11] (fun xv yv iv wr => ∃ k : Nat, k ≤ m ∧ iv = .int .i64 k ∧ wr.ownsRow w.heap.size 23 3 xv k (flat (shortV zs 0 k)) ∧
        wr.ownsRow w.heap.size 23 3 yv k (flat (shortV zs 3 k)) ∧ Apart xv yv ∧ Below w.heap.size w wr)
      (fun _ _ i _ => m - (intOf i).toNat)
    case atStart => exact ⟨0, Nat.zero_le _, rfl, World.ownsRow_nil _ _ _ _, World.ownsRow_nil _ _ _ _, fun g hg _ => by simp [Value.ownBlock] at hg, Below.refl _ _⟩
    case round =>
      obtain ⟨k, hk, rfl, ox, oy, hap, hbel⟩ := hrel
      have hs := hbel.size
      have HAP := Lib.hid hap
      clear hap
      by_cases hlt : k < m
      · have ab := atZ_bounds zs (k : Int)
        have ab3 := atZ_bounds zs ((k : Int) + 3)
        go_wp2_with fail
        refine (at_any _ _ _ zs _ _ (HZ.out.below hbel (Nat.le_refl _)) q3).mono ?_
        rintro e w1 ⟨rfl, hb1⟩
        have ox1 := own_below ox hb1
        have oy1 := own_below oy hb1
        have t1 := hb1.size
        go_wp2_with fail
        refine (any_any _ (by omega) (by omega) _).mono ?_
        rintro e w2 ⟨rfl, hb2⟩
        have ox2 := own_below ox1 hb2
        have oy2 := own_below oy1 hb2
        have t2 := hb2.size
        clear ox ox1 oy oy1
        have HX : Hid (flat (shortV zs 0 (k + 1)) = flat (shortV zs 0 k) ++ cl (anyV (atZ zs (k : Int) % 9))) := by
          show _ = _
          rw [shortV_next, flat_snoc]
          simp
        generalize anyV (atZ zs (k : Int) % 9) = x at HX ⊢
        go_wp2_with (at_builtin; refine wpList_append_lies _ rfl (.tmp 28) (.tmp 34) 31 rfl w.heap.size 23 i0 _ 3 32 Try.underlying31 hi hz0 hz1 hz2 rfl (by decide) _ _ _ rfl (ox2.alloc _) ⟨w2.heap.size, 0, none⟩ 1 1 (cl x) rfl rfl ?c1 ?c2 ?c3 ?c4 ?c5 ?c6 _ rfl ?_)
        case c1 => exact World.news_of_block (cs := #[.int .i64 x.k, .int .i64 x.n, .string x.s]) (t := 23) (fr := (0, 0)) (heap_alloc_new w2 _)
        case c2 => simp [Value.oneCell', cl]
        case c3 => omega
        case c4 => simp [maxLen]; omega
        case c5 => omega
        case c6 => simp; omega
        intro g3 c3 w3 ox3 hg3 hat3 hlt3
        have B2 : Below w.heap.size w w2 := (hbel.trans (hb1.mono hs)).trans (hb2.mono (by omega))
        have B3 : Below w.heap.size w w3 := (B2.alloc (by omega) _).grown hg3 (by simp; omega) (fun j hj => (ox2.lt j hj).1)
        have t3 : w2.heap.size + 1 ≤ w3.heap.size := by have := hg3.size; simpa using this
        have oy3 := (oy2.alloc _).kept hg3 HAP.out.kept
        have hap3 : Hid (Apart (.slice (some ⟨g3, 0, none⟩) (k + 1) c3) u10) := by
          intro g hg hu
          simp only [Value.ownBlock, Option.some.injEq] at hg
          subst hg
          rcases hat3 with h | h
          · exact HAP.out _ h hu
          · have := (oy2.lt _ hu).2
            have h' : g3 = w2.heap.size + 1 := by simpa using h
            omega
        rw [← HX.out] at ox3
        clear ox2 oy2 hg3 hat3 HAP HX hb1 hb2 hbel B2
        go_wp2_with fail
        refine (at_any _ _ _ zs _ _ (HZ.out.below B3 (Nat.le_refl _)) q3).mono ?_
        rintro e w4 ⟨rfl, hb4⟩
        have ox4 := own_below ox3 hb4
        have oy4 := own_below oy3 hb4
        have t4 := hb4.size
        go_wp2_with fail
        refine (any_any _ (by omega) (by omega) _).mono ?_
        rintro e w5 ⟨rfl, hb5⟩
        have ox5 := own_below ox4 hb5
        have oy5 := own_below oy4 hb5
        have t5 := hb5.size
        clear ox3 ox4 oy3 oy4
        have HY : Hid (flat (shortV zs 3 (k + 1)) = flat (shortV zs 3 k) ++ cl (anyV (atZ zs ((k : Int) + 3) % 9))) := by
          show _ = _
          rw [shortV_next, flat_snoc]
          rfl
        generalize anyV (atZ zs ((k : Int) + 3) % 9) = y at HY ⊢
        go_wp2_with (at_builtin; refine wpList_append_lies _ rfl (.tmp 36) (.tmp 43) 31 rfl w.heap.size 23 i0 _ 3 32 Try.underlying31 hi hz0 hz1 hz2 rfl (by decide) _ _ _ rfl (oy5.alloc _) ⟨w5.heap.size, 0, none⟩ 1 1 (cl y) rfl rfl ?d1 ?d2 ?d3 ?d4 ?d5 ?d6 _ rfl ?_)
        case d1 => exact World.news_of_block (cs := #[.int .i64 y.k, .int .i64 y.n, .string y.s]) (t := 23) (fr := (0, 0)) (heap_alloc_new w5 _)
        case d2 => simp [Value.oneCell', cl]
        case d3 => omega
        case d4 => simp [maxLen]; omega
        case d5 => omega
        case d6 => simp; omega
        intro g6 c6 w6 oy6 hg6 hat6 hlt6
        have B5 : Below w.heap.size w w5 := (B3.trans (hb4.mono (by omega))).trans (hb5.mono (by omega))
        have B6 : Below w.heap.size w w6 := (B5.alloc (by omega) _).grown hg6 (by simp; omega) (fun j hj => (oy5.lt j hj).1)
        have hap6 : Apart (.slice (some ⟨g3, 0, none⟩) (k + 1) c3) (.slice (some ⟨g6, 0, none⟩) (k + 1) c6) := by
          intro g hg hu
          simp only [Value.ownBlock, Option.some.injEq] at hg hu
          subst hg
          rcases hat6 with h | h
          · exact hap3.out _ rfl (h.trans (by rw [hu]))
          · have := (ox5.lt g3 rfl).2
            have h' : g6 = w5.heap.size + 1 := by simpa using h
            omega
        have ox6 := (ox5.alloc _).kept hg6 (Apart.kept (v := u10) (fun g h1 h2 => hap3.out g h2 h1))
        rw [← HY.out] at oy6
        have HAP6 := Lib.hid hap6
        clear hap6 hap3 ox5 oy5 hg6 hat6 HY hb4 hb5 B3 B5
        go_wp2_with fail
        go_roundw
        case rel => exact ⟨k + 1, by omega, by go_num, ox6, oy6, HAP6.out, B6⟩
        case measure => simp [intOf]; omega
      · obtain rfl : k = m := by omega
        obtain ⟨ax, cx, rfl, vx, _⟩ := own_vals ox (shortV_length zs 0 k)
        obtain ⟨ay, cy, rfl, vy, _⟩ := own_vals oy (shortV_length zs 3 k)
        have VX := Lib.hid vx
        have VY := Lib.hid vy
        clear vx vy ox oy HAP
        cases a1 with
        | none =>
          obtain ⟨hL1, hA1⟩ := HV1.out
          have hz : as1 = [] := by
            rcases hA1 with h | ⟨_, _, h, _⟩
            · exact h
            · cases h
          subst hz
          obtain rfl : len1 = 0 := by simpa using hL1.symm
          obtain rfl : cap1 = 0 := HN1.out rfl
          have L1 := Lib.hid hL1
          clear hL1 hA1 HN1
          have o8 : wr.ownsRow w.heap.size 23 3 (.slice none 0 0) 0 (flat []) := World.ownsRow_nil _ _ _ _
          have B8 := hbel
          have R8 := Below.refl wr.heap.size wr
          have H8 : Hid (∀ j, (Value.slice none 0 0).ownBlock = some j → wr.heap.size ≤ j) := by intro j hj; simp [Value.ownBlock] at hj
          have s8 := B8.size
          go_wp2_with (first | (at_builtin; refine wpList_append_own_none rfl (.const (.slice none 0 0)) (.tmp 45) 31 rfl w.heap.size 23 i0 3 Try.underlying31 hi _ 0 [] rfl (World.ownsRow_nil _ _ _ _) rfl ?_) | (at_builtin; refine wpList_append_own _ rfl (.tmp 46) (.tmp 48) 31 rfl w.heap.size 23 i0 _ 3 32 Try.underlying31 hi hz0 hz1 hz2 rfl (by decide) _ _ _ rfl (o8.alloc _) ⟨wr.heap.size, 0, none⟩ 1 1 (cl ⟨0, 0, ⟨#[]⟩⟩) rfl rfl ?e1 ?e2 ?e3 ?e4 ?e5 ?_))
          case e1 => exact World.news_of_block (cs := #[.int .i64 0, .int .i64 0, .string ⟨#[]⟩]) (t := 23) (fr := (0, 0)) (heap_alloc_new wr _)
          case e2 => simp [Value.oneCell', cl]
          case e3 => first | (simp [maxLen]; done) | (simp [maxLen]; omega)
          case e4 => omega
          case e5 => first | (simp; done) | (simp; omega)
          intro v9 w9 o9 hg9 _
          have B9 : Below w.heap.size w w9 := (B8.alloc (by omega) _).grown hg9 (by first | (simp; done) | (simp; omega)) (fun j hj => (o8.lt j hj).1)
          have R9 : Below wr.heap.size wr w9 := by
            refine ((R8.alloc (by have := R8.size; omega) _).grown hg9 (by have := R8.size; first | (simp; done) | (simp; omega)) ?_)
            exact H8.out
          rw [← flat_snoc] at o9
          obtain ⟨a9, c9, rfl, v9v, _⟩ := own_vals o9 (by simp [L1.out])
          have V9 := Lib.hid v9v
          clear o9 v9v o8 hg9
          have VX9 := Lib.hid (VX.out.below R9 (Nat.le_refl _))
          have VY9 := Lib.hid (VY.out.below R9 (Nat.le_refl _))
          have A9 := Lib.hid (HV1.out.below B9 (Nat.le_refl _))
          have D9 := Lib.hid (HV2.out.below B9 (Nat.le_refl _))
          clear R8 R9 VX VY
          go_wp2_with fail
          refine (rows_any _ _ _ _ _ _ _ _ _ A9.out D9.out q1 q2).mono ?_
          rintro e u1 ⟨rfl, hb1⟩
          go_wp2_with fail
          refine (rrows_any _ _ _ _ _ _ _ _ _ (A9.out.below hb1 (Nat.le_refl _)) (D9.out.below hb1 (Nat.le_refl _)) q1 q2).mono ?_
          rintro e u2 ⟨rfl, hb2⟩
          have hc2 := hb1.trans (hb2.mono hb1.size)
          clear hb1 hb2
          go_wp2_with fail
          refine (rows_any _ _ _ _ _ _ _ _ _ (VX9.out.below hc2 (Nat.le_refl _)) (VY9.out.below hc2 (Nat.le_refl _)) (by omega) (by omega)).mono ?_
          rintro e u3 ⟨rfl, hb3⟩
          have hc3 := hc2.trans (hb3.mono hc2.size)
          clear hb3 hc2
          go_wp2_with fail
          refine (rrows_any _ _ _ _ _ _ _ _ _ (VX9.out.below hc3 (Nat.le_refl _)) (VY9.out.below hc3 (Nat.le_refl _)) (by omega) (by omega)).mono ?_
          rintro e u4 ⟨rfl, hb4⟩
          have hc4 := hc3.trans (hb4.mono hc3.size)
          clear hb4 hc3
          go_wp2_with fail
          refine (rows_any _ _ _ _ _ _ _ _ _ (A9.out.below hc4 (Nat.le_refl _)) (V9.out.below hc4 (Nat.le_refl _)) q1 (by omega)).mono ?_
          rw [(cmpR_longer _ _).1]
          rintro e u5 ⟨rfl, hb5⟩
          have hc5 := hc4.trans (hb5.mono hc4.size)
          clear hb5 hc4
          go_wp2_with fail
          refine (rows_any _ _ _ _ _ _ _ _ _ (V9.out.below hc5 (Nat.le_refl _)) (A9.out.below hc5 (Nat.le_refl _)) (by omega) q1).mono ?_
          rw [(cmpR_longer _ _).2]
          rintro e u6 ⟨rfl, hb6⟩
          have hc6 := hc5.trans (hb6.mono hc5.size)
          clear hb6 hc5
          go_wp2_with fail
          refine (rows_any _ _ _ _ _ _ _ _ _ (A9.out.below hc6 (Nat.le_refl _)) (A9.out.below hc6 (Nat.le_refl _)) q1 q1).mono ?_
          rw [cmpR_self]
          rintro e u7 ⟨rfl, hb7⟩
          have hc7 := hc6.trans (hb7.mono hc6.size)
          clear hb7 hc6
          go_wp2_with fail
          refine (known_any _).mono ?_
          rintro e u8 ⟨rfl, hb8⟩
          go_wp2_with fail
          go_ret
          exact ⟨rfl, (B9.trans (hc7.mono B9.size)).trans (hb8.mono (by have := B9.size; have := hc7.size; omega))⟩
        | some ad =>
          have hcl : ∀ j u, (flat as1)[j]? = some u → wr.cell? (ad.add j) = some u := by
            obtain ⟨hL1, hA1⟩ := HV1.out
            rcases hA1 with rfl | ⟨b, off, ha, hb, hat⟩
            · intro j u h; simp [flat] at h
            · cases ha
              intro j u h
              have hadd : (⟨b, off, none⟩ : Addr).add j = ⟨b, off + j, none⟩ := by unfold Addr.add; split <;> simp_all
              rw [hadd]
              exact vals_cells as1 (hat.below hbel hb) j u h
          have HCL := Lib.hid hcl
          have L1 : Hid (as1.length = len1) := HV1.out.1
          clear hcl HN1
          have hfl : (flat as1).length = len1 * 3 := by rw [flat_length, L1.out]
          have HFL := Lib.hid hfl
          clear hfl
          go_wp2_with (at_builtin; refine wpList_append_own _ rfl (.const (.slice none 0 0)) (.tmp 45) 31 rfl wr.heap.size 23 i0 _ 3 32 Try.underlying31 hi hz0 hz1 hz2 rfl (by decide) _ 0 [] rfl (World.ownsRow_nil _ _ _ _) ad len1 cap1 (flat as1) rfl HFL.out HCL.out ?f1 ?f2 ?f3 ?f4 ?_)
          case f1 => exact fun u hu => cells_one as1 u hu
          case f2 => simp [maxLen]; omega
          case f3 => omega
          case f4 => omega
          intro v8 w8 o8' hg8 _
          have o8 : w8.ownsRow w.heap.size 23 3 v8 len1 (flat as1) := by
            refine ⟨o8'.1, ?_⟩
            rcases o8'.2 with h | ⟨g, cap, cur, h1, h2, h3⟩
            · exact .inl h
            · exact .inr ⟨g, cap, cur, h1, by omega, h3⟩
          have B8 : Below w.heap.size w w8 := hbel.grown hg8 (by omega) (fun k hk => by simp [Value.ownBlock] at hk)
          have R8 : Below wr.heap.size wr w8 := (Below.refl _ _).grown hg8 (Nat.le_refl _) (fun k hk => by simp [Value.ownBlock] at hk)
          have H8 : Hid (∀ j, v8.ownBlock = some j → wr.heap.size ≤ j) := fun j hj => (o8'.lt j hj).1
          clear o8' hg8
          have s8 := B8.size
          go_wp2_with (at_builtin; refine wpList_append_own _ rfl (.tmp 46) (.tmp 48) 31 rfl w.heap.size 23 i0 _ 3 32 Try.underlying31 hi hz0 hz1 hz2 rfl (by decide) _ _ _ rfl (o8.alloc _) ⟨w8.heap.size, 0, none⟩ 1 1 (cl ⟨0, 0, ⟨#[]⟩⟩) rfl rfl ?g1 ?g2 ?g3 ?g4 ?g5 ?_)
          case g1 => exact World.news_of_block (cs := #[.int .i64 0, .int .i64 0, .string ⟨#[]⟩]) (t := 23) (fr := (0, 0)) (heap_alloc_new w8 _)
          case g2 => simp [Value.oneCell', cl]
          case g3 => first | (simp [maxLen]; done) | (simp [maxLen]; omega)
          case g4 => omega
          case g5 => first | (simp; done) | (simp; omega)
          intro v9 w9 o9 hg9 _
          have B9 : Below w.heap.size w w9 := (B8.alloc (by omega) _).grown hg9 (by first | (simp; done) | (simp; omega)) (fun j hj => (o8.lt j hj).1)
          have R9 : Below wr.heap.size wr w9 := by
            refine ((R8.alloc (by have := R8.size; omega) _).grown hg9 (by have := R8.size; first | (simp; done) | (simp; omega)) ?_)
            exact H8.out
          rw [← flat_snoc] at o9
          obtain ⟨a9, c9, rfl, v9v, _⟩ := own_vals o9 (by simp [L1.out])
          have V9 := Lib.hid v9v
          clear o9 v9v o8 hg9
          have VX9 := Lib.hid (VX.out.below R9 (Nat.le_refl _))
          have VY9 := Lib.hid (VY.out.below R9 (Nat.le_refl _))
          have A9 := Lib.hid (HV1.out.below B9 (Nat.le_refl _))
          have D9 := Lib.hid (HV2.out.below B9 (Nat.le_refl _))
          clear R8 R9 VX VY
          go_wp2_with fail
          refine (rows_any _ _ _ _ _ _ _ _ _ A9.out D9.out q1 q2).mono ?_
          rintro e u1 ⟨rfl, hb1⟩
          go_wp2_with fail
          refine (rrows_any _ _ _ _ _ _ _ _ _ (A9.out.below hb1 (Nat.le_refl _)) (D9.out.below hb1 (Nat.le_refl _)) q1 q2).mono ?_
          rintro e u2 ⟨rfl, hb2⟩
          have hc2 := hb1.trans (hb2.mono hb1.size)
          clear hb1 hb2
          go_wp2_with fail
          refine (rows_any _ _ _ _ _ _ _ _ _ (VX9.out.below hc2 (Nat.le_refl _)) (VY9.out.below hc2 (Nat.le_refl _)) (by omega) (by omega)).mono ?_
          rintro e u3 ⟨rfl, hb3⟩
          have hc3 := hc2.trans (hb3.mono hc2.size)
          clear hb3 hc2
          go_wp2_with fail
          refine (rrows_any _ _ _ _ _ _ _ _ _ (VX9.out.below hc3 (Nat.le_refl _)) (VY9.out.below hc3 (Nat.le_refl _)) (by omega) (by omega)).mono ?_
          rintro e u4 ⟨rfl, hb4⟩
          have hc4 := hc3.trans (hb4.mono hc3.size)
          clear hb4 hc3
          go_wp2_with fail
          refine (rows_any _ _ _ _ _ _ _ _ _ (A9.out.below hc4 (Nat.le_refl _)) (V9.out.below hc4 (Nat.le_refl _)) q1 (by omega)).mono ?_
          rw [(cmpR_longer _ _).1]
          rintro e u5 ⟨rfl, hb5⟩
          have hc5 := hc4.trans (hb5.mono hc4.size)
          clear hb5 hc4
          go_wp2_with fail
          refine (rows_any _ _ _ _ _ _ _ _ _ (V9.out.below hc5 (Nat.le_refl _)) (A9.out.below hc5 (Nat.le_refl _)) (by omega) q1).mono ?_
          rw [(cmpR_longer _ _).2]
          rintro e u6 ⟨rfl, hb6⟩
          have hc6 := hc5.trans (hb6.mono hc5.size)
          clear hb6 hc5
          go_wp2_with fail
          refine (rows_any _ _ _ _ _ _ _ _ _ (A9.out.below hc6 (Nat.le_refl _)) (A9.out.below hc6 (Nat.le_refl _)) q1 q1).mono ?_
          rw [cmpR_self]
          rintro e u7 ⟨rfl, hb7⟩
          have hc7 := hc6.trans (hb7.mono hc6.size)
          clear hb7 hc6
          go_wp2_with fail
          refine (known_any _).mono ?_
          rintro e u8 ⟨rfl, hb8⟩
          go_wp2_with fail
          go_ret
          exact ⟨rfl, (B9.trans (hc7.mono B9.size)).trans (hb8.mono (by have := B9.size; have := hc7.size; omega))⟩

end Go.Proofs.Ytnmlbafhdnffgaa
