/-
  result, of the program: a bag in new memory, or ErrLimit.
-/
import Derived.Test.YtdhhhmehkldliaaBPOwn
import Derived.Test.YtdhhhmehkldliaaBPRead
import Derived.Test.YtdhhhmehkldliaaBPlan
set_option linter.unusedVariables false
set_option maxRecDepth 100000
namespace Wh

theorem resP_long {es : List En} (h : 4096 < es.length) : resP es = ([], 2) := by
  unfold resP
  rw [if_neg (by rintro ⟨h1, _⟩; omega)]
theorem resP_bad {es : List En} {k : Nat} {e : En} (h : es[k]? = some e) (hb : smallB e.cnt = false) : resP es = ([], 2) := by
  unfold resP
  rw [if_neg]
  rintro ⟨_, h2⟩
  have := h2 e (List.mem_of_getElem? h)
  rw [hb] at this
  cases this
theorem resP_good {es : List En} (h1 : es.length ≤ 4096) (h2 : ∀ e ∈ es, smallB e.cnt = true) : resP es = (es, 0) := by
  unfold resP
  rw [if_pos ⟨h1, h2⟩]

end Wh
namespace Go.Proofs.Ytdhhhmehkldliaa
open Go.RowKit Wh

/-- What the last region of a round of result asks of its worlds. -/
def KeepRes (B g n cap X : Nat) (es : List En) (rv : Value) (m : Int) (W0 W : World) : Prop :=
  OwnEnts W B (.slice (some ⟨g, 0, none⟩) n cap) es ∧ W.cell? ⟨X, 0, none⟩ = some rv ∧ W.cell? ⟨X, 1, none⟩ = some (.int .i64 m) ∧ g < W.heap.size ∧ X < W.heap.size ∧ B ≤ W.heap.size ∧ Below B W0 W
theorem KeepRes.on {B g n cap X : Nat} {es : List En} {rv : Value} {m : Int} {W0 W w' : World} (h : KeepRes B g n cap X es rv m W0 W) (hb : Below W.heap.size W w') : KeepRes B g n cap X es rv m W0 w' := by
  obtain ⟨h1, h2, h3, h4, h5, h6, h7⟩ := h
  have e := (bcell hb).1
  have hs := hb.size
  exact ⟨h1.below hb, by rw [e _ _ h5]; exact h2, by rw [e _ _ h5]; exact h3, by omega, by omega, by omega, h7.trans (hb.mono h6)⟩

set_option maxHeartbeats 4000000 in
theorem result_any (a : Option Addr) (len cap : Nat) (es : List En) (w : World) (hs : IsEnts w a len es) (hl : len ≤ 1000000) (hrw : ∀ e ∈ es, e.row.length ≤ 1000000) :
    Calls Try.prog 55 #[.slice a len cap] w (EntsErr w (resP es)) := by
  have hln := hs.1
  by_cases hbig : 4096 < len
  · rw [resP_long (by omega)]
    clear hs hrw hln
    go_enter Try.func55, Try.ntmps55
    go_wp2_with fail
    go_ret2
    exact ⟨_, rfl, OwnEnts.nil _ _, Below.refl _ _⟩
  have HS := Lib.hid hs
  have HRW := Lib.hid hrw
  have HBAD := Lib.hid (fun (k : Nat) (e : En) h hb => resP_bad (es := es) (k := k) (e := e) h hb)
  have HGOOD := Lib.hid (fun h2 => resP_good (es := es) (by omega) h2)
  obtain ⟨i0, hi, hz0, hz1, hz2⟩ := info_parts info_ent
  generalize resP es = E at *
  clear hs hrw
  go_enter Try.func55, Try.ntmps55
  go_wp2_with (refine wpList_make_full _ rfl (.tmp 11) (.tmp 11) 22 rfl w.heap.size 30 i0 _ 2 Try.underlying22 hi hz0 hz1 .i64 .i64 _ _ len rfl rfl rfl rfl ?c1 ?c2 (Nat.le_refl _) ?_)
  case c1 => rw [hz2]; omega
  case c2 => simp [maxLen]; omega
  intro w0 own0 hg0
  have B0 : Below w.heap.size w w0 := (Below.refl _ _).grown hg0 (Nat.le_refl _) (fun j hj => by cases hj)
  have own1 : OwnEnts w0 w.heap.size (.slice (some ⟨w.heap.size, 0, none⟩) len len) (halfE es 0) := by
    rw [halfE_zero, hln]
    exact OwnEnts.made own0
  have HO1 := Lib.hid own1
  clear own0 hg0 own1
  go_wp2_with fail
  go_loopw [15] (fun iv wr => ∃ k : Nat, k ≤ len ∧ iv = .int .i64 k ∧ OwnEnts wr w.heap.size (.slice (some ⟨w.heap.size, 0, none⟩) len len) (halfE es k) ∧ Hid (∀ e ∈ es.take k, smallB e.cnt = true) ∧ Below w.heap.size w wr) (fun i _ => len - (intOf i).toNat)
  case atStart => exact ⟨0, Nat.zero_le _, rfl, HO1.out, fun e he => (by simp at he), B0⟩
  case round =>
    obtain ⟨k, hk, rfl, hO, HSM, hbel⟩ := hrel
    have HO := Lib.hid hO
    have hsz := hbel.size
    clear hO
    by_cases hlt : k < len
    · obtain ⟨r, n, ra, rl, rc, b, off, hx, rfl, hbl, c0, c1, hv, g1, g2, g3⟩ := (HS.out.below hbel (Nat.le_refl _)).at hlt
      have hrl : r.length ≤ 1000000 := HRW.out _ (List.mem_of_getElem? hx)
      have hvl := hv.1
      have HX := Lib.hid hx
      have bx := ebox wr (.slice ra rl rc) n 30
      have hW1 : Below wr.heap.size wr (wr.alloc (.cells #[.slice ra rl rc, .int .i64 n] 30)) := (Below.refl _ _).alloc (Nat.le_refl _) _
      have hW1s : (wr.alloc (.cells #[.slice ra rl rc, .int .i64 n] 30)).heap.size = wr.heap.size + 1 := by simp
      have cs := fun W => iscount_any n W
      clear hx
      cases hsm : smallB n with
      | false =>
        obtain rfl := HBAD.out k _ HX.out hsm
        rw [hsm] at cs
        clear hv HBAD HGOOD hsm
        go_wp2_with (first | (go_at_call 73; refine (cs _).mono ?_; rintro e w1 ⟨rfl, rfl⟩))
        go_ret2
        exact ⟨_, rfl, OwnEnts.nil _ _, hbel.trans (hW1.mono hsz)⟩
      | true =>
        rw [hsm] at cs
        have HSM2 : Hid (∀ e ∈ es.take (k + 1), smallB e.cnt = true) := fun e he => by
          rw [List.take_add_one, HX.out] at he
          rcases List.mem_append.1 he with he | he
          · exact HSM.out e he
          · simp at he
            rw [he]
            exact hsm
        obtain ⟨g9, hgl⟩ : w.heap.size < wr.heap.size ∧ True := ⟨(own_size HO.out).2.2.2.2, trivial⟩
        have hsg := halfE_set HX.out
        have hhl : (halfE es k).length = len := by rw [halfE_length (by omega), hln]
        have hS0 : KeepRes w.heap.size w.heap.size len len wr.heap.size (halfE es k) (.slice ra rl rc) n w ((wr.alloc (.cells #[.slice ra rl rc, .int .i64 n] 30)).drew) :=
          ⟨(HO.out.alloc _).drew, bx.1, bx.2, by simp; omega, by simp, by simp; omega, (hbel.trans (hW1.mono hsz)).drew⟩
        have CC := Lib.hid (fun W (h : Below wr.heap.size wr W) => clonev_any ra rl rc r W (hv.below h (Nat.le_refl _)) g3 g1 (by omega))
        have HW1 := Lib.hid hW1
        have HSET := Lib.hid hsg
        have HAT := Lib.hid (halfE_at (es := es) (k := k) (by omega))
        generalize halfE es k = acc at *
        generalize hq2 : halfE es (k + 1) = acc2 at *
        have HQ := Lib.hid hq2
        have hks : k < acc.length := by omega
        clear hq2 hv HBAD HGOOD hsm hsg
        go_wp2_with (first | (go_at_call 73; refine (cs _).mono ?_; rintro e w1 ⟨rfl, rfl⟩))
        generalize hw1 : wr.alloc (.cells #[.slice ra rl rc, .int .i64 n] 30) = W1 at *
        have hW1d := HW1.out.drew
        obtain ⟨hO1, x0, x1, hg', hx', hsz', hbel'⟩ := hS0
        obtain ⟨_, _, _, z0, z1, f0, f1, _⟩ := own_entry hO1 HAT.out
        have HO1' := Lib.hid hO1
        clear hw1 bx hW1 hO1 HO hbel c0 c1 HO1 B0
        go_region_with (first | (go_at_call 70; refine (CC.out _ hW1d).mono ?_; rintro e w4 ⟨sv, rfl, hown, hb⟩; obtain ⟨hrow5, hfar5⟩ := clone_row hown hvl; obtain ⟨ra5, k5, rfl, _, _, _, _⟩ := own_rowv hown hvl; obtain ⟨hO4, y0, y1, hg4, hx4, hsz4, hbel4⟩ := KeepRes.on ⟨HO1'.out, x0, x1, hg', hx', hsz', hbel'⟩ hb; obtain ⟨_, _, _, q0, q1, j0, j1, _⟩ := own_entry hO4 HAT.out; have HFIN := Lib.hid (And.intro (hO4.setEnt hks n hrow5 (hfar5 _ fun j hj => by cases hj; exact hg')) ((hbel4.setCell (p := ⟨w.heap.size, k * 2, none⟩) (Nat.le_refl _) (.slice ra5 rl k5)).setCell (p := ⟨w.heap.size, k * 2 + 1, none⟩) (Nat.le_refl _) (.int .i64 n))); clear hown hrow5 hfar5 hO4))
        all_goals
          obtain ⟨hF1, hF2⟩ := HFIN.out
          rw [HSET.out] at hF1
          clear HFIN
          go_wp2_with fail
          go_roundw
          case rel => exact ⟨k + 1, by omega, by go_num, by rw [HQ.out]; exact hF1, HSM2, hF2⟩
          case measure => simp [intOf]; omega
    · obtain rfl : k = len := by omega
      have hE : es.take k = es := List.take_of_length_le (by omega)
      rw [hE] at HSM
      obtain rfl := HGOOD.out HSM.out
      have hO := HO.out
      rw [show halfE es k = es by rw [← hln]; exact halfE_end es] at hO
      have HO2 := Lib.hid hO
      clear hE HBAD HGOOD hO HO
      go_wp2_with fail
      go_ret2
      exact ⟨_, rfl, HO2.out, hbel⟩

end Go.Proofs.Ytdhhhmehkldliaa
