/-
  Distinct, of the program.
-/
import Derived.Test.YtdhhhmehkldliaaBPSum
set_option linter.unusedVariables false
set_option maxRecDepth 100000
namespace Wh

theorem onceL_nz (es : List En) : nzL (onceL es) = onceL es := nzL_self fun e he => by
  unfold onceL at he
  obtain ⟨x, hx, rfl⟩ := List.mem_map.1 he
  simp

end Wh
namespace Go.Proofs.Ytdhhhmehkldliaa
open Go.RowKit Wh

/-- A block that is made behind a block that was made. -/
theorem new_behind {w : World} {o : Obj} (o2 : Obj) : ((w.alloc o).alloc o2).heap[w.heap.size + 1]? = some o2 := by
  have h := heap_alloc_new (w.alloc o) o2
  rw [show (w.alloc o).heap.size = w.heap.size + 1 by simp] at h
  exact h

set_option maxHeartbeats 4000000

theorem distinct_any (a : Option Addr) (len cap : Nat) (es : List En) (w : World) (hs : IsEnts w a len es) (hl : len ≤ 9223372036854775807) :
    Calls Try.prog 37 #[.slice a len cap] w (EntsErr w (disOut es)) := by
  have hln := hs.1
  have c1 := validate_any6 a len cap es w hs hl
  unfold disOut
  by_cases hz : bagE es = 0
  · have ok := bagE_zero.1 hz
    rw [if_pos hz, resOut_eq, onceL_nz]
    rw [hz] at c1
    have hl5 : len ≤ 4096 := by have := ok.len; omega
    have RB := Lib.hid ok.rows
    have C1 := Lib.hid c1
    have HS := Lib.hid hs
    obtain ⟨i0, hi, hz0, hz1, hz2⟩ := info_parts info_ent
    clear c1 hs ok hz
    go_enter Try.func37, Try.ntmps37
    go_wp2_with fail
    refine C1.out.mono ?_
    rintro e w1 ⟨rfl, hb1⟩
    clear C1
    go_wp2_with fail
    go_loopw [5, 15] (fun ov iv wr => ∃ k : Nat, k ≤ len ∧ iv = .int .i64 k ∧ OwnEnts wr w.heap.size ov (onceL (es.take k)) ∧ Below w.heap.size w wr) (fun _ i _ => len - (intOf i).toNat)
    case atStart => exact ⟨0, Nat.zero_le _, rfl, OwnEnts.nil _ _, hb1⟩
    case round =>
      obtain ⟨k, hk, rfl, hO, hbel⟩ := hrel
      have HO := Lib.hid hO
      clear hO
      have hs9 := hbel.size
      by_cases hlt : k < len
      · obtain ⟨r, n, ra, rl, rc, b, off, hx, rfl, hbl, c0, c1, hv, g1, g2, g3⟩ := HS.out.at hlt
        have hrow : IsRow w (.slice ra rl rc) r := ⟨ra, rl, rc, rfl, hv, g1, g2, g3⟩
        have e := fun o => hbel.cell (p := ⟨b, o, none⟩) hbl
        rw [← e] at c0 c1
        by_cases hn : 0 < n
        · have hN := onceL_yes hx hn
          have hl9 := onceL_length (es.take k)
          rw [List.length_take] at hl9
          have hB2 := hbel.alloc hs9 (.cells #[.slice ra rl rc, .int .i64 n] 30)
          obtain ⟨l9, ho9, PUSH⟩ := pushed 1 (HO.out.alloc (.cells #[.slice ra rl rc, .int .i64 n] 30)) hrow hB2
          have hl9' : (onceL (es.take k)).length ≤ 4096 := by omega
          rw [← hN] at PUSH
          have HP := Lib.hid PUSH
          have HB2 := Lib.hid hB2
          generalize onceL (es.take k) = acc at *
          clear e PUSH hx hv hN hl9 hrow HS hln hB2
          go_wp2_with (at_builtin; refine wpList_append_lies _ rfl _ _ 22 rfl w.heap.size 30 i0 _ 2 32 Try.underlying22 hi hz0 hz1 hz2 rfl (by decide) _ _ _ rfl (ho9.alloc _) ⟨wr.heap.size + 1, 0, none⟩ 1 1 [.slice ra rl rc, .int .i64 1] rfl rfl (World.news_of_block (cs := #[.slice ra rl rc, .int .i64 1]) (t := 30) (fr := (0, 0)) (new_behind _)) (by simp [Value.oneCell']) (by omega) (by unfold maxLen; omega) (by omega) (by simp; omega) (wr.heap.size + 1 + 1) (by simp) ?_)
          intro gg cc w9 hown9 hgrow9 hat9 hlt9
          obtain ⟨hO3, hB3⟩ := HP.out _ gg cc w9 ((Below.refl _ _).alloc (Nat.le_refl _) _) hown9 hgrow9 (hat9.imp id fun h => by rw [h]; simp)
          clear HP hown9 hgrow9 hat9 hlt9 ho9
          go_wp2_with fail
          go_roundw
          case rel => exact ⟨k + 1, by omega, by go_num, hO3, hB3⟩
          case measure => simp [intOf]; omega
        · have hN := onceL_no hx hn
          have HN := Lib.hid hN
          have HB2 := Lib.hid (hbel.alloc hs9 (.cells #[.slice ra rl rc, .int .i64 n] 30))
          have HO2 := Lib.hid (HO.out.alloc (.cells #[.slice ra rl rc, .int .i64 n] 30))
          clear e hx hv hN hrow
          go_wp2_with fail
          go_roundw
          case rel => exact ⟨k + 1, by omega, by go_num, by rw [HN.out]; exact HO2.out, HB2.out⟩
          case measure => simp [intOf]; omega
      · obtain rfl : k = len := by omega
        have hE : es.take k = es := List.take_of_length_le (by omega)
        rw [hE] at HO
        have hl1 : (onceL es).length ≤ 1000000 := by have := onceL_length es; omega
        have R1 := Lib.hid RB.out.once
        obtain ⟨a5, k5, rfl, hi1, i1, i2, i3, _⟩ := own_ents HO.out
        generalize onceL es = e1 at *
        clear hE
        go_wp2_with fail
        refine (result_any a5 e1.length k5 e1 wr hi1 hl1 R1.out).mono ?_
        rintro e w3 ⟨v3, rfl, ho3, hb3⟩
        go_wp2_with fail
        go_ret2
        exact ⟨_, rfl, ho3.mono hs9, hbel.trans (hb3.mono hs9)⟩
  · rw [if_neg hz]
    generalize bagE es = z at *
    have hz0 : (z == 0) = false := by simpa using hz
    have C1 := Lib.hid c1
    clear c1 hs hz
    go_enter Try.func37, Try.ntmps37
    go_wp2_with fail
    refine C1.out.mono ?_
    rintro e w1 ⟨rfl, hb1⟩
    go_wp2_with fail
    go_ret2
    exact ⟨_, rfl, OwnEnts.nil _ _, hb1⟩

end Go.Proofs.Ytdhhhmehkldliaa
