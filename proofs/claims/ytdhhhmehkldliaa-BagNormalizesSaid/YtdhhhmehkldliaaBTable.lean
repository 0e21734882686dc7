/-
  table, of the laws: a drawn bag without its negative counts.
-/
import Derived.Test.YtdhhhmehkldliaaBDrawn
set_option linter.unusedVariables false
namespace Wh

def tabL (es : List En) : List En := es.filter fun e => decide (0 < e.cnt)
theorem tabL_no {es : List En} {k : Nat} {e : En} (h : es[k]? = some e) (h0 : ¬ 0 < e.cnt) : tabL (es.take (k + 1)) = tabL (es.take k) := by
  unfold tabL
  rw [List.take_add_one, h]
  simp [h0]
theorem tabL_yes {es : List En} {k : Nat} {e : En} (h : es[k]? = some e) (h0 : 0 < e.cnt) : tabL (es.take (k + 1)) = tabL (es.take k) ++ [e] := by
  unfold tabL
  rw [List.take_add_one, h]
  simp [h0]
theorem tabL_length (es : List En) : (tabL es).length ≤ es.length := List.length_filter_le _ _
theorem tabL_mem {es : List En} {e : En} (h : e ∈ tabL es) : e ∈ es ∧ 0 < e.cnt := by
  unfold tabL at h
  rw [List.mem_filter] at h
  exact ⟨h.1, by simpa using h.2⟩
theorem tabL_ok {es : List En} (h : OkBag es) : OkBag (tabL es) where
  len := Nat.le_trans (tabL_length es) h.len
  bag := ⟨List.Pairwise.filter _ h.bag.asc, fun e he => by have := (tabL_mem he).2; omega⟩
  fit := fun e he => h.fit e (tabL_mem he).1
theorem tabL_pos (es : List En) : posB (tabL es) = true := by
  unfold posB
  rw [List.all_eq_true]
  intro e he
  simpa using (tabL_mem he).2

end Wh
namespace Go.Proofs.Ytdhhhmehkldliaa
open Go.RowKit Wh

set_option maxHeartbeats 4000000
set_option maxRecDepth 100000

theorem table_any (a : Option Addr) (len cap : Nat) (zs : List Int) (n : Nat) (w : World) (hz : IsInts w a len zs) (hl : len ≤ 9223372036854775807) (hn : n ≤ 1000) :
    Calls Try.prog 36 #[.slice a len cap, .int .i64 n] w (EntsPost w (tabL (bagZ zs n))) := by
  have C1 := Lib.hid (bag_any a len cap zs n w hz hl hn)
  have hbl := bagZ_length zs hn
  generalize bagZ zs n = es at *
  obtain ⟨i0, hi, hz0, hz1, hz2⟩ := info_parts info_ent
  clear hz
  go_enter Try.func36, Try.ntmps36
  go_wp2_with fail
  refine C1.out.mono ?_
  rintro e w1 ⟨v1, rfl, ho1, hb1⟩
  obtain ⟨a5, k5, rfl, hi5, i1, i2, i3, _⟩ := own_ents ho1
  have HS := Lib.hid hi5
  have hs1 := hb1.size
  clear C1 ho1 hi5
  go_wp2_with fail
  go_loopw [5, 7] (fun ov iv wr => ∃ k : Nat, k ≤ es.length ∧ iv = .int .i64 k ∧ OwnEnts wr w1.heap.size ov (tabL (es.take k)) ∧ Below w1.heap.size w1 wr) (fun _ i _ => es.length - (intOf i).toNat)
  case atStart => exact ⟨0, Nat.zero_le _, rfl, OwnEnts.nil _ _, Below.refl _ _⟩
  case round =>
    obtain ⟨k, hk, rfl, hO, hbel⟩ := hrel
    have HO := Lib.hid hO
    clear hO
    have hs9 := hbel.size
    by_cases hlt : k < es.length
    · obtain ⟨r, m, ra, rl, rc, b, off, hx, rfl, hbl1, c0, c1, hv, g1, g2, g3⟩ := HS.out.at hlt
      have hrow : IsRow w1 (.slice ra rl rc) r := ⟨ra, rl, rc, rfl, hv, g1, g2, g3⟩
      have e := fun o => hbel.cell (p := ⟨b, o, none⟩) hbl1
      rw [← e] at c0 c1
      by_cases hm : 0 < m
      · have hN := tabL_yes hx hm
        have hl9 := tabL_length (es.take k)
        rw [List.length_take] at hl9
        obtain ⟨l9, ho9, PUSH⟩ := pushed m HO.out hrow hbel
        have hl9' : (tabL (es.take k)).length ≤ 4096 := by omega
        rw [← hN] at PUSH
        have HP := Lib.hid PUSH
        generalize tabL (es.take k) = acc at *
        clear e PUSH hx hv hN hl9 hrow HS
        go_wp2_with (at_builtin; refine wpList_append_lies _ rfl _ _ 22 rfl w1.heap.size 30 i0 _ 2 32 Try.underlying22 hi hz0 hz1 hz2 rfl (by decide) _ _ _ rfl (ho9.alloc _) ⟨wr.heap.size, 0, none⟩ 1 1 [.slice ra rl rc, .int .i64 m] rfl rfl (World.news_of_block (cs := #[.slice ra rl rc, .int .i64 m]) (t := 30) (fr := (0, 0)) (heap_alloc_new wr _)) (by simp [Value.oneCell']) (by omega) (by unfold maxLen; omega) (by omega) (by simp; omega) (wr.heap.size + 1) (by simp) ?_)
        intro gg cc w9 hown9 hgrow9 hat9 hlt9
        obtain ⟨hO3, hB3⟩ := HP.out _ gg cc w9 ((Below.refl _ _).alloc (Nat.le_refl _) _) hown9 hgrow9 (hat9.imp id fun h => by rw [h]; simp)
        clear HP hown9 hgrow9 hat9 hlt9 ho9
        go_wp2_with fail
        go_roundw
        case rel => exact ⟨k + 1, by omega, by go_num, hO3, hB3⟩
        case measure => simp [intOf]; omega
      · have HN := Lib.hid (tabL_no hx hm)
        clear e hx hv hrow
        go_wp2_with fail
        go_roundw
        case rel => exact ⟨k + 1, by omega, by go_num, by rw [HN.out]; exact HO.out, hbel⟩
        case measure => simp [intOf]; omega
    · have hke : k = es.length := by omega
      have hE : es.take k = es := List.take_of_length_le (by omega)
      rw [hE] at HO
      clear hE
      go_wp2_with fail
      go_ret
      exact ⟨_, rfl, HO.out.mono hs1, hb1.trans (hbel.mono hs1)⟩

end Go.Proofs.Ytdhhhmehkldliaa
