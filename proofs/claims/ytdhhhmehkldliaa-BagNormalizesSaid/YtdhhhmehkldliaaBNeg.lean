/-
  negated, of the reference.
-/
import Derived.Test.YtdhhhmehkldliaaBPush
import Derived.Deep.RegionLaw
import Derived.BigQuiet
set_option linter.unusedVariables false
namespace Wh

theorem absS_at {es : List En} {k : Nat} {e : En} (h : es[k]? = some e) : - absS es ≤ e.cnt ∧ e.cnt ≤ absS es := by
  induction es generalizing k with
  | nil => simp at h
  | cons x es ih =>
    have hn := absS_nonneg es
    cases k with
    | zero =>
      simp at h
      subst h
      unfold absS
      split <;> omega
    | succ k =>
      simp only [List.getElem?_cons_succ] at h
      have := ih h
      unfold absS
      split <;> omega
theorem negL_next {es : List En} {k : Nat} {e : En} (h : es[k]? = some e) : negL (es.take (k + 1)) = negL (es.take k) ++ [⟨e.row, - e.cnt⟩] := by
  unfold negL
  rw [List.take_add_one, h, List.map_append]
  rfl

end Wh
namespace Go.Proofs.Ytdhhhmehkldliaa
open Go.RowKit Wh

set_option maxHeartbeats 2000000 in
theorem rnegated_any (a : Option Addr) (len cap : Nat) (es : List En) (w : World) (hs : IsEnts w a len es) (hl : len ≤ 1000000) (hab : absS es ≤ 1000000000000) :
    Calls Try.prog 66 #[.slice a len cap] w (EntsPost w (negL es)) := by
  have hln := hs.1
  have HS := Lib.hid hs
  obtain ⟨i0, hi, hz0, hz1, hz2⟩ := info_parts info_ent
  clear hs
  go_enter Try.func66, Try.ntmps66
  go_wp2_with fail
  go_loopw [3, 4] (fun ov iv wr => ∃ k : Nat, k ≤ len ∧ iv = .int .i64 k ∧ OwnEnts wr w.heap.size ov (negL (es.take k)) ∧ Below w.heap.size w wr) (fun _ i _ => len - (intOf i).toNat)
  case atStart => exact ⟨0, Nat.zero_le _, rfl, OwnEnts.nil _ _, Below.refl _ _⟩
  case round =>
    obtain ⟨k, hk, rfl, hO, hbel⟩ := hrel
    have HO := Lib.hid hO
    clear hO
    by_cases hlt : k < len
    · obtain ⟨r, n, ra, rl, rc, b, off, hx, rfl, hbl, c0, c1, hv, g1, g2, g3⟩ := HS.out.at hlt
      have hrow : IsRow w (.slice ra rl rc) r := ⟨ra, rl, rc, rfl, hv, g1, g2, g3⟩
      have hb9 := absS_at hx
      have hN := negL_next hx
      have hl9 : (negL (es.take k)).length = k := by rw [negL_length, List.length_take]; omega
      simp only at hb9 hN
      have e := fun o => hbel.cell (p := ⟨b, o, none⟩) hbl
      rw [← e] at c0 c1
      obtain ⟨l9, ho9, PUSH⟩ := pushed (-n) HO.out hrow hbel
      rw [hl9] at ho9 PUSH
      rw [← hN] at PUSH
      have HP := Lib.hid PUSH
      have hs9 := hbel.size
      have hwn : IntKind.i64.wrap (-n) = -n := by rw [IntKind.wrap_i64]; omega
      have hk9 : (k : Int) < (len : Int) := by omega
      clear e PUSH hx hv hN hl9 hrow hb9
      go_wp2_with fail
      go_region_law (refine step_append_lies _ (by rfl) (.tmp 11) (.tmp 24) _ (by rfl) w.heap.size 30 i0 _ 2 32 Try.underlying22 hi hz0 hz1 hz2 rfl (by omega) _ _ _ (by rfl) ((ho9.alloc _).drew) ⟨wr.heap.size, 0, none⟩ 1 1 [.slice ra rl rc, .int .i64 (-n)] (by rfl) (by rfl) (World.news_of_block (cs := #[.slice ra rl rc, .int .i64 (-n)]) (t := 30) (fr := (0, 0)) (heap_alloc_new wr _)) (by simp [Value.oneCell']) (by omega) (by unfold maxLen; omega) (by omega) (by simp; omega) (wr.heap.size + 1) (by simp) ?_; intro gg cc w9 hown9 hgrow9 hat9 hlt9)
      all_goals
        obtain ⟨hO3, hB3⟩ := HP.out _ gg cc w9 (((Below.refl _ _).alloc (Nat.le_refl _) _).drew) hown9 hgrow9 (hat9.imp id fun h => by rw [h]; simp)
        clear HP hown9 hgrow9 hat9 hlt9 ho9
        go_wp2_with fail
        go_roundw
        case rel => exact ⟨k + 1, by omega, by go_num, hO3, hB3⟩
        case measure => simp [intOf]; omega
    · obtain rfl : k = len := by omega
      have hE : es.take k = es := List.take_of_length_le (by omega)
      rw [hE] at HO
      clear hE
      go_wp2_with fail
      go_ret
      exact ⟨_, rfl, HO.out, hbel⟩

end Go.Proofs.Ytdhhhmehkldliaa
