/-
  The reference's Encode: it returns the same encoding, and the same error.
-/
import Derived.Test.YtnmlbafhdnffgaaVals
import Derived.Deep.RegionHeld3
set_option linter.unusedVariables false
namespace Go.Proofs.Ytnmlbafhdnffgaa
open Go.RowKit Wh

section
variable {P : Program} {w : World}
/-- 'append(b, s...)', s a string, at a step of a region that draws its order. -/
theorem step_append_str {ops : Array Oper} {o : Oper} {a : Act} {K : Act → World → Prop} {Q : Exit → Act → World → Prop} {E : Prop} (hgd : o.guard = none) (sl x : Operand) (t u : TypeId)
    (ho : o.op = .call { callee := .builtin .append, args := #[sl, x], argTypes := #[t, u] })
    (base : Nat) (e : TypeId) (i : TypeInfo) (ht : P.underlying t = some (.slice e)) (hu : P.underlying u = some .string) (hi : P.info? e = some i) (hz : i.zero = some (.int .u8 0))
    (hsize : i.size = 1) (hby : i.bytes = 1)
    (v : Value) (n : Nat) (xs : List Value) (hs : a.eval sl = v) (hown : w.ownsRow base e 1 v n xs) (s : ByteArray) (hx : a.eval x = .string s)
    (h63 : n + s.size ≤ maxLen) (hbytes : n + s.size ≤ 140737488355328) (hbase : base ≤ w.heap.size)
    (h : ∀ v' w', w'.ownsRow base e 1 v' (n + s.size) (xs ++ Lib.strCells s) → w.grownBy w' v.ownBlock → K (a.put o.dst v') w') :
    if Region.wanted o (yielded ops a.tmps) = true then Oper.wp P o a w K Q else E := by
  have hw : Region.wanted o (yielded ops a.tmps) = true := by simp [Region.wanted, hgd]
  rw [if_pos hw]
  obtain ⟨v', w', hr, h2, h3, _⟩ := Lib.run_append_own_string (P := P) w base t u o.type e i ht hu hi hz hsize hby v n xs hown s h63 hbytes hbase
  unfold Oper.wp execOp
  simp only [ho, resolve, invoke, builtin, Sem.run_bind, Sem.run_pure, Result.andThen_ok, List.map_toArray, List.map_cons, List.map_nil, hs, hx, hr]
  exact h v' w' h2 h3
end

/-- A box: its block, and the text in it. -/
def BoxIs (W : World) (b : Nat) (cs : Array Value) : Prop := W.heap[b]? = some (.cells cs 23 (0, 0))

theorem box_alloc {W : World} {b : Nat} {cs : Array Value} {s : ByteArray} (o : Obj) (hs : cs[2]? = some (.string s)) (h : W.cell? ⟨b, 2, none⟩ = some (.string s) ∧ BoxIs W b cs) : (W.alloc o).cell? ⟨b, 2, none⟩ = some (.string s) ∧ BoxIs (W.alloc o) b cs := by
  have h2 : BoxIs (W.alloc o) b cs := old_block h.2
  exact ⟨(cell_of_row _ _ _ _ _ _ h2).trans hs, h2⟩

theorem box_grown {W W1 : World} {base n b : Nat} {v : Value} {xs : List Value} {cs : Array Value} {s : ByteArray} (hs : cs[2]? = some (.string s)) (hown : W.ownsRow base 5 1 v n xs) (hg : W.grownBy W1 v.ownBlock)
    (h : W.cell? ⟨b, 2, none⟩ = some (.string s) ∧ BoxIs W b cs) : W1.cell? ⟨b, 2, none⟩ = some (.string s) ∧ BoxIs W1 b cs := by
  have h2 : BoxIs W1 b cs := grown_block hg h.2 (own_ne hown h.2 (by decide))
  exact ⟨(cell_of_row _ _ _ _ _ _ h2).trans hs, h2⟩

/-- The bytes so far. -/
def soFar (len : Nat) (vs : List V) (k : Nat) : List UInt8 := UInt8.ofNat len :: (vs.take k).flatMap encV

theorem soFar_next {len k : Nat} {vs : List V} {v : V} (h : vs[k]? = some v) : soFar len vs (k + 1) = soFar len vs k ++ encV v := by
  unfold soFar
  rw [take_next h]
  simp

theorem soFar_len {len k : Nat} {vs : List V} (hval : ∀ v, v ∈ vs.take k → validB v.k v.n v.s = true) : (soFar len vs k).length ≤ 1 + 66 * k := by
  have h1 := flat_len hval
  have h2 : (vs.take k).length ≤ k := List.length_take_le _ _
  simp only [soFar, List.length_cons]
  omega

theorem B_one (u : Value) (b : UInt8) (l : List UInt8) (h : u ∈ l.map B) : u.oneCell' = true := by
  obtain ⟨x, _, rfl⟩ := List.mem_map.1 h
  rfl

/-- What a round of the reference's loop comes to. -/
theorem next_row {len k n : Nat} {vs : List V} {v : V} {W : World} {base : Nat} {sv : Value} {news : List Value} (hv : vs[k]? = some v) (hn : (encV v).map B = news)
    (h : W.ownsRow base 5 1 sv n ((soFar len vs k).map B ++ news)) (hk : n = (soFar len vs k).length + news.length) : W.ownsRow base 5 1 sv (soFar len vs (k + 1)).length ((soFar len vs (k + 1)).map B) := by
  rw [soFar_next hv, List.length_append, List.map_append, hn]
  have e : (encV v).length = news.length := by rw [← hn, List.length_map]
  rw [e, ← hk]
  exact h

theorem next_valid {vs : List V} {k : Nat} {v : V} (hv : vs[k]? = some v) (hval : ∀ x, x ∈ vs.take k → validB x.k x.n x.s = true) (h : validB v.k v.n v.s = true) : ∀ x, x ∈ vs.take (k + 1) → validB x.k x.n x.s = true := by
  rw [take_next hv]
  intro x hx
  rcases List.mem_append.1 hx with hx | hx
  · exact hval x hx
  · simp only [List.mem_singleton] at hx
    subst hx
    exact h

set_option maxHeartbeats 4000000 in
theorem rencode_any (a : Option Addr) (len cap : Nat) (vs : List V) (w : World) (hvs : IsVals w a len vs) (hl : len ≤ 9223372036854775807) :
    Calls Try.prog 22 #[.slice a len cap] w (EncPost w (encOut vs)) := by
  obtain ⟨hlen, hvs⟩ := hvs
  by_cases h12 : 12 < len
  · have ho : encOut vs = ([], 2) := by unfold encOut; rw [if_pos (by omega)]
    have HO := Lib.hid ho
    have HL := Lib.hid hlen
    clear ho hlen hvs
    go_enter Try.func22, Try.ntmps22
    go_wp2
    go_ret2
    exact ⟨.slice none 0 0, by rw [HO.out]; rfl, by rw [HO.out]; exact World.ownsRow_nil _ _ _ _, Below.refl _ _⟩
  · have HL := Lib.hid hlen
    clear hlen
    obtain ⟨i0, hi, hz0, hz1, hz2⟩ := info_parts info_u8
    have hd : decide (12 < (len : Int)) = false := by simp; omega
    go_enter Try.func22, Try.ntmps22
    go_wp2_with fail
    go_loopw [4, 5] (fun bv iv wr => ∃ k : Nat, k ≤ len ∧ iv = .int .i64 k ∧ Hid (∀ v, v ∈ vs.take k → validB v.k v.n v.s = true) ∧
        wr.ownsRow w.heap.size 5 1 bv (soFar len vs k).length ((soFar len vs k).map B) ∧ Below w.heap.size w wr)
      (fun _ i _ => len - (intOf i).toNat)
    case atStart =>
      refine ⟨0, Nat.zero_le _, rfl, by show ∀ v, _; simp, ?_, (Below.refl _ _).alloc (Nat.le_refl _) _⟩
      have e : (soFar len vs 0).map B = [.int .u8 len] := by
        simp only [soFar, List.take_zero, List.flatMap_nil, List.map_cons, List.map_nil]
        congr 1
        unfold B
        rw [UInt8.toNat_ofNat']
        congr 1
        omega
      rw [e]
      exact ⟨rfl, .inr ⟨w.heap.size, 1, #[.int .u8 len], rfl, Nat.le_refl _, heap_alloc_new w _, Nat.le_refl _, by simp [maxLen], rfl, rfl⟩⟩
    case round =>
      obtain ⟨k, hk, rfl, hval, hown, hbel⟩ := hrel
      have hs := hbel.size
      by_cases hlt : k < len
      · obtain ⟨v, hv⟩ : ∃ v, vs[k]? = some v := ⟨_, List.getElem?_eq_getElem (by have := HL.out; omega)⟩
        rcases hvs with rfl | ⟨b, off, rfl, hb, hat⟩
        · simp at hv
        obtain ⟨hc0, hc1, hc2⟩ := (hat.below hbel hb) k v hv
        have HV := Lib.hid hv
        have HA := Lib.hid hat
        clear hv hat
        obtain ⟨vk, vn, vt⟩ := v
        by_cases hvv : validB vk vn vt = true
        · have hsl := soFar_len (len := len) hval.out
          go_wp2_with fail
          refine (rvalid_any _ _ _ _).mono ?_
          rintro e w1 ⟨rfl, hb1⟩
          have hs1 : wr.heap.size + 1 ≤ w1.heap.size := by have := hb1.size; simpa using this
          have hown1 := own_below (hown.alloc _) hb1
          have hB1 : Below w.heap.size w w1 := (hbel.alloc hs _).trans (hb1.mono (by simp; omega))
          have HB1 : Hid (w1.heap[wr.heap.size]? = some (.cells #[.int .i64 vk, .int .i64 vn, .string vt] 23 (0, 0))) := by
            show _ = _
            rw [hb1.block _ (by simp)]
            exact heap_alloc_new wr _
          have hbx0 : w1.cell? ⟨wr.heap.size, 0, none⟩ = some (.int .i64 vk) := cell_of_row _ _ _ _ _ _ HB1.out
          have HW : Hid (validB vk vn vt = true) := hvv
          rcases valid_cases hvv with ⟨rfl, rfl, _⟩ | ⟨rfl, rfl, _⟩ | ⟨rfl, rfl, _⟩ | ⟨rfl, q1, q2, _⟩ | ⟨rfl, rfl, q1⟩ | ⟨rfl, q1, q2, _⟩
          all_goals clear hc0 hc1 hc2
          · have HE : Hid ((encV ⟨0, 0, vt⟩).map B = [.int .u8 0]) := by show _ = _; simp [encV, B]
            go_wp2_with (at_builtin; refine wpList_append_own _ rfl (.tmp 27) (.tmp 31) 37 rfl w.heap.size 5 i0 (.int .u8 0) 1 1 Try.underlying37 hi hz0 hz1 hz2 rfl (by decide) _ _ _ rfl (hown1.alloc _) ⟨w1.heap.size, 0, none⟩ 1 1 [.int .u8 0] rfl rfl ?a1 ?a2 ?a3 ?a4 ?a5 ?_)
            case a1 => exact news1 (by simp)
            case a2 => simp [Value.oneCell']
            case a3 => simp [maxLen]; omega
            case a4 => omega
            case a5 => simp; omega
            intro v2 w2 hown2 hgrow2 _
            have HB2 : Hid (w2.heap[wr.heap.size]? = some (.cells #[.int .i64 0, .int .i64 0, .string vt] 23 (0, 0))) := grown_block hgrow2 (old_block HB1.out) (own_ne hown1 HB1.out (by decide))
            have hb0 : w2.cell? ⟨wr.heap.size, 0, none⟩ = some (.int .i64 0) := cell_of_row _ _ _ _ _ _ HB2.out
            have hb1' : w2.cell? ⟨wr.heap.size, 1, none⟩ = some (.int .i64 0) := cell_of_row _ _ _ _ _ _ HB2.out
            have hb2 : w2.cell? ⟨wr.heap.size, 2, none⟩ = some (.string vt) := cell_of_row _ _ _ _ _ _ HB2.out
            have hs2 : w1.heap.size + 1 ≤ w2.heap.size := by have := hgrow2.size; simpa using this
            have hB2 : Below w.heap.size w w2 := (hB1.alloc (by omega) _).grown hgrow2 (by simp; omega) (fun j hj => (hown1.lt j hj).1)
            have ho := next_row HV.out (news := [.int .u8 0]) HE.out hown2 (by first | (simp; done) | (simp; omega) | (simp [four]; done) | (simp [four]; omega))
            have hval2 := next_valid HV.out hval HW.out
            have hBB : Below w.heap.size w w2 := hB2
            clear hown hown1 hown2 hbel hb1 hgrow2 hb1' hb2 hB1 hB2 hval hbx0
            go_wp2_with fail
            go_roundw
            case rel => exact ⟨k + 1, by omega, by go_num, hval2, ho, hBB⟩
            case measure => simp [intOf]; omega
          · have HE : Hid ((encV ⟨1, 0, vt⟩).map B = [.int .u8 1, .int .u8 0]) := by show _ = _; simp [encV, B]
            go_wp2_with (at_builtin; refine wpList_append_own _ rfl (.tmp 27) (.tmp 31) 37 rfl w.heap.size 5 i0 (.int .u8 0) 1 1 Try.underlying37 hi hz0 hz1 hz2 rfl (by decide) _ _ _ rfl (hown1.alloc _) ⟨w1.heap.size, 0, none⟩ 1 1 [.int .u8 1] rfl rfl ?b1 ?b2 ?b3 ?b4 ?b5 ?_)
            case b1 => exact news1 (by simp)
            case b2 => simp [Value.oneCell']
            case b3 => simp [maxLen]; omega
            case b4 => omega
            case b5 => simp; omega
            intro v2 w2 hown2 hgrow2 _
            have HB2 : Hid (w2.heap[wr.heap.size]? = some (.cells #[.int .i64 1, .int .i64 0, .string vt] 23 (0, 0))) := grown_block hgrow2 (old_block HB1.out) (own_ne hown1 HB1.out (by decide))
            have hb0 : w2.cell? ⟨wr.heap.size, 0, none⟩ = some (.int .i64 1) := cell_of_row _ _ _ _ _ _ HB2.out
            have hb1' : w2.cell? ⟨wr.heap.size, 1, none⟩ = some (.int .i64 0) := cell_of_row _ _ _ _ _ _ HB2.out
            have hb2 : w2.cell? ⟨wr.heap.size, 2, none⟩ = some (.string vt) := cell_of_row _ _ _ _ _ _ HB2.out
            have hs2 : w1.heap.size + 1 ≤ w2.heap.size := by have := hgrow2.size; simpa using this
            have hB2 : Below w.heap.size w w2 := (hB1.alloc (by omega) _).grown hgrow2 (by simp; omega) (fun j hj => (hown1.lt j hj).1)
            go_wp2_with (at_builtin; refine wpList_append_own _ rfl (.tmp 37) (.tmp 41) 37 rfl w.heap.size 5 i0 (.int .u8 0) 1 1 Try.underlying37 hi hz0 hz1 hz2 rfl (by decide) _ _ _ rfl (hown2.alloc _) ⟨w2.heap.size, 0, none⟩ 1 1 [.int .u8 0] rfl rfl ?bc1 ?bc2 ?bc3 ?bc4 ?bc5 ?_)
            case bc1 => exact news1 (by simp)
            case bc2 => simp [Value.oneCell']
            case bc3 => simp [maxLen]; omega
            case bc4 => omega
            case bc5 => simp; omega
            intro v3 w3 hown3 hgrow3 _
            have hown4 : w3.ownsRow w.heap.size 5 1 v3 ((soFar len vs k).length + 1 + 1) ((soFar len vs k).map B ++ [.int .u8 1, .int .u8 0]) := by simpa using hown3
            have ho := next_row HV.out (news := [.int .u8 1, .int .u8 0]) HE.out hown4 (by first | (simp; done) | (simp; omega) | (simp [four]; done) | (simp [four]; omega))
            have hval2 := next_valid HV.out hval HW.out
            have hBB : Below w.heap.size w w3 := (hB2.alloc (by omega) _).grown hgrow3 (by simp; omega) (fun j hj => (hown2.lt j hj).1)
            clear hown3 hgrow3 hown hown1 hown2 hbel hb1 hgrow2 hb0 hb1' hb2 hB1 hB2 hval hbx0
            go_wp2_with fail
            go_roundw
            case rel => exact ⟨k + 1, by omega, by go_num, hval2, ho, hBB⟩
            case measure => simp [intOf]; omega
          · have HE : Hid ((encV ⟨1, 1, vt⟩).map B = [.int .u8 1, .int .u8 1]) := by show _ = _; simp [encV, B]
            go_wp2_with (at_builtin; refine wpList_append_own _ rfl (.tmp 27) (.tmp 31) 37 rfl w.heap.size 5 i0 (.int .u8 0) 1 1 Try.underlying37 hi hz0 hz1 hz2 rfl (by decide) _ _ _ rfl (hown1.alloc _) ⟨w1.heap.size, 0, none⟩ 1 1 [.int .u8 1] rfl rfl ?d1 ?d2 ?d3 ?d4 ?d5 ?_)
            case d1 => exact news1 (by simp)
            case d2 => simp [Value.oneCell']
            case d3 => simp [maxLen]; omega
            case d4 => omega
            case d5 => simp; omega
            intro v2 w2 hown2 hgrow2 _
            have HB2 : Hid (w2.heap[wr.heap.size]? = some (.cells #[.int .i64 1, .int .i64 1, .string vt] 23 (0, 0))) := grown_block hgrow2 (old_block HB1.out) (own_ne hown1 HB1.out (by decide))
            have hb0 : w2.cell? ⟨wr.heap.size, 0, none⟩ = some (.int .i64 1) := cell_of_row _ _ _ _ _ _ HB2.out
            have hb1' : w2.cell? ⟨wr.heap.size, 1, none⟩ = some (.int .i64 1) := cell_of_row _ _ _ _ _ _ HB2.out
            have hb2 : w2.cell? ⟨wr.heap.size, 2, none⟩ = some (.string vt) := cell_of_row _ _ _ _ _ _ HB2.out
            have hs2 : w1.heap.size + 1 ≤ w2.heap.size := by have := hgrow2.size; simpa using this
            have hB2 : Below w.heap.size w w2 := (hB1.alloc (by omega) _).grown hgrow2 (by simp; omega) (fun j hj => (hown1.lt j hj).1)
            go_wp2_with (at_builtin; refine wpList_append_own _ rfl (.tmp 37) (.tmp 41) 37 rfl w.heap.size 5 i0 (.int .u8 0) 1 1 Try.underlying37 hi hz0 hz1 hz2 rfl (by decide) _ _ _ rfl (hown2.alloc _) ⟨w2.heap.size, 0, none⟩ 1 1 [.int .u8 1] rfl rfl ?de1 ?de2 ?de3 ?de4 ?de5 ?_)
            case de1 => exact news1 (by simp)
            case de2 => simp [Value.oneCell']
            case de3 => simp [maxLen]; omega
            case de4 => omega
            case de5 => simp; omega
            intro v3 w3 hown3 hgrow3 _
            have hown4 : w3.ownsRow w.heap.size 5 1 v3 ((soFar len vs k).length + 1 + 1) ((soFar len vs k).map B ++ [.int .u8 1, .int .u8 1]) := by simpa using hown3
            have ho := next_row HV.out (news := [.int .u8 1, .int .u8 1]) HE.out hown4 (by first | (simp; done) | (simp; omega) | (simp [four]; done) | (simp [four]; omega))
            have hval2 := next_valid HV.out hval HW.out
            have hBB : Below w.heap.size w w3 := (hB2.alloc (by omega) _).grown hgrow3 (by simp; omega) (fun j hj => (hown2.lt j hj).1)
            clear hown3 hgrow3 hown hown1 hown2 hbel hb1 hgrow2 hb0 hb1' hb2 hB1 hB2 hval hbx0
            go_wp2_with fail
            go_roundw
            case rel => exact ⟨k + 1, by omega, by go_num, hval2, ho, hBB⟩
            case measure => simp [intOf]; omega
          · have HE : Hid ((encV ⟨2, vn, vt⟩).map B = [.int .u8 2] ++ (four (vn + 1073741824)).map B) := by show _ = _; simp [encV, B]
            go_wp2_with (at_builtin; refine wpList_append_own _ rfl (.tmp 27) (.tmp 31) 37 rfl w.heap.size 5 i0 (.int .u8 0) 1 1 Try.underlying37 hi hz0 hz1 hz2 rfl (by decide) _ _ _ rfl (hown1.alloc _) ⟨w1.heap.size, 0, none⟩ 1 1 [.int .u8 2] rfl rfl ?f1 ?f2 ?f3 ?f4 ?f5 ?_)
            case f1 => exact news1 (by simp)
            case f2 => simp [Value.oneCell']
            case f3 => simp [maxLen]; omega
            case f4 => omega
            case f5 => simp; omega
            intro v2 w2 hown2 hgrow2 _
            have HB2 : Hid (w2.heap[wr.heap.size]? = some (.cells #[.int .i64 2, .int .i64 vn, .string vt] 23 (0, 0))) := grown_block hgrow2 (old_block HB1.out) (own_ne hown1 HB1.out (by decide))
            have hb0 : w2.cell? ⟨wr.heap.size, 0, none⟩ = some (.int .i64 2) := cell_of_row _ _ _ _ _ _ HB2.out
            have hb1' : w2.cell? ⟨wr.heap.size, 1, none⟩ = some (.int .i64 vn) := cell_of_row _ _ _ _ _ _ HB2.out
            have hb2 : w2.cell? ⟨wr.heap.size, 2, none⟩ = some (.string vt) := cell_of_row _ _ _ _ _ _ HB2.out
            have hs2 : w1.heap.size + 1 ≤ w2.heap.size := by have := hgrow2.size; simpa using this
            have hB2 : Below w.heap.size w w2 := (hB1.alloc (by omega) _).grown hgrow2 (by simp; omega) (fun j hj => (hown1.lt j hj).1)
            go_wp2_with fail
            refine (four_any (vn + 1073741824) (by omega) (by omega) _).mono ?_
            rintro e w3 ⟨rfl, rfl⟩
            go_wp2_with (at_builtin; refine wpList_append_own _ rfl (.tmp 45) (.tmp 49) 37 rfl w.heap.size 5 i0 (.int .u8 0) 1 1 Try.underlying37 hi hz0 hz1 hz2 rfl (by decide) _ _ _ rfl (hown2.alloc _) ⟨w2.heap.size, 0, none⟩ 4 4 ((four (vn + 1073741824)).map B) rfl rfl ?g1 ?g2 ?g3 ?g4 ?g5 ?_)
            case g1 => exact World.news_of_block (cs := ((four (vn + 1073741824)).map B).toArray) (t := 5) (fr := (0, 0)) (heap_alloc_new w2 _)
            case g2 => exact fun u hu => B_one u 0 _ hu
            case g3 => simp [maxLen]; omega
            case g4 => omega
            case g5 => simp; omega
            intro v3 w3 hown3 hgrow3 _
            have hown4 : w3.ownsRow w.heap.size 5 1 v3 ((soFar len vs k).length + 1 + 4) ((soFar len vs k).map B ++ ([.int .u8 2] ++ (four (vn + 1073741824)).map B)) := by
              simpa using hown3
            have ho := next_row HV.out (news := [.int .u8 2] ++ (four (vn + 1073741824)).map B) HE.out hown4 (by first | (simp; done) | (simp; omega) | (simp [four]; done) | (simp [four]; omega))
            have hval2 := next_valid HV.out hval HW.out
            have hBB : Below w.heap.size w w3 := (hB2.alloc (by omega) _).grown hgrow3 (by simp; omega) (fun j hj => (hown2.lt j hj).1)
            clear hown3 hgrow3 hown hown1 hown2 hbel hb1 hgrow2 hb0 hb1' hb2 hB1 hB2 hval hbx0
            go_wp2_with fail
            go_roundw
            case rel => exact ⟨k + 1, by omega, by go_num, hval2, ho, hBB⟩
            case measure => simp [intOf]; omega
          · have HE : Hid ((encV ⟨3, 0, vt⟩).map B = [.int .u8 3] ++ ([.int .u8 vt.size] ++ Lib.strCells vt)) := by
              have e : B (UInt8.ofNat vt.size) = .int .u8 vt.size := by
                unfold B
                rw [UInt8.toNat_ofNat']
                congr 1
                omega
              show _ = _
              simp only [encV, Lib.strCells, List.map_cons]
              show B 3 :: B (UInt8.ofNat vt.size) :: _ = _
              rw [e]
              rfl
            go_wp2_with (at_builtin; refine wpList_append_own _ rfl (.tmp 27) (.tmp 31) 37 rfl w.heap.size 5 i0 (.int .u8 0) 1 1 Try.underlying37 hi hz0 hz1 hz2 rfl (by decide) _ _ _ rfl (hown1.alloc _) ⟨w1.heap.size, 0, none⟩ 1 1 [.int .u8 3] rfl rfl ?h1 ?h2 ?h3 ?h4 ?h5 ?_)
            case h1 => exact news1 (by simp)
            case h2 => simp [Value.oneCell']
            case h3 => simp [maxLen]; omega
            case h4 => omega
            case h5 => simp; omega
            intro v2 w2 hown2 hgrow2 _
            have HB2 : Hid (w2.heap[wr.heap.size]? = some (.cells #[.int .i64 3, .int .i64 0, .string vt] 23 (0, 0))) := grown_block hgrow2 (old_block HB1.out) (own_ne hown1 HB1.out (by decide))
            have hb0 : w2.cell? ⟨wr.heap.size, 0, none⟩ = some (.int .i64 3) := cell_of_row _ _ _ _ _ _ HB2.out
            have hb1' : w2.cell? ⟨wr.heap.size, 1, none⟩ = some (.int .i64 0) := cell_of_row _ _ _ _ _ _ HB2.out
            have hb2 : w2.cell? ⟨wr.heap.size, 2, none⟩ = some (.string vt) := cell_of_row _ _ _ _ _ _ HB2.out
            have hs2 : w1.heap.size + 1 ≤ w2.heap.size := by have := hgrow2.size; simpa using this
            have hB2 : Below w.heap.size w w2 := (hB1.alloc (by omega) _).grown hgrow2 (by simp; omega) (fun j hj => (hown1.lt j hj).1)
            go_wp2_with fail
            have hS0 : w2.drew.cell? ⟨wr.heap.size, 2, none⟩ = some (.string vt) ∧ BoxIs w2.drew wr.heap.size #[.int .i64 3, .int .i64 0, .string vt] := ⟨cell_of_row _ _ _ _ _ _ HB2.out, HB2.out⟩
            have x0 : IntKind.u8.wrap (vt.size : Int) = vt.size := by rw [IntKind.wrap_u8]; omega
            have x1 : (soFar len vs k).length + 1 + 1 ≤ maxLen := by simp [maxLen]; omega
            have x2 : ((soFar len vs k).length + 1 + 1) * 1 ≤ 140737488355328 := by omega
            have x3 : (soFar len vs k).length + 1 + 1 + vt.size ≤ maxLen := by simp [maxLen]; omega
            have x4 : (soFar len vs k).length + 1 + 1 + vt.size ≤ 140737488355328 := by omega
            have x5 : w.heap.size ≤ w2.heap.size := by omega
            go_region_held3 (fun w' => w'.cell? ⟨wr.heap.size, 2, none⟩ = some (.string vt) ∧ BoxIs w' wr.heap.size #[.int .i64 3, .int .i64 0, .string vt])
              (first | exact hS0 | exact box_grown rfl hown4 hgrow4 (by assumption) | exact box_grown rfl (hown2.alloc _).drew hgrow3 (by assumption) | exact box_alloc _ rfl (by assumption))
              (first | (refine step_append_lies _ (by rfl) (.tmp 53) (.tmp 58) _ (by rfl) w.heap.size 5 i0 _ 1 1 Try.underlying37 hi hz0 hz1 hz2 rfl (by omega) _ _ _ (by rfl) ((hown2.alloc _).drew) ⟨w2.heap.size, 0, none⟩ 1 1 [.int .u8 vt.size] (by rfl) (by rfl) (World.news_of_block (cs := #[.int .u8 vt.size]) (t := 5) (fr := (0, 0)) (heap_alloc_new w2 _)) (by simp [Value.oneCell']) (by omega) x1 x2 (by simp; omega) (w2.heap.size + 1) (by simp) ?_; intro gg cc w3 hown4 hgrow3 hat3 hlt3) | (refine step_append_str (by rfl) (.tmp 59) (.tmp 61) _ _ (by rfl) w.heap.size 5 i0 Try.underlying37 Try.underlying9 hi hz0 hz1 hz2 _ _ _ (by rfl) hown4 vt (by rfl) x3 x4 (by have q := hgrow3.size; simp at q; omega) ?_; intro v5 w5 hown5 hgrow4))
            have hown6 : w5.ownsRow w.heap.size 5 1 v5 ((soFar len vs k).length + 1 + 1 + vt.size) ((soFar len vs k).map B ++ ([.int .u8 3] ++ ([.int .u8 vt.size] ++ Lib.strCells vt))) := by simpa using hown5
            have ho := next_row HV.out (news := [.int .u8 3] ++ ([.int .u8 vt.size] ++ Lib.strCells vt)) HE.out hown6 (by simp [Lib.strCells_length]; omega)
            have hval2 := next_valid HV.out hval HW.out
            have hB3 : Below w.heap.size w w3 := ((hB2.alloc (by omega) _).drew).grown hgrow3 (by simp; omega) (fun j hj => (hown2.lt j hj).1)
            have hBB : Below w.heap.size w w5 := hB3.grown hgrow4 (by have q := hgrow3.size; simp at q; omega) (fun j hj => (hown4.lt j hj).1)
            clear hown hown1 hown2 hown4 hown5 hown6 hbel hb1 hgrow2 hgrow3 hgrow4 hb0 hb1' hb2 hB1 hB2 hB3 hval hbx0 hS0 hat3
            go_wp2_with fail
            go_roundw
            case rel => exact ⟨k + 1, by omega, by go_num, hval2, ho, hBB⟩
            case measure => simp [intOf]; omega
          · have HE : Hid ((encV ⟨4, vn, vt⟩).map B = [.int .u8 4] ++ (four (vn)).map B) := by show _ = _; simp [encV, B]
            go_wp2_with (at_builtin; refine wpList_append_own _ rfl (.tmp 27) (.tmp 31) 37 rfl w.heap.size 5 i0 (.int .u8 0) 1 1 Try.underlying37 hi hz0 hz1 hz2 rfl (by decide) _ _ _ rfl (hown1.alloc _) ⟨w1.heap.size, 0, none⟩ 1 1 [.int .u8 4] rfl rfl ?m1 ?m2 ?m3 ?m4 ?m5 ?_)
            case m1 => exact news1 (by simp)
            case m2 => simp [Value.oneCell']
            case m3 => simp [maxLen]; omega
            case m4 => omega
            case m5 => simp; omega
            intro v2 w2 hown2 hgrow2 _
            have HB2 : Hid (w2.heap[wr.heap.size]? = some (.cells #[.int .i64 4, .int .i64 vn, .string vt] 23 (0, 0))) := grown_block hgrow2 (old_block HB1.out) (own_ne hown1 HB1.out (by decide))
            have hb0 : w2.cell? ⟨wr.heap.size, 0, none⟩ = some (.int .i64 4) := cell_of_row _ _ _ _ _ _ HB2.out
            have hb1' : w2.cell? ⟨wr.heap.size, 1, none⟩ = some (.int .i64 vn) := cell_of_row _ _ _ _ _ _ HB2.out
            have hb2 : w2.cell? ⟨wr.heap.size, 2, none⟩ = some (.string vt) := cell_of_row _ _ _ _ _ _ HB2.out
            have hs2 : w1.heap.size + 1 ≤ w2.heap.size := by have := hgrow2.size; simpa using this
            have hB2 : Below w.heap.size w w2 := (hB1.alloc (by omega) _).grown hgrow2 (by simp; omega) (fun j hj => (hown1.lt j hj).1)
            go_wp2_with fail
            refine (four_any (vn) (by omega) (by omega) _).mono ?_
            rintro e w3 ⟨rfl, rfl⟩
            go_wp2_with (at_builtin; refine wpList_append_own _ rfl (.tmp 65) (.tmp 68) 37 rfl w.heap.size 5 i0 (.int .u8 0) 1 1 Try.underlying37 hi hz0 hz1 hz2 rfl (by decide) _ _ _ rfl (hown2.alloc _) ⟨w2.heap.size, 0, none⟩ 4 4 ((four (vn)).map B) rfl rfl ?n1 ?n2 ?n3 ?n4 ?n5 ?_)
            case n1 => exact World.news_of_block (cs := ((four (vn)).map B).toArray) (t := 5) (fr := (0, 0)) (heap_alloc_new w2 _)
            case n2 => exact fun u hu => B_one u 0 _ hu
            case n3 => simp [maxLen]; omega
            case n4 => omega
            case n5 => simp; omega
            intro v3 w3 hown3 hgrow3 _
            have hown4 : w3.ownsRow w.heap.size 5 1 v3 ((soFar len vs k).length + 1 + 4) ((soFar len vs k).map B ++ ([.int .u8 4] ++ (four (vn)).map B)) := by
              simpa using hown3
            have ho := next_row HV.out (news := [.int .u8 4] ++ (four (vn)).map B) HE.out hown4 (by first | (simp; done) | (simp; omega) | (simp [four]; done) | (simp [four]; omega))
            have hval2 := next_valid HV.out hval HW.out
            have hBB : Below w.heap.size w w3 := (hB2.alloc (by omega) _).grown hgrow3 (by simp; omega) (fun j hj => (hown2.lt j hj).1)
            clear hown3 hgrow3 hown hown1 hown2 hbel hb1 hgrow2 hb0 hb1' hb2 hB1 hB2 hval hbx0
            go_wp2_with fail
            go_roundw
            case rel => exact ⟨k + 1, by omega, by go_num, hval2, ho, hBB⟩
            case measure => simp [intOf]; omega
        · have HO : Hid (encOut vs = ([], 8)) := by
            show _ = _
            unfold encOut
            rw [if_neg (by have := HL.out; omega), if_neg (not_allValid HV.out hvv)]
          have hvf : validB vk vn vt = false := by simpa using hvv
          clear hvv
          go_wp2_with fail
          refine (rvalid_any _ _ _ _).mono ?_
          rintro e w1 ⟨rfl, hb1⟩
          go_wp2_with fail
          go_ret2
          exact ⟨.slice none 0 0, by rw [HO.out]; rfl, by rw [HO.out]; exact World.ownsRow_nil _ _ _ _, (hbel.alloc hs _).trans (hb1.mono (by simp; omega))⟩
      · have hkl : k = len := by omega
        have HO : Hid (encOut vs = (encR vs, 0)) := by
          show _ = _
          have hv2 : allValid vs = true := by
            apply allValid_of
            intro v hv
            exact hval v (by rw [hkl, ← HL.out, List.take_length]; exact hv)
          unfold encOut
          rw [if_neg (by have := HL.out; omega), if_pos hv2]
        have hR : Hid (soFar len vs k = encR vs) := by
          show _ = _
          unfold soFar encR
          rw [hkl, ← HL.out, List.take_length]
        have HX := Lib.hid hown
        clear hown hval
        clear hkl
        go_wp2_with fail
        go_ret2
        exact ⟨u4, by rw [HO.out]; rfl, by rw [HO.out]; have := HX.out; rw [hR.out] at this; exact this, hbel⟩

end Go.Proofs.Ytnmlbafhdnffgaa
