/-
  value.appendValue: it appends the encoding of a value.
-/
import Derived.Test.YtnmlbafhdnffgaaNum
namespace Go.Proofs.Ytnmlbafhdnffgaa
open Go.RowKit Wh

/-- A cell of a block that an append does not write is kept. -/
theorem grown_cell {W w1 : World} {bv : Value} (hg : W.grownBy w1 bv.ownBlock) {b o : Nat} {v : Value} (h : W.cell? ⟨b, o, none⟩ = some v)
    (hne : ∀ k, bv.ownBlock = some k → k ≠ b) : w1.cell? ⟨b, o, none⟩ = some v :=
  hg.cell (a := ⟨b, o, none⟩) h (fun e => hne b e.symm rfl)

theorem news1 {W : World} {u : Value} {T B : Nat} (h : B = W.heap.size) : ∀ j x, [u][j]? = some x → (W.alloc (.cells #[u] T)).cell? ((⟨B, 0, none⟩ : Addr).add j) = some x := by
  subst h
  exact cell_one_new _ _ _

/-- A block of another element type is not the one that a value owns. -/
theorem own_ne {W : World} {base E sz n b T : Nat} {fr : Nat × Nat} {v : Value} {xs : List Value} {cs : Array Value} (hown : W.ownsRow base E sz v n xs) (hb : W.heap[b]? = some (.cells cs T fr)) (hT : T ≠ E) :
    ∀ k, v.ownBlock = some k → k ≠ b := by
  intro k hk
  rintro rfl
  rcases hown.2 with ⟨rfl, _⟩ | ⟨g, cap, cur, rfl, _, hg, _⟩
  · simp [Value.ownBlock] at hk
  · simp only [Value.ownBlock, Option.some.injEq] at hk
    subst hk
    rw [hg] at hb
    simp only [Option.some.injEq, Obj.cells.injEq] at hb
    exact hT hb.2.1.symm

/-- A block that an append does not write is kept. -/
theorem grown_block {W w1 : World} {bv : Value} (hg : W.grownBy w1 bv.ownBlock) {b : Nat} {o : Obj} (h : W.heap[b]? = some o) (hne : ∀ k, bv.ownBlock = some k → k ≠ b) : w1.heap[b]? = some o := by
  rw [hg.block b (Array.getElem?_eq_some_iff.1 h).1 (fun e => hne b e.symm rfl)]
  exact h

theorem old_block {W : World} {b : Nat} {o x : Obj} (h : W.heap[b]? = some o) : (W.alloc x).heap[b]? = some o := by
  rw [heap_alloc_old W x (Array.getElem?_eq_some_iff.1 h).1]
  exact h

/-- The end of an append, in the words of the bytes. -/
theorem Appended.of {base n k : Nat} {xs news : List Value} {l : List UInt8} {w w' : World} {v : Value} (hl : l.map B = news) (hk : news.length = k)
    (h : w'.ownsRow base 5 1 v (n + k) (xs ++ news)) (hb : Below base w w') : Appended base n xs l w (.returned v) w' := by
  have e : l.length = k := by rw [← hk, ← hl, List.length_map]
  refine ⟨v, rfl, ?_, hb⟩
  rw [hl, e]
  exact h

set_option maxHeartbeats 400000 in
theorem app_null (base : Nat) (bv : Value) (n : Nat) (xs : List Value) (m : Int) (s : ByteArray) (w : World)
    (hown : w.ownsRow base 5 1 bv n xs) (hbase : base ≤ w.heap.size) (hn : n ≤ 1000000000) :
    Calls Try.prog 32 #[bv, agg 0 m s] w (Appended base n xs (encV ⟨0, m, s⟩) w) := by
  have H : Hid ((encV ⟨0, m, s⟩).map B = [.int .u8 0]) := by show _ = _; simp [encV, B]
  obtain ⟨i0, hi, hz0, hz1, hz2⟩ := info_parts info_u8
  have hlt := hown.lt
  go_enter Try.func32, Try.ntmps32
  go_wp2_with (at_builtin; refine wpList_append_own _ rfl (.tmp 5) (.tmp 9) 37 rfl base 5 i0 (.int .u8 0) 1 1 Try.underlying37 hi hz0 hz1 hz2 rfl (by decide) _ _ _ rfl ((hown.alloc _).alloc _) ⟨w.heap.size + 1, 0, none⟩ 1 1 [.int .u8 0] rfl rfl ?c1 ?c2 ?c3 ?c4 ?c5 ?_)
  case c1 => exact news1 (by simp)
  case c2 => simp [Value.oneCell']
  case c3 => simp [maxLen]; omega
  case c4 => omega
  case c5 => simp; omega
  intro v1 w1 hown1 hgrow _
  have HB : Hid (w1.heap[w.heap.size]? = some (.cells #[.int .i64 0, .int .i64 m, .string s] 23 (0, 0))) :=
    grown_block hgrow (old_block (heap_alloc_new w _)) (fun j hj => by have := (hlt j hj).2; omega)
  have hb0 : w1.cell? ⟨w.heap.size, 0, none⟩ = some (.int .i64 0) := cell_of_row _ _ _ _ _ _ HB.out
  have hb1 : w1.cell? ⟨w.heap.size, 1, none⟩ = some (.int .i64 m) := cell_of_row _ _ _ _ _ _ HB.out
  have hb2 : w1.cell? ⟨w.heap.size, 2, none⟩ = some (.string s) := cell_of_row _ _ _ _ _ _ HB.out
  have hs1 : w.heap.size + 1 + 1 ≤ w1.heap.size := by have := hgrow.size; simpa using this
  have hB : Below base w w1 := (((Below.refl _ _).alloc hbase _).alloc (by simp; omega) _).grown hgrow (by simp; omega) (fun j hj => (hlt j hj).1)
  clear hb1 hb2
  go_wp2
  go_ret
  exact Appended.of H.out rfl hown1 hB

set_option maxHeartbeats 400000 in
theorem app_bool0 (base : Nat) (bv : Value) (n : Nat) (xs : List Value) (s : ByteArray) (w : World)
    (hown : w.ownsRow base 5 1 bv n xs) (hbase : base ≤ w.heap.size) (hn : n ≤ 1000000000) :
    Calls Try.prog 32 #[bv, agg 1 0 s] w (Appended base n xs (encV ⟨1, 0, s⟩) w) := by
  have H : Hid ((encV ⟨1, 0, s⟩).map B = [.int .u8 1] ++ [.int .u8 0]) := by show _ = _; simp [encV, B]
  obtain ⟨i0, hi, hz0, hz1, hz2⟩ := info_parts info_u8
  have hlt := hown.lt
  go_enter Try.func32, Try.ntmps32
  go_wp2_with (at_builtin; refine wpList_append_own _ rfl (.tmp 5) (.tmp 9) 37 rfl base 5 i0 (.int .u8 0) 1 1 Try.underlying37 hi hz0 hz1 hz2 rfl (by decide) _ _ _ rfl ((hown.alloc _).alloc _) ⟨w.heap.size + 1, 0, none⟩ 1 1 [.int .u8 1] rfl rfl ?c1 ?c2 ?c3 ?c4 ?c5 ?_)
  case c1 => exact news1 (by simp)
  case c2 => simp [Value.oneCell']
  case c3 => simp [maxLen]; omega
  case c4 => omega
  case c5 => simp; omega
  intro v1 w1 hown1 hgrow _
  have HB : Hid (w1.heap[w.heap.size]? = some (.cells #[.int .i64 1, .int .i64 0, .string s] 23 (0, 0))) :=
    grown_block hgrow (old_block (heap_alloc_new w _)) (fun j hj => by have := (hlt j hj).2; omega)
  have hb0 : w1.cell? ⟨w.heap.size, 0, none⟩ = some (.int .i64 1) := cell_of_row _ _ _ _ _ _ HB.out
  have hb1 : w1.cell? ⟨w.heap.size, 1, none⟩ = some (.int .i64 0) := cell_of_row _ _ _ _ _ _ HB.out
  have hb2 : w1.cell? ⟨w.heap.size, 2, none⟩ = some (.string s) := cell_of_row _ _ _ _ _ _ HB.out
  have hs1 : w.heap.size + 1 + 1 ≤ w1.heap.size := by have := hgrow.size; simpa using this
  have hB : Below base w w1 := (((Below.refl _ _).alloc hbase _).alloc (by simp; omega) _).grown hgrow (by simp; omega) (fun j hj => (hlt j hj).1)
  clear hb2
  go_wp2_with (at_builtin; refine wpList_append_own _ rfl (.tmp 15) (.tmp 19) 37 rfl base 5 i0 (.int .u8 0) 1 1 Try.underlying37 hi hz0 hz1 hz2 rfl (by decide) _ _ _ rfl (hown1.alloc _) ⟨w1.heap.size, 0, none⟩ 1 1 [.int .u8 0] rfl rfl ?d1 ?d2 ?d3 ?d4 ?d5 ?_)
  case d1 => exact news1 (by simp)
  case d2 => simp [Value.oneCell']
  case d3 => simp [maxLen]; omega
  case d4 => omega
  case d5 => simp; omega
  intro v2 w2 hown2 hgrow2 _
  go_wp2
  go_ret
  exact Appended.of H.out rfl hown2 (hB.trans (((Below.refl _ _).alloc (by omega) _).grown hgrow2 (by simp; omega) (fun j hj => (hown1.lt j hj).1)))

set_option maxHeartbeats 400000 in
theorem app_bool1 (base : Nat) (bv : Value) (n : Nat) (xs : List Value) (s : ByteArray) (w : World)
    (hown : w.ownsRow base 5 1 bv n xs) (hbase : base ≤ w.heap.size) (hn : n ≤ 1000000000) :
    Calls Try.prog 32 #[bv, agg 1 1 s] w (Appended base n xs (encV ⟨1, 1, s⟩) w) := by
  have H : Hid ((encV ⟨1, 1, s⟩).map B = [.int .u8 1] ++ [.int .u8 1]) := by show _ = _; simp [encV, B]
  obtain ⟨i0, hi, hz0, hz1, hz2⟩ := info_parts info_u8
  have hlt := hown.lt
  go_enter Try.func32, Try.ntmps32
  go_wp2_with (at_builtin; refine wpList_append_own _ rfl (.tmp 5) (.tmp 9) 37 rfl base 5 i0 (.int .u8 0) 1 1 Try.underlying37 hi hz0 hz1 hz2 rfl (by decide) _ _ _ rfl ((hown.alloc _).alloc _) ⟨w.heap.size + 1, 0, none⟩ 1 1 [.int .u8 1] rfl rfl ?c1 ?c2 ?c3 ?c4 ?c5 ?_)
  case c1 => exact news1 (by simp)
  case c2 => simp [Value.oneCell']
  case c3 => simp [maxLen]; omega
  case c4 => omega
  case c5 => simp; omega
  intro v1 w1 hown1 hgrow _
  have HB : Hid (w1.heap[w.heap.size]? = some (.cells #[.int .i64 1, .int .i64 1, .string s] 23 (0, 0))) :=
    grown_block hgrow (old_block (heap_alloc_new w _)) (fun j hj => by have := (hlt j hj).2; omega)
  have hb0 : w1.cell? ⟨w.heap.size, 0, none⟩ = some (.int .i64 1) := cell_of_row _ _ _ _ _ _ HB.out
  have hb1 : w1.cell? ⟨w.heap.size, 1, none⟩ = some (.int .i64 1) := cell_of_row _ _ _ _ _ _ HB.out
  have hb2 : w1.cell? ⟨w.heap.size, 2, none⟩ = some (.string s) := cell_of_row _ _ _ _ _ _ HB.out
  have hs1 : w.heap.size + 1 + 1 ≤ w1.heap.size := by have := hgrow.size; simpa using this
  have hB : Below base w w1 := (((Below.refl _ _).alloc hbase _).alloc (by simp; omega) _).grown hgrow (by simp; omega) (fun j hj => (hlt j hj).1)
  clear hb2
  go_wp2_with (at_builtin; refine wpList_append_own _ rfl (.tmp 15) (.tmp 19) 37 rfl base 5 i0 (.int .u8 0) 1 1 Try.underlying37 hi hz0 hz1 hz2 rfl (by decide) _ _ _ rfl (hown1.alloc _) ⟨w1.heap.size, 0, none⟩ 1 1 [.int .u8 1] rfl rfl ?d1 ?d2 ?d3 ?d4 ?d5 ?_)
  case d1 => exact news1 (by simp)
  case d2 => simp [Value.oneCell']
  case d3 => simp [maxLen]; omega
  case d4 => omega
  case d5 => simp; omega
  intro v2 w2 hown2 hgrow2 _
  go_wp2
  go_ret
  exact Appended.of H.out rfl hown2 (hB.trans (((Below.refl _ _).alloc (by omega) _).grown hgrow2 (by simp; omega) (fun j hj => (hown1.lt j hj).1)))

set_option maxHeartbeats 400000 in
theorem app_int (base : Nat) (bv : Value) (n : Nat) (xs : List Value) (m : Int) (s : ByteArray) (w : World) (h1 : -1073741824 ≤ m) (h2 : m ≤ 1073741824)
    (hown : w.ownsRow base 5 1 bv n xs) (hbase : base ≤ w.heap.size) (hn : n ≤ 1000000000) :
    Calls Try.prog 32 #[bv, agg 2 m s] w (Appended base n xs (encV ⟨2, m, s⟩) w) := by
  have H : Hid ((encV ⟨2, m, s⟩).map B = [.int .u8 2] ++ (four (m + 1073741824)).map B) := by show _ = _; simp [encV, B]
  obtain ⟨i0, hi, hz0, hz1, hz2⟩ := info_parts info_u8
  have hlt := hown.lt
  go_enter Try.func32, Try.ntmps32
  go_wp2_with (at_builtin; refine wpList_append_own _ rfl (.tmp 5) (.tmp 9) 37 rfl base 5 i0 (.int .u8 0) 1 1 Try.underlying37 hi hz0 hz1 hz2 rfl (by decide) _ _ _ rfl ((hown.alloc _).alloc _) ⟨w.heap.size + 1, 0, none⟩ 1 1 [.int .u8 2] rfl rfl ?c1 ?c2 ?c3 ?c4 ?c5 ?_)
  case c1 => exact news1 (by simp)
  case c2 => simp [Value.oneCell']
  case c3 => simp [maxLen]; omega
  case c4 => omega
  case c5 => simp; omega
  intro v1 w1 hown1 hgrow _
  have HB : Hid (w1.heap[w.heap.size]? = some (.cells #[.int .i64 2, .int .i64 m, .string s] 23 (0, 0))) :=
    grown_block hgrow (old_block (heap_alloc_new w _)) (fun j hj => by have := (hlt j hj).2; omega)
  have hb0 : w1.cell? ⟨w.heap.size, 0, none⟩ = some (.int .i64 2) := cell_of_row _ _ _ _ _ _ HB.out
  have hb1 : w1.cell? ⟨w.heap.size, 1, none⟩ = some (.int .i64 m) := cell_of_row _ _ _ _ _ _ HB.out
  have hb2 : w1.cell? ⟨w.heap.size, 2, none⟩ = some (.string s) := cell_of_row _ _ _ _ _ _ HB.out
  have hs1 : w.heap.size + 1 + 1 ≤ w1.heap.size := by have := hgrow.size; simpa using this
  have hB : Below base w w1 := (((Below.refl _ _).alloc hbase _).alloc (by simp; omega) _).grown hgrow (by simp; omega) (fun j hj => (hlt j hj).1)
  clear hb2
  go_wp2_with (go_at_call 39; refine (appendNumber_any base _ (n + 1) _ (m + 1073741824) (by omega) (by omega) _ hown1 (by omega) (by omega)).mono ?_; rintro e w2 ⟨v2, rfl, hown2, hB2⟩)
  go_ret
  rw [List.append_assoc] at hown2
  exact Appended.of H.out rfl hown2 (hB.trans hB2)

set_option maxHeartbeats 400000 in
theorem app_time (base : Nat) (bv : Value) (n : Nat) (xs : List Value) (m : Int) (s : ByteArray) (w : World) (h1 : 0 ≤ m) (h2 : m ≤ 575999999)
    (hown : w.ownsRow base 5 1 bv n xs) (hbase : base ≤ w.heap.size) (hn : n ≤ 1000000000) :
    Calls Try.prog 32 #[bv, agg 4 m s] w (Appended base n xs (encV ⟨4, m, s⟩) w) := by
  have H : Hid ((encV ⟨4, m, s⟩).map B = [.int .u8 4] ++ (four (m)).map B) := by show _ = _; simp [encV, B]
  obtain ⟨i0, hi, hz0, hz1, hz2⟩ := info_parts info_u8
  have hlt := hown.lt
  go_enter Try.func32, Try.ntmps32
  go_wp2_with (at_builtin; refine wpList_append_own _ rfl (.tmp 5) (.tmp 9) 37 rfl base 5 i0 (.int .u8 0) 1 1 Try.underlying37 hi hz0 hz1 hz2 rfl (by decide) _ _ _ rfl ((hown.alloc _).alloc _) ⟨w.heap.size + 1, 0, none⟩ 1 1 [.int .u8 4] rfl rfl ?c1 ?c2 ?c3 ?c4 ?c5 ?_)
  case c1 => exact news1 (by simp)
  case c2 => simp [Value.oneCell']
  case c3 => simp [maxLen]; omega
  case c4 => omega
  case c5 => simp; omega
  intro v1 w1 hown1 hgrow _
  have HB : Hid (w1.heap[w.heap.size]? = some (.cells #[.int .i64 4, .int .i64 m, .string s] 23 (0, 0))) :=
    grown_block hgrow (old_block (heap_alloc_new w _)) (fun j hj => by have := (hlt j hj).2; omega)
  have hb0 : w1.cell? ⟨w.heap.size, 0, none⟩ = some (.int .i64 4) := cell_of_row _ _ _ _ _ _ HB.out
  have hb1 : w1.cell? ⟨w.heap.size, 1, none⟩ = some (.int .i64 m) := cell_of_row _ _ _ _ _ _ HB.out
  have hb2 : w1.cell? ⟨w.heap.size, 2, none⟩ = some (.string s) := cell_of_row _ _ _ _ _ _ HB.out
  have hs1 : w.heap.size + 1 + 1 ≤ w1.heap.size := by have := hgrow.size; simpa using this
  have hB : Below base w w1 := (((Below.refl _ _).alloc hbase _).alloc (by simp; omega) _).grown hgrow (by simp; omega) (fun j hj => (hlt j hj).1)
  clear hb2
  go_wp2_with (go_at_call 39; refine (appendNumber_any base _ (n + 1) _ (m) (by omega) (by omega) _ hown1 (by omega) (by omega)).mono ?_; rintro e w2 ⟨v2, rfl, hown2, hB2⟩)
  go_ret
  rw [List.append_assoc] at hown2
  exact Appended.of H.out rfl hown2 (hB.trans hB2)

set_option maxHeartbeats 400000 in
theorem app_text (base : Nat) (bv : Value) (n : Nat) (xs : List Value) (s : ByteArray) (w : World) (hs : s.size ≤ 64)
    (hown : w.ownsRow base 5 1 bv n xs) (hbase : base ≤ w.heap.size) (hn : n ≤ 1000000000) :
    Calls Try.prog 32 #[bv, agg 3 0 s] w (Appended base n xs (encV ⟨3, 0, s⟩) w) := by
  have H : Hid ((encV ⟨3, 0, s⟩).map B = [.int .u8 3] ++ ([.int .u8 s.size] ++ Lib.strCells s)) := by
    have e : B (UInt8.ofNat s.size) = .int .u8 s.size := by
      unfold B
      rw [UInt8.toNat_ofNat']
      congr 1
      omega
    show _ = _
    simp only [encV, Lib.strCells, List.map_cons]
    show B 3 :: B (UInt8.ofNat s.size) :: _ = _
    rw [e]
    rfl
  obtain ⟨i0, hi, hz0, hz1, hz2⟩ := info_parts info_u8
  have hlt := hown.lt
  go_enter Try.func32, Try.ntmps32
  go_wp2_with (at_builtin; refine wpList_append_own _ rfl (.tmp 5) (.tmp 9) 37 rfl base 5 i0 (.int .u8 0) 1 1 Try.underlying37 hi hz0 hz1 hz2 rfl (by decide) _ _ _ rfl ((hown.alloc _).alloc _) ⟨w.heap.size + 1, 0, none⟩ 1 1 [.int .u8 3] rfl rfl ?c1 ?c2 ?c3 ?c4 ?c5 ?_)
  case c1 => exact news1 (by simp)
  case c2 => simp [Value.oneCell']
  case c3 => simp [maxLen]; omega
  case c4 => omega
  case c5 => simp; omega
  intro v1 w1 hown1 hgrow _
  have HB : Hid (w1.heap[w.heap.size]? = some (.cells #[.int .i64 3, .int .i64 0, .string s] 23 (0, 0))) :=
    grown_block hgrow (old_block (heap_alloc_new w _)) (fun j hj => by have := (hlt j hj).2; omega)
  have hb0 : w1.cell? ⟨w.heap.size, 0, none⟩ = some (.int .i64 3) := cell_of_row _ _ _ _ _ _ HB.out
  have hb1 : w1.cell? ⟨w.heap.size, 1, none⟩ = some (.int .i64 0) := cell_of_row _ _ _ _ _ _ HB.out
  have hb2 : w1.cell? ⟨w.heap.size, 2, none⟩ = some (.string s) := cell_of_row _ _ _ _ _ _ HB.out
  have hs1 : w.heap.size + 1 + 1 ≤ w1.heap.size := by have := hgrow.size; simpa using this
  have hB : Below base w w1 := (((Below.refl _ _).alloc hbase _).alloc (by simp; omega) _).grown hgrow (by simp; omega) (fun j hj => (hlt j hj).1)
  go_wp2_with (first | (at_builtin; refine wpList_append_own _ rfl (.tmp 38) (.tmp 43) 37 rfl base 5 i0 (.int .u8 0) 1 1 Try.underlying37 hi hz0 hz1 hz2 rfl (by decide) _ _ _ rfl (hown1.alloc _) ⟨w1.heap.size, 0, none⟩ 1 1 [.int .u8 s.size] rfl rfl ?d1 ?d2 ?d3 ?d4 ?d5 ?_) | (refine Lib.wpList_append_own_string _ rfl (.tmp 45) (.tmp 47) 37 9 rfl base 5 i0 Try.underlying37 Try.underlying9 hi hz0 hz1 hz2 _ _ _ rfl hown2 s rfl ?e1 ?e2 ?e3 ?_))
  case d1 => exact news1 (by simp)
  case d2 => simp [Value.oneCell']
  case d3 => simp [maxLen]; omega
  case d4 => omega
  case d5 => simp; omega
  intro v2 w2 hown2 hgrow2 _
  have HB2 : Hid (w2.heap[w.heap.size]? = some (.cells #[.int .i64 3, .int .i64 0, .string s] 23 (0, 0))) :=
    grown_block hgrow2 (old_block HB.out) (own_ne hown1 HB.out (by decide))
  have hb3 : w2.cell? ⟨w.heap.size, 2, none⟩ = some (.string s) := cell_of_row _ _ _ _ _ _ HB2.out
  have hs2 : w1.heap.size + 1 ≤ w2.heap.size := by have := hgrow2.size; simpa using this
  go_wp2_with (refine Lib.wpList_append_own_string _ rfl (.tmp 45) (.tmp 47) 37 9 rfl base 5 i0 Try.underlying37 Try.underlying9 hi hz0 hz1 hz2 _ _ _ rfl hown2 s rfl ?e1 ?e2 ?e3 ?_)
  case e1 => simp [maxLen]; omega
  case e2 => omega
  case e3 => omega
  intro v3 w3 hown3 hgrow3 _
  go_wp2
  go_ret
  have hk : ([Value.int .u8 3, Value.int .u8 s.size] ++ Lib.strCells s).length = 2 + s.size := by rw [List.length_append, Lib.strCells_length]; rfl
  have ho : w3.ownsRow base 5 1 v3 (n + (2 + s.size)) (xs ++ ([Value.int .u8 3, Value.int .u8 s.size] ++ Lib.strCells s)) := by
    rw [show n + (2 + s.size) = n + 1 + 1 + s.size from by omega]
    simpa using hown3
  exact Appended.of (H.out.trans rfl) hk ho (hB.trans ((((Below.refl _ _).alloc (by omega) _).grown hgrow2 (by simp; omega) (fun j hj => (hown1.lt j hj).1)).trans ((Below.refl _ _).grown hgrow3 (by omega) (fun j hj => (hown2.lt j hj).1))))

/-- appendValue appends the encoding of a value. -/
theorem appendValue_any (base : Nat) (bv : Value) (n : Nat) (xs : List Value) (v : V) (hv : validB v.k v.n v.s = true) (w : World)
    (hown : w.ownsRow base 5 1 bv n xs) (hbase : base ≤ w.heap.size) (hn : n ≤ 1000000000) :
    Calls Try.prog 32 #[bv, agg v.k v.n v.s] w (Appended base n xs (encV v) w) := by
  obtain ⟨k, m, s⟩ := v
  rcases valid_cases hv with ⟨rfl, rfl, _⟩ | ⟨rfl, rfl, _⟩ | ⟨rfl, rfl, _⟩ | ⟨rfl, h1, h2, _⟩ | ⟨rfl, rfl, h1⟩ | ⟨rfl, h1, h2, _⟩
  · exact app_null base bv n xs 0 s w hown hbase hn
  · exact app_bool0 base bv n xs s w hown hbase hn
  · exact app_bool1 base bv n xs s w hown hbase hn
  · exact app_int base bv n xs m s w h1 h2 hown hbase hn
  · exact app_text base bv n xs s w h1 hown hbase hn
  · exact app_time base bv n xs m s w h1 h2 hown hbase hn

end Go.Proofs.Ytnmlbafhdnffgaa
