/-
  The laws' Nodes: any list of nodes, their names short.
-/
import Derived.Test.YtmdpjahhhfajaaaDoorJA32
import Derived.Test.YtmdpjahhhfajaaaDoorJA14
import Derived.Deep.AppendLies
import Derived.Deep.RegionLaw
set_option linter.unusedVariables false
set_option linter.unusedSimpArgs false
set_option maxRecDepth 100000
namespace Go.Proofs.YtmdpjahhhfajaaaDoor
open Go.RowKit Go.Joins Wh
def NdP (n : Nat) (w : World) (e : Ending) (w' : World) : Prop := ∃ es : List Nd, es.length = n ∧ (∀ t ∈ es, t.nm.size ≤ 10) ∧ MdP w es e w'
structure Box6 (w : World) (b : Nat) (t : Nd) : Prop where
  block : w.heap[b]? = some (.cells #[.int .i64 t.op, .int .i64 t.v.k, .int .i64 t.v.n, .string t.v.s, .string t.nm, .int .i64 t.ar] 26 (0, 0))
theorem Box6.cells {w : World} {b : Nat} {op k n ar : Int} {s nm : ByteArray} (h : Box6 w b ⟨op, ⟨k, n, s⟩, nm, ar⟩) : w.cell? ⟨b, 0, none⟩ = some (.int .i64 op) ∧ w.cell? ⟨b, 1, none⟩ = some (.int .i64 k) ∧ w.cell? ⟨b, 2, none⟩ = some (.int .i64 n) ∧ w.cell? ⟨b, 3, none⟩ = some (.string s) ∧ w.cell? ⟨b, 4, none⟩ = some (.string nm) ∧ w.cell? ⟨b, 5, none⟩ = some (.int .i64 ar) :=
  ⟨cell_of_row _ _ 0 _ _ _ h.block, cell_of_row _ _ 1 _ _ _ h.block, cell_of_row _ _ 2 _ _ _ h.block, cell_of_row _ _ 3 _ _ _ h.block, cell_of_row _ _ 4 _ _ _ h.block, cell_of_row _ _ 5 _ _ _ h.block⟩
theorem Box6.free {w : World} {b : Nat} {t : Nd} (h : Box6 w b t) (j : Nat) : w.frozen? ⟨b, j, none⟩ = false := by simp [World.frozen?, h.block]
theorem Box6.lt {w : World} {b : Nat} {t : Nd} (h : Box6 w b t) : b < w.heap.size := (Array.getElem?_eq_some_iff.1 h.block).1
theorem Box6.keep {w w' : World} {b B : Nat} {t : Nd} (h : Box6 w b t) (hb : Below B w w') (hB : b < B) : Box6 w' b t := ⟨by rw [hb.block b hB]; exact h.block⟩
theorem Box6.alloc {w : World} {b : Nat} {t : Nd} (h : Box6 w b t) (o : Obj) : Box6 (w.alloc o) b t := ⟨by rw [Below.heap_alloc _ _ _ h.lt]; exact h.block⟩
theorem Box6.drew {w : World} {b : Nat} {t : Nd} (h : Box6 w b t) : Box6 w.drew b t := ⟨h.block⟩
theorem Box6.set4 {w : World} {b : Nat} {op k n ar : Int} {s nm x : ByteArray} (h : Box6 w b ⟨op, ⟨k, n, s⟩, nm, ar⟩) : Box6 (w.setCell ⟨b, 4, none⟩ (.string x)) b ⟨op, ⟨k, n, s⟩, x, ar⟩ := by
  refine ⟨?_⟩
  have hb := h.block
  simp only [World.setCell, Array.getElem?_modify, if_pos]
  rw [hb]
  rfl
theorem Box6.set5 {w : World} {b : Nat} {op k n ar x : Int} {s nm : ByteArray} (h : Box6 w b ⟨op, ⟨k, n, s⟩, nm, ar⟩) : Box6 (w.setCell ⟨b, 5, none⟩ (.int .i64 x)) b ⟨op, ⟨k, n, s⟩, nm, x⟩ := by
  refine ⟨?_⟩
  have hb := h.block
  simp only [World.setCell, Array.getElem?_modify, if_pos]
  rw [hb]
  rfl
theorem Box6.set1 {w : World} {b : Nat} {op k n ar x : Int} {s nm : ByteArray} (h : Box6 w b ⟨op, ⟨k, n, s⟩, nm, ar⟩) : Box6 (w.setCell ⟨b, 1, none⟩ (.int .i64 x)) b ⟨op, ⟨x, n, s⟩, nm, ar⟩ := by
  refine ⟨?_⟩
  have hb := h.block
  simp only [World.setCell, Array.getElem?_modify, if_pos]
  rw [hb]
  rfl
theorem Box6.set2 {w : World} {b : Nat} {op k n ar x : Int} {s nm : ByteArray} (h : Box6 w b ⟨op, ⟨k, n, s⟩, nm, ar⟩) : Box6 (w.setCell ⟨b, 2, none⟩ (.int .i64 x)) b ⟨op, ⟨k, x, s⟩, nm, ar⟩ := by
  refine ⟨?_⟩
  have hb := h.block
  simp only [World.setCell, Array.getElem?_modify, if_pos]
  rw [hb]
  rfl
theorem Box6.set3 {w : World} {b : Nat} {op k n ar : Int} {s nm x : ByteArray} (h : Box6 w b ⟨op, ⟨k, n, s⟩, nm, ar⟩) : Box6 (w.setCell ⟨b, 3, none⟩ (.string x)) b ⟨op, ⟨k, n, x⟩, nm, ar⟩ := by
  refine ⟨?_⟩
  have hb := h.block
  simp only [World.setCell, Array.getElem?_modify, if_pos]
  rw [hb]
  rfl
theorem pick4z (a b c d : ByteArray) (j : Nat) (h : j < 4) : ∃ x, [Value.string a, Value.string b, Value.string c, Value.string d][j]? = some (.string x) ∧ (x = a ∨ x = b ∨ x = c ∨ x = d) := by
  match j, h with
  | 0, _ => exact ⟨_, rfl, .inl rfl⟩
  | 1, _ => exact ⟨_, rfl, .inr (.inl rfl)⟩
  | 2, _ => exact ⟨_, rfl, .inr (.inr (.inl rfl))⟩
  | 3, _ => exact ⟨_, rfl, .inr (.inr (.inr rfl))⟩
set_option maxHeartbeats 16000000 in
theorem nodes_any (la : Option Addr) (ll lc : Nat) (zs : List Int) (hl : ll ≤ 9223372036854775807) (N : Nat) (hN : N ≤ 1000) (w : World) (hz : IsInts w la ll zs) : Calls Tryd.prog 7 #[.slice la ll lc, .int .i64 N] w (NdP N w) := by
  obtain ⟨i0, hi, hz0, hz1, hz2⟩ := info_parts info_node
  have HZ := Lib.hid hz
  have CA := Lib.hid (fun p W (h : Below w.heap.size w W) => at_any la ll lc zs p W (hz.below h (Nat.le_refl _)) hl)
  have CY := Lib.hid (fun n W => any_any n W)
  have b15 := and_15
  have b3 := and_3
  clear hz
  go_enter Tryd.func7, Tryd.ntmps7
  go_wp2_with fail
  go_loopw [5, 6] (fun ov iv wr => ∃ (k : Nat) (es : List Nd), k ≤ N ∧ iv = .int .i64 k ∧ es.length = k ∧ Hid (∀ t ∈ es, t.nm.size ≤ 10) ∧ wr.ownsRow w.heap.size 26 6 ov es.length (nodesL es) ∧ Hid (Below w.heap.size w wr)) (fun _ iv _ => N - (intOf iv).toNat)
  case atStart => exact ⟨0, [], Nat.zero_le _, rfl, rfl, (by intro t ht; cases ht), World.ownsRow_nil _ _ _ _, Below.refl _ _⟩
  case round =>
    obtain ⟨k, es, hk, rfl, hel, HNM, hown, HB⟩ := hrel
    have hsz := HB.out.size
    by_cases hlt : k < N
    · have hki : (k : Int) < (N : Int) := by omega
      obtain ⟨n, hn⟩ : ∃ n : Nat, atZ zs (k : Int) = (n : Int) := ⟨(atZ zs (k : Int)).toNat, by have := atZ_bounds zs (k : Int); omega⟩
      have hnb : n ≤ 131070 := by have := atZ_bounds zs (k : Int); omega
      have CA1 := Lib.hid (CA.out (k : Int) wr HB.out)
      rw [hn] at CA1
      have HOWN := Lib.hid hown
      clear hn hown CA
      go_wp2_with fail
      refine CA1.out.mono ?_
      rintro e w2 ⟨rfl, hb2⟩
      have HB2 := Lib.hid hb2
      clear hb2 CA1
      obtain ⟨r24, hr24⟩ : ∃ r24, n % 24 = r24 := ⟨_, rfl⟩
      have t24 : (n : Int).tmod 24 = (r24 : Int) := by rw [Int.tmod_eq_emod_of_nonneg (by omega)]; omega
      have m24 : (n : Int) % 24 = (r24 : Int) := by omega
      have hr24l : r24 < 24 := by omega
      obtain ⟨k16, hk16⟩ : ∃ k16 : Nat, (n : Int) / 256 % 16 = (k16 : Int) := ⟨((n : Int) / 256 % 16).toNat, by omega⟩
      by_cases c0 : k16 = 0
      · skip
        subst c0
        obtain ⟨r4, hr4⟩ : ∃ r4, n % 4 = r4 := ⟨_, rfl⟩
        have t4 : (n : Int).tmod 4 = (r4 : Int) := by rw [Int.tmod_eq_emod_of_nonneg (by omega)]; omega
        have m4 : (n : Int) % 4 = (r4 : Int) := by omega
        have hr4l : r4 < 4 := by omega
        have hr4i : (r4 : Int) < 4 := by omega
        obtain ⟨A, hA⟩ : ∃ A : Int, (n : Int) / 8 % 4 - 1 = A := ⟨_, rfl⟩
        have hwA : IntKind.i64.wrap ((n : Int) / 8 % 4 - 1) = A := by rw [IntKind.wrap_i64]; omega
        obtain ⟨nm4, hp4, hnm4⟩ := pick4z ⟨#[97]⟩ ⟨#[98, 121]⟩ ⟨#[65]⟩ ⟨#[109, 46, 102]⟩ r4 hr4l
        have HNZ : Hid (nm4.size ≤ 10) := by rcases hnm4 with rfl | rfl | rfl | rfl <;> (show _ ≤ _; decide)
        have CY1 := Lib.hid (CY.out (n : Int) (by omega) (by omega))
        generalize anyV (n : Int) = vv at *
        obtain ⟨vk, vn, vs⟩ := vv
        unfold agg at CY1
        simp only at CY1
        have hx3 : Box6 (w2.alloc (.cells #[.int .i64 ((r24 : Int) - 1), .int .i64 0, .int .i64 0, .string ⟨#[]⟩, .string ⟨#[]⟩, .int .i64 0] 26)).drew w2.heap.size (⟨(r24 : Int) - 1, ⟨0, 0, ⟨#[]⟩⟩, ⟨#[]⟩, 0⟩ : Nd) := ⟨heap_alloc_new w2 _⟩
        have hB3 : Below w2.heap.size w2 (w2.alloc (.cells #[.int .i64 ((r24 : Int) - 1), .int .i64 0, .int .i64 0, .string ⟨#[]⟩, .string ⟨#[]⟩, .int .i64 0] 26)).drew := ((Below.refl _ _).alloc (Nat.le_refl _) _).drew
        clear hnm4 CY hA
        go_wp2_with fail
        obtain ⟨X3, hX3⟩ : ∃ X3, (w2.alloc (.cells #[.int .i64 ((r24 : Int) - 1), .int .i64 0, .int .i64 0, .string ⟨#[]⟩, .string ⟨#[]⟩, .int .i64 0] 26)) = X3 := ⟨_, rfl⟩
        rw [hX3] at hx3 hB3
        rw [hX3]
        clear hX3
        refine wp_region_held_drew (S := fun w' => Below w2.heap.size w2 w') (by kernel_rfl) hB3 (fun hHeld => ?_)
        refine wpAnyH_take (i := 1) (v := ?v1n1) rfl (by kernel_rfl) (by kernel_rfl) (by kernel_rfl) (fun _ _ _ h => h) (Or.inl ⟨by kernel_rfl, ?hy1n1⟩) hHeld ?rest1n1
        case hy1n1 => (intro w hSw; (try dsimp only at hSw); go_simp; try rfl)
        (try simp only [Act.put, List.setIfInBounds_toArray, List.set_cons_zero, List.set_cons_succ])
        refine wpAnyH_take (i := 2) (v := ?v2n2) rfl (by kernel_rfl) (by kernel_rfl) (by kernel_rfl) (fun _ _ _ h => h) (Or.inl ⟨by kernel_rfl, ?hy2n2⟩) hHeld ?rest2n2
        case hy2n2 => (intro w hSw; (try dsimp only at hSw); go_simp; try rfl)
        (try simp only [Act.put, List.setIfInBounds_toArray, List.set_cons_zero, List.set_cons_succ])
        refine wpAnyH_take (i := 5) (v := ?v5n3) rfl (by kernel_rfl) (by kernel_rfl) (by kernel_rfl) (fun _ _ _ h => h) (Or.inl ⟨by kernel_rfl, ?hy5n3⟩) hHeld ?rest5n3
        case hy5n3 => (intro w hSw; (try dsimp only at hSw); go_simp; try rfl)
        (try simp only [Act.put, List.setIfInBounds_toArray, List.set_cons_zero, List.set_cons_succ])
        refine wpAnyH_take (i := 6) (v := ?v6n4) rfl (by kernel_rfl) (by kernel_rfl) (by kernel_rfl) (fun _ _ _ h => h) (Or.inl ⟨by kernel_rfl, ?hy6n4⟩) hHeld ?rest6n4
        case hy6n4 => (intro w hSw; (try dsimp only at hSw); go_simp; try rfl)
        (try simp only [Act.put, List.setIfInBounds_toArray, List.set_cons_zero, List.set_cons_succ])
        refine wpAnyH_take (i := 7) (v := ?v7n5) rfl (by kernel_rfl) (by kernel_rfl) (by kernel_rfl) (fun _ _ _ h => h) (Or.inl ⟨by kernel_rfl, ?hy7n5⟩) hHeld ?rest7n5
        case hy7n5 => (intro w hSw; (try dsimp only at hSw); go_simp; try rfl)
        (try simp only [Act.put, List.setIfInBounds_toArray, List.set_cons_zero, List.set_cons_succ])
        refine wpAnyH_take (i := 8) (v := ?v8n6) rfl (by kernel_rfl) (by kernel_rfl) (by kernel_rfl) (fun _ _ _ h => h) (Or.inl ⟨by kernel_rfl, ?hy8n6⟩) hHeld ?rest8n6
        case hy8n6 => (intro w hSw; (try dsimp only at hSw); go_simp; try rfl)
        (try simp only [Act.put, List.setIfInBounds_toArray, List.set_cons_zero, List.set_cons_succ])
        refine wpAnyH_take (i := 9) (v := ?v9n7) rfl (by kernel_rfl) (by kernel_rfl) (by kernel_rfl) (fun _ _ _ h => h) (Or.inl ⟨by kernel_rfl, ?hy9n7⟩) hHeld ?rest9n7
        case hy9n7 => (intro w hSw; (try dsimp only at hSw); go_simp; try rfl)
        (try simp only [Act.put, List.setIfInBounds_toArray, List.set_cons_zero, List.set_cons_succ])
        refine wpAnyH_ready (rs := [0, 10]) (by kernel_rfl) (by simp) ?_
        refine AllReadyH.cons (o := _) rfl (fun K hK => ?_) (AllReadyH.cons (o := _) rfl (fun K hK => ?_) AllReadyH.nil)
        · skip
          go_simp
          have hB5 : Below w2.heap.size w2 (X3.alloc (.cells #[.string ⟨#[97]⟩, .string ⟨#[98, 121]⟩, .string ⟨#[65]⟩, .string ⟨#[109, 46, 102]⟩] 9)).drew := hB3.alloc hB3.size _
          have hx5 : Box6 (X3.alloc (.cells #[.string ⟨#[97]⟩, .string ⟨#[98, 121]⟩, .string ⟨#[65]⟩, .string ⟨#[109, 46, 102]⟩] 9)).drew w2.heap.size (⟨(r24 : Int) - 1, ⟨0, 0, ⟨#[]⟩⟩, ⟨#[]⟩, 0⟩ : Nd) := hx3.alloc _
          have hc5 : (X3.alloc (.cells #[.string ⟨#[97]⟩, .string ⟨#[98, 121]⟩, .string ⟨#[65]⟩, .string ⟨#[109, 46, 102]⟩] 9)).drew.cell? ⟨X3.heap.size, r4, none⟩ = some (.string nm4) := new_cells (w := X3) (cs := [.string ⟨#[97]⟩, .string ⟨#[98, 121]⟩, .string ⟨#[65]⟩, .string ⟨#[109, 46, 102]⟩]) (t := 9) r4 _ hp4
          have hlt5 : X3.heap.size < (X3.alloc (.cells #[.string ⟨#[97]⟩, .string ⟨#[98, 121]⟩, .string ⟨#[65]⟩, .string ⟨#[109, 46, 102]⟩] 9)).drew.heap.size := by show X3.heap.size < (X3.alloc _).heap.size; rw [World.size_alloc]; exact Nat.lt_succ_self _
          refine hK.out _ _ hB5 (fun hHeld => ?_)
          clear hK K
          (try simp only [Act.put, List.setIfInBounds_toArray, List.set_cons_zero, List.set_cons_succ])
          obtain ⟨X5, hX5⟩ : ∃ X5, (X3.alloc (.cells #[.string ⟨#[97]⟩, .string ⟨#[98, 121]⟩, .string ⟨#[65]⟩, .string ⟨#[109, 46, 102]⟩] 9)).drew = X5 := ⟨_, rfl⟩
          rw [hX5] at hB5 hx5 hc5 hlt5 hHeld
          rw [hX5]
          refine wpAnyH_take (i := 3) (v := ?v3n8) rfl (by kernel_rfl) (by kernel_rfl) (by kernel_rfl) (fun _ _ _ h => h) (Or.inl ⟨by kernel_rfl, ?hy3n8⟩) hHeld ?rest3n8
          case hy3n8 => (intro w hSw; (try dsimp only at hSw); go_simp; try rfl)
          (try simp only [Act.put, List.setIfInBounds_toArray, List.set_cons_zero, List.set_cons_succ])
          refine wpAnyH_ready (rs := [4, 10]) (by kernel_rfl) (by simp) ?_
          refine AllReadyH.cons (o := _) rfl (fun K hK => ?_) (AllReadyH.cons (o := _) rfl (fun K hK => ?_) AllReadyH.nil)
          · skip
            go_simp
            refine hK.out _ _ hB5 (fun hHeld => ?_)
            clear hK K
            (try simp only [Act.put, List.setIfInBounds_toArray, List.set_cons_zero, List.set_cons_succ])
            refine wpAnyH_take (i := 11) (v := ?v11n9) rfl (by kernel_rfl) (by kernel_rfl) (by kernel_rfl) (fun _ _ _ h => h) (Or.inl ⟨by kernel_rfl, ?hy11n9⟩) hHeld ?rest11n9
            case hy11n9 => (intro w hSw; (try dsimp only at hSw); go_simp; try rfl)
            (try simp only [Act.put, List.setIfInBounds_toArray, List.set_cons_zero, List.set_cons_succ])
            refine wpAnyH_ready (rs := [10]) (by kernel_rfl) (by simp) ?_
            refine AllReadyH.cons (o := _) rfl (fun K hK => ?_) AllReadyH.nil
            go_simp
            go_at_call 20
            refine (CY1.out _).mono ?_
            rintro ev w4 ⟨rfl, hcall⟩
            have hB4 : Below w2.heap.size w2 w4 := hB5.trans (hcall.mono hB5.size)
            have hx4 := Box6.keep hx5 hcall hx5.lt
            go_wp2_with fail
            refine hK.out _ _ hB4 (fun hHeld => ?_)
            clear hK K
            (try simp only [Act.put, List.setIfInBounds_toArray, List.set_cons_zero, List.set_cons_succ])
            obtain ⟨e0, e1, e2, e3, e4, e5⟩ := hx4.cells
            have ef := hx4.free
            refine wpAnyH_ready (rs := [12]) (by kernel_rfl) (by simp) ?_
            refine AllReadyH.cons (o := _) rfl (fun K hK => ?_) AllReadyH.nil
            go_simp
            have hB6 : Below w2.heap.size w2 (w4.setCell ⟨w2.heap.size, 4, none⟩ (.string nm4)) := hB4.setCell (Nat.le_refl _) _
            have hx6 := hx4.set4 (x := nm4)
            refine hK.out _ _ hB6 (fun hHeld => ?_)
            clear hK K
            (try simp only [Act.put, List.setIfInBounds_toArray, List.set_cons_zero, List.set_cons_succ])
            obtain ⟨X6, hX6⟩ : ∃ X6, (w4.setCell ⟨w2.heap.size, 4, none⟩ (.string nm4)) = X6 := ⟨_, rfl⟩
            rw [hX6] at hB6 hx6 hHeld
            rw [hX6]
            clear e0 e1 e2 e3 e4 e5 ef
            refine wpAnyH_take (i := 13) (v := ?v13n10) rfl (by kernel_rfl) (by kernel_rfl) (by kernel_rfl) (fun _ _ _ h => h) (Or.inl ⟨by kernel_rfl, ?hy13n10⟩) hHeld ?rest13n10
            case hy13n10 => (intro w hSw; (try dsimp only at hSw); go_simp; try rfl)
            (try simp only [Act.put, List.setIfInBounds_toArray, List.set_cons_zero, List.set_cons_succ])
            obtain ⟨e0, e1, e2, e3, e4, e5⟩ := hx6.cells
            have ef := hx6.free
            refine wpAnyH_ready (rs := [14]) (by kernel_rfl) (by simp) ?_
            refine AllReadyH.cons (o := _) rfl (fun K hK => ?_) AllReadyH.nil
            go_simp
            have hB7 : Below w2.heap.size w2 (X6.setCell ⟨w2.heap.size, 5, none⟩ (.int .i64 A)) := hB6.setCell (Nat.le_refl _) _
            have hx7 := hx6.set5 (x := A)
            refine hK.out _ _ hB7 (fun hHeld => ?_)
            clear hK K
            (try simp only [Act.put, List.setIfInBounds_toArray, List.set_cons_zero, List.set_cons_succ])
            obtain ⟨X7, hX7⟩ : ∃ X7, (X6.setCell ⟨w2.heap.size, 5, none⟩ (.int .i64 A)) = X7 := ⟨_, rfl⟩
            rw [hX7] at hB7 hx7 hHeld
            rw [hX7]
            clear e0 e1 e2 e3 e4 e5 ef
            refine wpAnyH_take (i := 15) (v := ?v15n11) rfl (by kernel_rfl) (by kernel_rfl) (by kernel_rfl) (fun _ _ _ h => h) (Or.inl ⟨by kernel_rfl, ?hy15n11⟩) hHeld ?rest15n11
            case hy15n11 => (intro w hSw; (try dsimp only at hSw); go_simp; try rfl)
            (try simp only [Act.put, List.setIfInBounds_toArray, List.set_cons_zero, List.set_cons_succ])
            obtain ⟨e0, e1, e2, e3, e4, e5⟩ := hx7.cells
            have ef := hx7.free
            refine wpAnyH_ready (rs := [16]) (by kernel_rfl) (by simp) ?_
            refine AllReadyH.cons (o := _) rfl (fun K hK => ?_) AllReadyH.nil
            go_simp
            have hB8 : Below w2.heap.size w2 (((X7.setCell ⟨w2.heap.size, 1, none⟩ (.int .i64 vk)).setCell ⟨w2.heap.size, 2, none⟩ (.int .i64 vn)).setCell ⟨w2.heap.size, 3, none⟩ (.string vs)) := ((hB7.setCell (Nat.le_refl _) _).setCell (Nat.le_refl _) _).setCell (Nat.le_refl _) _
            have hx8 := ((hx7.set1 (x := vk)).set2 (x := vn)).set3 (x := vs)
            refine hK.out _ _ hB8 (fun hHeld => ?_)
            clear hK K
            (try simp only [Act.put, List.setIfInBounds_toArray, List.set_cons_zero, List.set_cons_succ])
            refine wpAnyH_done (by kernel_rfl) ?_ _
            clear e0 e1 e2 e3 e4 e5 ef hB6 hx6 hB7 hx7 hX6 hX7 hHeld
            have hbx5 : Box6 (((X7.setCell ⟨w2.heap.size, 1, none⟩ (.int .i64 vk)).setCell ⟨w2.heap.size, 2, none⟩ (.int .i64 vn)).setCell ⟨w2.heap.size, 3, none⟩ (.string vs)) w2.heap.size (⟨((r24 : Int) - 1), ⟨vk, vn, vs⟩, nm4, A⟩ : Nd) := hx8
            have hbl5 : Below w2.heap.size w2 (((X7.setCell ⟨w2.heap.size, 1, none⟩ (.int .i64 vk)).setCell ⟨w2.heap.size, 2, none⟩ (.int .i64 vn)).setCell ⟨w2.heap.size, 3, none⟩ (.string vs)) := hB8
            obtain ⟨W5, hW5⟩ : ∃ W5, (((X7.setCell ⟨w2.heap.size, 1, none⟩ (.int .i64 vk)).setCell ⟨w2.heap.size, 2, none⟩ (.int .i64 vn)).setCell ⟨w2.heap.size, 3, none⟩ (.string vs)) = W5 := ⟨_, rfl⟩
            rw [hW5] at hbx5 hbl5
            rw [hW5]
            obtain ⟨d0, d1, d2, d3, d4, d5⟩ := hbx5.cells
            have hB25 : Below wr.heap.size wr W5 := HB2.out.trans (hbl5.mono HB2.out.size)
            have hs5 := hB25.size
            have hown5 := (own_below HOWN.out hB25).alloc (.cells #[.int .i64 ((r24 : Int) - 1), .int .i64 vk, .int .i64 vn, .string vs, .string nm4, .int .i64 A] 26)
            have HB5 := Lib.hid (HB.out.trans (hB25.mono hsz))
            have hnew : IsNodes (W5.alloc (.cells #[.int .i64 ((r24 : Int) - 1), .int .i64 vk, .int .i64 vn, .string vs, .string nm4, .int .i64 A] 26)) (some ⟨W5.heap.size, 0, none⟩) 1 [(⟨((r24 : Int) - 1), ⟨vk, vn, vs⟩, nm4, A⟩ : Nd)] := by
              obtain ⟨a', c', hv', hq, _, _, _, _⟩ := own_nodes (mdp_one W5 W5.heap.size (Nat.le_refl _) (⟨((r24 : Int) - 1), ⟨vk, vn, vs⟩, nm4, A⟩ : Nd)) rfl
              cases hv'
              exact hq
            have HNEW := Lib.hid hnew
            clear hbx5 hW5 hbl5 hnew
            go_wp2_with (at_builtin; refine wpList_app rfl (.tmp 85) (.tmp 87) rfl rfl rfl hown5 (by simp; omega) HNEW.out (fun h => by cases h) (by omega) (by omega) ?_)
            intro v7 w7 ho7 hg7
            have hB7 : Hid (Below w.heap.size w w7) := (HB5.out.alloc HB5.out.size _).grown hg7 (by simp; omega) (fun j hj => (hown5.lt j hj).1)
            have hel7 : (es ++ [(⟨((r24 : Int) - 1), ⟨vk, vn, vs⟩, nm4, A⟩ : Nd)]).length = k + 1 := by rw [List.length_append, hel]; rfl
            have HO7 : Hid (w7.ownsRow w.heap.size 26 6 v7 (es ++ [(⟨((r24 : Int) - 1), ⟨vk, vn, vs⟩, nm4, A⟩ : Nd)]).length (nodesL (es ++ [(⟨((r24 : Int) - 1), ⟨vk, vn, vs⟩, nm4, A⟩ : Nd)]))) := by
              show World.ownsRow _ _ _ _ _ _ _
              rw [hel7]
              exact ho7
            have HNM7 : Hid (∀ t ∈ es ++ [(⟨((r24 : Int) - 1), ⟨vk, vn, vs⟩, nm4, A⟩ : Nd)], t.nm.size ≤ 10) := by
              intro t ht
              rcases List.mem_append.1 ht with h | h
              · exact HNM.out t h
              · rw [List.mem_singleton] at h
                subst h
                exact HNZ.out
            clear hg7 ho7 hown5 d0 d1 d2 d3 d4 d5
            go_wp2_with fail
            go_roundw
            case rel => exact ⟨k + 1, _, by omega, by go_num, hel7, HNM7, HO7.out, hB7⟩
            case measure => simp [intOf]; omega
          · skip
            have hc6 := fun W (h : Below X5.heap.size X5 W) => (h.cell (p := ⟨X3.heap.size, r4, none⟩) hlt5).trans hc5
            go_simp
            go_at_call 20
            refine (CY1.out _).mono ?_
            rintro ev w4 ⟨rfl, hcall⟩
            have hB4 : Below w2.heap.size w2 w4 := hB5.trans (hcall.mono hB5.size)
            have hx4 := Box6.keep hx5 hcall hx5.lt
            go_wp2_with fail
            refine hK.out _ _ hB4 (fun hHeld => ?_)
            clear hK K
            (try simp only [Act.put, List.setIfInBounds_toArray, List.set_cons_zero, List.set_cons_succ])
            have hc7 := hc6 w4 hcall
            refine wpAnyH_ready (rs := [4]) (by kernel_rfl) (by simp) ?_
            refine AllReadyH.cons (o := _) rfl (fun K hK => ?_) AllReadyH.nil
            go_simp
            refine hK.out _ _ hB4 (fun hHeld => ?_)
            clear hK K
            (try simp only [Act.put, List.setIfInBounds_toArray, List.set_cons_zero, List.set_cons_succ])
            refine wpAnyH_take (i := 11) (v := ?v11n12) rfl (by kernel_rfl) (by kernel_rfl) (by kernel_rfl) (fun _ _ _ h => h) (Or.inl ⟨by kernel_rfl, ?hy11n12⟩) hHeld ?rest11n12
            case hy11n12 => (intro w hSw; (try dsimp only at hSw); go_simp; try rfl)
            (try simp only [Act.put, List.setIfInBounds_toArray, List.set_cons_zero, List.set_cons_succ])
            obtain ⟨e0, e1, e2, e3, e4, e5⟩ := hx4.cells
            have ef := hx4.free
            refine wpAnyH_ready (rs := [12]) (by kernel_rfl) (by simp) ?_
            refine AllReadyH.cons (o := _) rfl (fun K hK => ?_) AllReadyH.nil
            go_simp
            have hB6 : Below w2.heap.size w2 (w4.setCell ⟨w2.heap.size, 4, none⟩ (.string nm4)) := hB4.setCell (Nat.le_refl _) _
            have hx6 := hx4.set4 (x := nm4)
            refine hK.out _ _ hB6 (fun hHeld => ?_)
            clear hK K
            (try simp only [Act.put, List.setIfInBounds_toArray, List.set_cons_zero, List.set_cons_succ])
            obtain ⟨X6, hX6⟩ : ∃ X6, (w4.setCell ⟨w2.heap.size, 4, none⟩ (.string nm4)) = X6 := ⟨_, rfl⟩
            rw [hX6] at hB6 hx6 hHeld
            rw [hX6]
            clear e0 e1 e2 e3 e4 e5 ef
            refine wpAnyH_take (i := 13) (v := ?v13n13) rfl (by kernel_rfl) (by kernel_rfl) (by kernel_rfl) (fun _ _ _ h => h) (Or.inl ⟨by kernel_rfl, ?hy13n13⟩) hHeld ?rest13n13
            case hy13n13 => (intro w hSw; (try dsimp only at hSw); go_simp; try rfl)
            (try simp only [Act.put, List.setIfInBounds_toArray, List.set_cons_zero, List.set_cons_succ])
            obtain ⟨e0, e1, e2, e3, e4, e5⟩ := hx6.cells
            have ef := hx6.free
            refine wpAnyH_ready (rs := [14]) (by kernel_rfl) (by simp) ?_
            refine AllReadyH.cons (o := _) rfl (fun K hK => ?_) AllReadyH.nil
            go_simp
            have hB7 : Below w2.heap.size w2 (X6.setCell ⟨w2.heap.size, 5, none⟩ (.int .i64 A)) := hB6.setCell (Nat.le_refl _) _
            have hx7 := hx6.set5 (x := A)
            refine hK.out _ _ hB7 (fun hHeld => ?_)
            clear hK K
            (try simp only [Act.put, List.setIfInBounds_toArray, List.set_cons_zero, List.set_cons_succ])
            obtain ⟨X7, hX7⟩ : ∃ X7, (X6.setCell ⟨w2.heap.size, 5, none⟩ (.int .i64 A)) = X7 := ⟨_, rfl⟩
            rw [hX7] at hB7 hx7 hHeld
            rw [hX7]
            clear e0 e1 e2 e3 e4 e5 ef
            refine wpAnyH_take (i := 15) (v := ?v15n14) rfl (by kernel_rfl) (by kernel_rfl) (by kernel_rfl) (fun _ _ _ h => h) (Or.inl ⟨by kernel_rfl, ?hy15n14⟩) hHeld ?rest15n14
            case hy15n14 => (intro w hSw; (try dsimp only at hSw); go_simp; try rfl)
            (try simp only [Act.put, List.setIfInBounds_toArray, List.set_cons_zero, List.set_cons_succ])
            obtain ⟨e0, e1, e2, e3, e4, e5⟩ := hx7.cells
            have ef := hx7.free
            refine wpAnyH_ready (rs := [16]) (by kernel_rfl) (by simp) ?_
            refine AllReadyH.cons (o := _) rfl (fun K hK => ?_) AllReadyH.nil
            go_simp
            have hB8 : Below w2.heap.size w2 (((X7.setCell ⟨w2.heap.size, 1, none⟩ (.int .i64 vk)).setCell ⟨w2.heap.size, 2, none⟩ (.int .i64 vn)).setCell ⟨w2.heap.size, 3, none⟩ (.string vs)) := ((hB7.setCell (Nat.le_refl _) _).setCell (Nat.le_refl _) _).setCell (Nat.le_refl _) _
            have hx8 := ((hx7.set1 (x := vk)).set2 (x := vn)).set3 (x := vs)
            refine hK.out _ _ hB8 (fun hHeld => ?_)
            clear hK K
            (try simp only [Act.put, List.setIfInBounds_toArray, List.set_cons_zero, List.set_cons_succ])
            refine wpAnyH_done (by kernel_rfl) ?_ _
            clear e0 e1 e2 e3 e4 e5 ef hB6 hx6 hB7 hx7 hX6 hX7 hHeld
            have hbx5 : Box6 (((X7.setCell ⟨w2.heap.size, 1, none⟩ (.int .i64 vk)).setCell ⟨w2.heap.size, 2, none⟩ (.int .i64 vn)).setCell ⟨w2.heap.size, 3, none⟩ (.string vs)) w2.heap.size (⟨((r24 : Int) - 1), ⟨vk, vn, vs⟩, nm4, A⟩ : Nd) := hx8
            have hbl5 : Below w2.heap.size w2 (((X7.setCell ⟨w2.heap.size, 1, none⟩ (.int .i64 vk)).setCell ⟨w2.heap.size, 2, none⟩ (.int .i64 vn)).setCell ⟨w2.heap.size, 3, none⟩ (.string vs)) := hB8
            obtain ⟨W5, hW5⟩ : ∃ W5, (((X7.setCell ⟨w2.heap.size, 1, none⟩ (.int .i64 vk)).setCell ⟨w2.heap.size, 2, none⟩ (.int .i64 vn)).setCell ⟨w2.heap.size, 3, none⟩ (.string vs)) = W5 := ⟨_, rfl⟩
            rw [hW5] at hbx5 hbl5
            rw [hW5]
            obtain ⟨d0, d1, d2, d3, d4, d5⟩ := hbx5.cells
            have hB25 : Below wr.heap.size wr W5 := HB2.out.trans (hbl5.mono HB2.out.size)
            have hs5 := hB25.size
            have hown5 := (own_below HOWN.out hB25).alloc (.cells #[.int .i64 ((r24 : Int) - 1), .int .i64 vk, .int .i64 vn, .string vs, .string nm4, .int .i64 A] 26)
            have HB5 := Lib.hid (HB.out.trans (hB25.mono hsz))
            have hnew : IsNodes (W5.alloc (.cells #[.int .i64 ((r24 : Int) - 1), .int .i64 vk, .int .i64 vn, .string vs, .string nm4, .int .i64 A] 26)) (some ⟨W5.heap.size, 0, none⟩) 1 [(⟨((r24 : Int) - 1), ⟨vk, vn, vs⟩, nm4, A⟩ : Nd)] := by
              obtain ⟨a', c', hv', hq, _, _, _, _⟩ := own_nodes (mdp_one W5 W5.heap.size (Nat.le_refl _) (⟨((r24 : Int) - 1), ⟨vk, vn, vs⟩, nm4, A⟩ : Nd)) rfl
              cases hv'
              exact hq
            have HNEW := Lib.hid hnew
            clear hbx5 hW5 hbl5 hnew
            go_wp2_with (at_builtin; refine wpList_app rfl (.tmp 85) (.tmp 87) rfl rfl rfl hown5 (by simp; omega) HNEW.out (fun h => by cases h) (by omega) (by omega) ?_)
            intro v7 w7 ho7 hg7
            have hB7 : Hid (Below w.heap.size w w7) := (HB5.out.alloc HB5.out.size _).grown hg7 (by simp; omega) (fun j hj => (hown5.lt j hj).1)
            have hel7 : (es ++ [(⟨((r24 : Int) - 1), ⟨vk, vn, vs⟩, nm4, A⟩ : Nd)]).length = k + 1 := by rw [List.length_append, hel]; rfl
            have HO7 : Hid (w7.ownsRow w.heap.size 26 6 v7 (es ++ [(⟨((r24 : Int) - 1), ⟨vk, vn, vs⟩, nm4, A⟩ : Nd)]).length (nodesL (es ++ [(⟨((r24 : Int) - 1), ⟨vk, vn, vs⟩, nm4, A⟩ : Nd)]))) := by
              show World.ownsRow _ _ _ _ _ _ _
              rw [hel7]
              exact ho7
            have HNM7 : Hid (∀ t ∈ es ++ [(⟨((r24 : Int) - 1), ⟨vk, vn, vs⟩, nm4, A⟩ : Nd)], t.nm.size ≤ 10) := by
              intro t ht
              rcases List.mem_append.1 ht with h | h
              · exact HNM.out t h
              · rw [List.mem_singleton] at h
                subst h
                exact HNZ.out
            clear hg7 ho7 hown5 d0 d1 d2 d3 d4 d5
            go_wp2_with fail
            go_roundw
            case rel => exact ⟨k + 1, _, by omega, by go_num, hel7, HNM7, HO7.out, hB7⟩
            case measure => simp [intOf]; omega
        · skip
          go_simp
          go_at_call 20
          refine (CY1.out _).mono ?_
          rintro ev w4 ⟨rfl, hcall⟩
          have hB4 : Below w2.heap.size w2 w4 := hB3.trans (hcall.mono hB3.size)
          have hx4 := Box6.keep hx3 hcall hx3.lt
          go_wp2_with fail
          refine hK.out _ _ hB4 (fun hHeld => ?_)
          clear hK K
          (try simp only [Act.put, List.setIfInBounds_toArray, List.set_cons_zero, List.set_cons_succ])
          refine wpAnyH_ready (rs := [0]) (by kernel_rfl) (by simp) ?_
          refine AllReadyH.cons (o := _) rfl (fun K hK => ?_) AllReadyH.nil
          go_simp
          have hB5 : Below w2.heap.size w2 (w4.alloc (.cells #[.string ⟨#[97]⟩, .string ⟨#[98, 121]⟩, .string ⟨#[65]⟩, .string ⟨#[109, 46, 102]⟩] 9)) := hB4.alloc hB4.size _
          have hx5 : Box6 (w4.alloc (.cells #[.string ⟨#[97]⟩, .string ⟨#[98, 121]⟩, .string ⟨#[65]⟩, .string ⟨#[109, 46, 102]⟩] 9)) w2.heap.size (⟨(r24 : Int) - 1, ⟨0, 0, ⟨#[]⟩⟩, ⟨#[]⟩, 0⟩ : Nd) := hx4.alloc _
          have hc5 : (w4.alloc (.cells #[.string ⟨#[97]⟩, .string ⟨#[98, 121]⟩, .string ⟨#[65]⟩, .string ⟨#[109, 46, 102]⟩] 9)).cell? ⟨w4.heap.size, r4, none⟩ = some (.string nm4) := new_cells (w := w4) (cs := [.string ⟨#[97]⟩, .string ⟨#[98, 121]⟩, .string ⟨#[65]⟩, .string ⟨#[109, 46, 102]⟩]) (t := 9) r4 _ hp4
          have hlt5 : w4.heap.size < (w4.alloc (.cells #[.string ⟨#[97]⟩, .string ⟨#[98, 121]⟩, .string ⟨#[65]⟩, .string ⟨#[109, 46, 102]⟩] 9)).heap.size := by rw [World.size_alloc]; exact Nat.lt_succ_self _
          refine hK.out _ _ hB5 (fun hHeld => ?_)
          clear hK K
          (try simp only [Act.put, List.setIfInBounds_toArray, List.set_cons_zero, List.set_cons_succ])
          obtain ⟨X5, hX5⟩ : ∃ X5, w4.alloc (.cells #[.string ⟨#[97]⟩, .string ⟨#[98, 121]⟩, .string ⟨#[65]⟩, .string ⟨#[109, 46, 102]⟩] 9) = X5 := ⟨_, rfl⟩
          rw [hX5] at hB5 hx5 hc5 hlt5 hHeld
          rw [hX5]
          refine wpAnyH_take (i := 3) (v := ?v3n15) rfl (by kernel_rfl) (by kernel_rfl) (by kernel_rfl) (fun _ _ _ h => h) (Or.inl ⟨by kernel_rfl, ?hy3n15⟩) hHeld ?rest3n15
          case hy3n15 => (intro w hSw; (try dsimp only at hSw); go_simp; try rfl)
          (try simp only [Act.put, List.setIfInBounds_toArray, List.set_cons_zero, List.set_cons_succ])
          refine wpAnyH_ready (rs := [4]) (by kernel_rfl) (by simp) ?_
          refine AllReadyH.cons (o := _) rfl (fun K hK => ?_) AllReadyH.nil
          go_simp
          refine hK.out _ _ hB5 (fun hHeld => ?_)
          clear hK K
          (try simp only [Act.put, List.setIfInBounds_toArray, List.set_cons_zero, List.set_cons_succ])
          refine wpAnyH_take (i := 11) (v := ?v11n16) rfl (by kernel_rfl) (by kernel_rfl) (by kernel_rfl) (fun _ _ _ h => h) (Or.inl ⟨by kernel_rfl, ?hy11n16⟩) hHeld ?rest11n16
          case hy11n16 => (intro w hSw; (try dsimp only at hSw); go_simp; try rfl)
          (try simp only [Act.put, List.setIfInBounds_toArray, List.set_cons_zero, List.set_cons_succ])
          obtain ⟨e0, e1, e2, e3, e4, e5⟩ := hx5.cells
          have ef := hx5.free
          refine wpAnyH_ready (rs := [12]) (by kernel_rfl) (by simp) ?_
          refine AllReadyH.cons (o := _) rfl (fun K hK => ?_) AllReadyH.nil
          go_simp
          have hB6 : Below w2.heap.size w2 (X5.setCell ⟨w2.heap.size, 4, none⟩ (.string nm4)) := hB5.setCell (Nat.le_refl _) _
          have hx6 := hx5.set4 (x := nm4)
          refine hK.out _ _ hB6 (fun hHeld => ?_)
          clear hK K
          (try simp only [Act.put, List.setIfInBounds_toArray, List.set_cons_zero, List.set_cons_succ])
          obtain ⟨X6, hX6⟩ : ∃ X6, (X5.setCell ⟨w2.heap.size, 4, none⟩ (.string nm4)) = X6 := ⟨_, rfl⟩
          rw [hX6] at hB6 hx6 hHeld
          rw [hX6]
          clear e0 e1 e2 e3 e4 e5 ef
          refine wpAnyH_take (i := 13) (v := ?v13n17) rfl (by kernel_rfl) (by kernel_rfl) (by kernel_rfl) (fun _ _ _ h => h) (Or.inl ⟨by kernel_rfl, ?hy13n17⟩) hHeld ?rest13n17
          case hy13n17 => (intro w hSw; (try dsimp only at hSw); go_simp; try rfl)
          (try simp only [Act.put, List.setIfInBounds_toArray, List.set_cons_zero, List.set_cons_succ])
          obtain ⟨e0, e1, e2, e3, e4, e5⟩ := hx6.cells
          have ef := hx6.free
          refine wpAnyH_ready (rs := [14]) (by kernel_rfl) (by simp) ?_
          refine AllReadyH.cons (o := _) rfl (fun K hK => ?_) AllReadyH.nil
          go_simp
          have hB7 : Below w2.heap.size w2 (X6.setCell ⟨w2.heap.size, 5, none⟩ (.int .i64 A)) := hB6.setCell (Nat.le_refl _) _
          have hx7 := hx6.set5 (x := A)
          refine hK.out _ _ hB7 (fun hHeld => ?_)
          clear hK K
          (try simp only [Act.put, List.setIfInBounds_toArray, List.set_cons_zero, List.set_cons_succ])
          obtain ⟨X7, hX7⟩ : ∃ X7, (X6.setCell ⟨w2.heap.size, 5, none⟩ (.int .i64 A)) = X7 := ⟨_, rfl⟩
          rw [hX7] at hB7 hx7 hHeld
          rw [hX7]
          clear e0 e1 e2 e3 e4 e5 ef
          refine wpAnyH_take (i := 15) (v := ?v15n18) rfl (by kernel_rfl) (by kernel_rfl) (by kernel_rfl) (fun _ _ _ h => h) (Or.inl ⟨by kernel_rfl, ?hy15n18⟩) hHeld ?rest15n18
          case hy15n18 => (intro w hSw; (try dsimp only at hSw); go_simp; try rfl)
          (try simp only [Act.put, List.setIfInBounds_toArray, List.set_cons_zero, List.set_cons_succ])
          obtain ⟨e0, e1, e2, e3, e4, e5⟩ := hx7.cells
          have ef := hx7.free
          refine wpAnyH_ready (rs := [16]) (by kernel_rfl) (by simp) ?_
          refine AllReadyH.cons (o := _) rfl (fun K hK => ?_) AllReadyH.nil
          go_simp
          have hB8 : Below w2.heap.size w2 (((X7.setCell ⟨w2.heap.size, 1, none⟩ (.int .i64 vk)).setCell ⟨w2.heap.size, 2, none⟩ (.int .i64 vn)).setCell ⟨w2.heap.size, 3, none⟩ (.string vs)) := ((hB7.setCell (Nat.le_refl _) _).setCell (Nat.le_refl _) _).setCell (Nat.le_refl _) _
          have hx8 := ((hx7.set1 (x := vk)).set2 (x := vn)).set3 (x := vs)
          refine hK.out _ _ hB8 (fun hHeld => ?_)
          clear hK K
          (try simp only [Act.put, List.setIfInBounds_toArray, List.set_cons_zero, List.set_cons_succ])
          refine wpAnyH_done (by kernel_rfl) ?_ _
          clear e0 e1 e2 e3 e4 e5 ef hB6 hx6 hB7 hx7 hX6 hX7 hHeld
          have hbx5 : Box6 (((X7.setCell ⟨w2.heap.size, 1, none⟩ (.int .i64 vk)).setCell ⟨w2.heap.size, 2, none⟩ (.int .i64 vn)).setCell ⟨w2.heap.size, 3, none⟩ (.string vs)) w2.heap.size (⟨((r24 : Int) - 1), ⟨vk, vn, vs⟩, nm4, A⟩ : Nd) := hx8
          have hbl5 : Below w2.heap.size w2 (((X7.setCell ⟨w2.heap.size, 1, none⟩ (.int .i64 vk)).setCell ⟨w2.heap.size, 2, none⟩ (.int .i64 vn)).setCell ⟨w2.heap.size, 3, none⟩ (.string vs)) := hB8
          obtain ⟨W5, hW5⟩ : ∃ W5, (((X7.setCell ⟨w2.heap.size, 1, none⟩ (.int .i64 vk)).setCell ⟨w2.heap.size, 2, none⟩ (.int .i64 vn)).setCell ⟨w2.heap.size, 3, none⟩ (.string vs)) = W5 := ⟨_, rfl⟩
          rw [hW5] at hbx5 hbl5
          rw [hW5]
          obtain ⟨d0, d1, d2, d3, d4, d5⟩ := hbx5.cells
          have hB25 : Below wr.heap.size wr W5 := HB2.out.trans (hbl5.mono HB2.out.size)
          have hs5 := hB25.size
          have hown5 := (own_below HOWN.out hB25).alloc (.cells #[.int .i64 ((r24 : Int) - 1), .int .i64 vk, .int .i64 vn, .string vs, .string nm4, .int .i64 A] 26)
          have HB5 := Lib.hid (HB.out.trans (hB25.mono hsz))
          have hnew : IsNodes (W5.alloc (.cells #[.int .i64 ((r24 : Int) - 1), .int .i64 vk, .int .i64 vn, .string vs, .string nm4, .int .i64 A] 26)) (some ⟨W5.heap.size, 0, none⟩) 1 [(⟨((r24 : Int) - 1), ⟨vk, vn, vs⟩, nm4, A⟩ : Nd)] := by
            obtain ⟨a', c', hv', hq, _, _, _, _⟩ := own_nodes (mdp_one W5 W5.heap.size (Nat.le_refl _) (⟨((r24 : Int) - 1), ⟨vk, vn, vs⟩, nm4, A⟩ : Nd)) rfl
            cases hv'
            exact hq
          have HNEW := Lib.hid hnew
          clear hbx5 hW5 hbl5 hnew
          go_wp2_with (at_builtin; refine wpList_app rfl (.tmp 85) (.tmp 87) rfl rfl rfl hown5 (by simp; omega) HNEW.out (fun h => by cases h) (by omega) (by omega) ?_)
          intro v7 w7 ho7 hg7
          have hB7 : Hid (Below w.heap.size w w7) := (HB5.out.alloc HB5.out.size _).grown hg7 (by simp; omega) (fun j hj => (hown5.lt j hj).1)
          have hel7 : (es ++ [(⟨((r24 : Int) - 1), ⟨vk, vn, vs⟩, nm4, A⟩ : Nd)]).length = k + 1 := by rw [List.length_append, hel]; rfl
          have HO7 : Hid (w7.ownsRow w.heap.size 26 6 v7 (es ++ [(⟨((r24 : Int) - 1), ⟨vk, vn, vs⟩, nm4, A⟩ : Nd)]).length (nodesL (es ++ [(⟨((r24 : Int) - 1), ⟨vk, vn, vs⟩, nm4, A⟩ : Nd)]))) := by
            show World.ownsRow _ _ _ _ _ _ _
            rw [hel7]
            exact ho7
          have HNM7 : Hid (∀ t ∈ es ++ [(⟨((r24 : Int) - 1), ⟨vk, vn, vs⟩, nm4, A⟩ : Nd)], t.nm.size ≤ 10) := by
            intro t ht
            rcases List.mem_append.1 ht with h | h
            · exact HNM.out t h
            · rw [List.mem_singleton] at h
              subst h
              exact HNZ.out
          clear hg7 ho7 hown5 d0 d1 d2 d3 d4 d5
          go_wp2_with fail
          go_roundw
          case rel => exact ⟨k + 1, _, by omega, by go_num, hel7, HNM7, HO7.out, hB7⟩
          case measure => simp [intOf]; omega
      · have bk16 : ((k16 : Int) == 0) = false := by simp only [beq_eq_false_iff_ne]; omega
        obtain ⟨q24, hq24⟩ : ∃ q24, n / 24 = q24 := ⟨_, rfl⟩
        have tq24 : (n : Int).tdiv 24 = (q24 : Int) := by rw [Int.tdiv_eq_ediv_of_nonneg (by omega)]; omega
        have mq24 : (n : Int) / 24 = (q24 : Int) := by omega
        obtain ⟨q72, hq72⟩ : ∃ q72, n / 72 = q72 := ⟨_, rfl⟩
        have tq72 : (n : Int).tdiv 72 = (q72 : Int) := by rw [Int.tdiv_eq_ediv_of_nonneg (by omega)]; omega
        have mq72 : (n : Int) / 72 = (q72 : Int) := by omega
        obtain ⟨a4, ha4⟩ : ∃ a4, q72 % 4 = a4 := ⟨_, rfl⟩
        have ta4 : (q72 : Int).tmod 4 = (a4 : Int) := by rw [Int.tmod_eq_emod_of_nonneg (by omega)]; omega
        have ma4 : (q72 : Int) % 4 = (a4 : Int) := by omega
        by_cases o0 : r24 = 1
        · subst o0
          have CY1 := Lib.hid (CY.out (q24 : Int) (by omega) (by omega))
          generalize anyV (q24 : Int) = vv at *
          obtain ⟨vk, vn, vs⟩ := vv
          unfold agg at CY1
          simp only at CY1
          have HNZ : Hid ((⟨#[]⟩ : ByteArray).size ≤ 10) := by (show _ ≤ _; decide)
          clear CY
          have hx3 : Box6 (w2.alloc (.cells #[.int .i64 0, .int .i64 0, .int .i64 0, .string ⟨#[]⟩, .string ⟨#[]⟩, .int .i64 0] 26)) w2.heap.size (⟨0, ⟨0, 0, ⟨#[]⟩⟩, ⟨#[]⟩, 0⟩ : Nd) := ⟨heap_alloc_new w2 _⟩
          have HX3 := Lib.hid hx3
          clear hx3
          go_wp2_with fail
          refine (CY1.out _).mono ?_
          rintro ev w4 ⟨rfl, hcall⟩
          have hx4 := Box6.keep HX3.out hcall HX3.out.lt
          obtain ⟨e0, e1, e2, e3, e4, e5⟩ := hx4.cells
          have ef := hx4.free
          have hb4 : Below w2.heap.size w2 w4 := ((Below.refl _ _).alloc (Nat.le_refl _) _).trans (hcall.mono (by simp))
          clear hx4 hcall CY1
          have hbl5 : Below w2.heap.size w2 (((w4.setCell ⟨w2.heap.size, 1, none⟩ (.int .i64 vk)).setCell ⟨w2.heap.size, 2, none⟩ (.int .i64 vn)).setCell ⟨w2.heap.size, 3, none⟩ (.string vs)) := ((hb4.setCell (Nat.le_refl _) _).setCell (Nat.le_refl _) _).setCell (Nat.le_refl _) _
          have hB25 : Below wr.heap.size wr (((w4.setCell ⟨w2.heap.size, 1, none⟩ (.int .i64 vk)).setCell ⟨w2.heap.size, 2, none⟩ (.int .i64 vn)).setCell ⟨w2.heap.size, 3, none⟩ (.string vs)) := HB2.out.trans (hbl5.mono HB2.out.size)
          have hs5 := hB25.size
          have hown5 := (own_below HOWN.out hB25).alloc (.cells #[.int .i64 0, .int .i64 vk, .int .i64 vn, .string vs, .string ⟨#[]⟩, .int .i64 0] 26)
          have HB5 := Lib.hid (HB.out.trans (hB25.mono hsz))
          have hnew : IsNodes ((((w4.setCell ⟨w2.heap.size, 1, none⟩ (.int .i64 vk)).setCell ⟨w2.heap.size, 2, none⟩ (.int .i64 vn)).setCell ⟨w2.heap.size, 3, none⟩ (.string vs)).alloc (.cells #[.int .i64 0, .int .i64 vk, .int .i64 vn, .string vs, .string ⟨#[]⟩, .int .i64 0] 26)) (some ⟨(((w4.setCell ⟨w2.heap.size, 1, none⟩ (.int .i64 vk)).setCell ⟨w2.heap.size, 2, none⟩ (.int .i64 vn)).setCell ⟨w2.heap.size, 3, none⟩ (.string vs)).heap.size, 0, none⟩) 1 [(⟨0, ⟨vk, vn, vs⟩, ⟨#[]⟩, 0⟩ : Nd)] := by
            obtain ⟨a', c', hv', hq, _, _, _, _⟩ := own_nodes (mdp_one (((w4.setCell ⟨w2.heap.size, 1, none⟩ (.int .i64 vk)).setCell ⟨w2.heap.size, 2, none⟩ (.int .i64 vn)).setCell ⟨w2.heap.size, 3, none⟩ (.string vs)) (((w4.setCell ⟨w2.heap.size, 1, none⟩ (.int .i64 vk)).setCell ⟨w2.heap.size, 2, none⟩ (.int .i64 vn)).setCell ⟨w2.heap.size, 3, none⟩ (.string vs)).heap.size (Nat.le_refl _) (⟨0, ⟨vk, vn, vs⟩, ⟨#[]⟩, 0⟩ : Nd)) rfl
            cases hv'
            exact hq
          have hSZ : (((w4.setCell ⟨w2.heap.size, 1, none⟩ (.int .i64 vk)).setCell ⟨w2.heap.size, 2, none⟩ (.int .i64 vn)).setCell ⟨w2.heap.size, 3, none⟩ (.string vs)).heap.size = w4.heap.size := by simp
          rw [hSZ] at hnew
          have HNEW := Lib.hid hnew
          clear hbl5 hnew
          go_wp2_with (at_builtin; refine wpList_app rfl (.tmp 85) (.tmp 87) rfl rfl rfl hown5 (Nat.le_trans hsz (Nat.le_trans hs5 (by simp only [World.size_alloc]; omega))) HNEW.out (fun h => by cases h) (by omega) (by omega) ?_)
          intro v7 w7 ho7 hg7
          have hB7 : Hid (Below w.heap.size w w7) := (HB5.out.alloc HB5.out.size _).grown hg7 (Nat.le_trans HB5.out.size (by simp only [World.size_alloc]; omega)) (fun j hj => (hown5.lt j hj).1)
          have hel7 : (es ++ [(⟨0, ⟨vk, vn, vs⟩, ⟨#[]⟩, 0⟩ : Nd)]).length = k + 1 := by rw [List.length_append, hel]; rfl
          have HO7 : Hid (w7.ownsRow w.heap.size 26 6 v7 (es ++ [(⟨0, ⟨vk, vn, vs⟩, ⟨#[]⟩, 0⟩ : Nd)]).length (nodesL (es ++ [(⟨0, ⟨vk, vn, vs⟩, ⟨#[]⟩, 0⟩ : Nd)]))) := by
            show World.ownsRow _ _ _ _ _ _ _
            rw [hel7]
            exact ho7
          have HNM7 : Hid (∀ t ∈ es ++ [(⟨0, ⟨vk, vn, vs⟩, ⟨#[]⟩, 0⟩ : Nd)], t.nm.size ≤ 10) := by
            intro t ht
            rcases List.mem_append.1 ht with h | h
            · exact HNM.out t h
            · rw [List.mem_singleton] at h
              subst h
              exact HNZ.out
          clear hg7 ho7 hown5
          go_wp2_with fail
          go_roundw
          case rel => exact ⟨k + 1, _, by omega, by go_num, hel7, HNM7, HO7.out, hB7⟩
          case measure => simp [intOf]; omega
        have bo0 : (((r24 : Int) - 1) == 0) = false := by simp only [beq_eq_false_iff_ne]; omega
        by_cases o1 : r24 = 2
        · subst o1
          obtain ⟨c4, hc4⟩ : ∃ c4, q24 % 4 = c4 := ⟨_, rfl⟩
          have tc4 : (q24 : Int).tmod 4 = (c4 : Int) := by rw [Int.tmod_eq_emod_of_nonneg (by omega)]; omega
          have mc4 : (q24 : Int) % 4 = (c4 : Int) := by omega
          have hlc4 : c4 < 4 := by omega
          have hic4 : (c4 : Int) < 4 := by omega
          obtain ⟨nm, hp, hnm⟩ : ∃ x, [Value.string ⟨#[97]⟩, .string ⟨#[98]⟩, .string ⟨#[118]⟩, .string ⟨#[100, 97, 121]⟩][c4]? = some (.string x) ∧ (x = ⟨#[97]⟩ ∨ x = ⟨#[98]⟩ ∨ x = ⟨#[118]⟩ ∨ x = ⟨#[100, 97, 121]⟩) := by
            have : c4 = 0 ∨ c4 = 1 ∨ c4 = 2 ∨ c4 = 3 := by omega
            rcases this with rfl | rfl | rfl | rfl
            · exact ⟨_, rfl, Or.inl rfl⟩
            · exact ⟨_, rfl, Or.inr (Or.inl rfl)⟩
            · exact ⟨_, rfl, Or.inr (Or.inr (Or.inl rfl))⟩
            · exact ⟨_, rfl, Or.inr (Or.inr (Or.inr (rfl)))⟩
          obtain ⟨hq5, hp5⟩ := List.getElem?_eq_some_iff.1 hp
          have HNZ : Hid (nm.size ≤ 10) := by rcases hnm with rfl | rfl | rfl | rfl <;> (show _ ≤ _; decide)
          clear hnm CY
          have hx30 : Box6 (w2.alloc (.cells #[.int .i64 1, .int .i64 0, .int .i64 0, .string ⟨#[]⟩, .string ⟨#[]⟩, .int .i64 0] 26)) w2.heap.size (⟨1, ⟨0, 0, ⟨#[]⟩⟩, ⟨#[]⟩, 0⟩ : Nd) := ⟨heap_alloc_new w2 _⟩
          have hx3 : Box6 ((w2.alloc (.cells #[.int .i64 1, .int .i64 0, .int .i64 0, .string ⟨#[]⟩, .string ⟨#[]⟩, .int .i64 0] 26)).alloc (.cells #[.string ⟨#[97]⟩, .string ⟨#[98]⟩, .string ⟨#[118]⟩, .string ⟨#[100, 97, 121]⟩] 9)) w2.heap.size (⟨1, ⟨0, 0, ⟨#[]⟩⟩, ⟨#[]⟩, 0⟩ : Nd) := hx30.alloc _
          clear hx30
          obtain ⟨e0, e1, e2, e3, e4, e5⟩ := hx3.cells
          have ef := hx3.free
          clear hx3
          have hbl5 : Below w2.heap.size w2 ((w2.alloc (.cells #[.int .i64 1, .int .i64 0, .int .i64 0, .string ⟨#[]⟩, .string nm, .int .i64 0] 26)).alloc (.cells #[.string ⟨#[97]⟩, .string ⟨#[98]⟩, .string ⟨#[118]⟩, .string ⟨#[100, 97, 121]⟩] 9)) := ((Below.refl _ _).alloc (Nat.le_refl _) _).alloc (by simp) _
          have hB25 : Below wr.heap.size wr ((w2.alloc (.cells #[.int .i64 1, .int .i64 0, .int .i64 0, .string ⟨#[]⟩, .string nm, .int .i64 0] 26)).alloc (.cells #[.string ⟨#[97]⟩, .string ⟨#[98]⟩, .string ⟨#[118]⟩, .string ⟨#[100, 97, 121]⟩] 9)) := HB2.out.trans (hbl5.mono HB2.out.size)
          have hs5 := hB25.size
          have hown5 := (own_below HOWN.out hB25).alloc (.cells #[.int .i64 1, .int .i64 0, .int .i64 0, .string ⟨#[]⟩, .string nm, .int .i64 0] 26)
          have HB5 := Lib.hid (HB.out.trans (hB25.mono hsz))
          have hnew : IsNodes (((w2.alloc (.cells #[.int .i64 1, .int .i64 0, .int .i64 0, .string ⟨#[]⟩, .string nm, .int .i64 0] 26)).alloc (.cells #[.string ⟨#[97]⟩, .string ⟨#[98]⟩, .string ⟨#[118]⟩, .string ⟨#[100, 97, 121]⟩] 9)).alloc (.cells #[.int .i64 1, .int .i64 0, .int .i64 0, .string ⟨#[]⟩, .string nm, .int .i64 0] 26)) (some ⟨((w2.alloc (.cells #[.int .i64 1, .int .i64 0, .int .i64 0, .string ⟨#[]⟩, .string nm, .int .i64 0] 26)).alloc (.cells #[.string ⟨#[97]⟩, .string ⟨#[98]⟩, .string ⟨#[118]⟩, .string ⟨#[100, 97, 121]⟩] 9)).heap.size, 0, none⟩) 1 [(⟨1, ⟨0, 0, ⟨#[]⟩⟩, nm, 0⟩ : Nd)] := by
            obtain ⟨a', c', hv', hq, _, _, _, _⟩ := own_nodes (mdp_one ((w2.alloc (.cells #[.int .i64 1, .int .i64 0, .int .i64 0, .string ⟨#[]⟩, .string nm, .int .i64 0] 26)).alloc (.cells #[.string ⟨#[97]⟩, .string ⟨#[98]⟩, .string ⟨#[118]⟩, .string ⟨#[100, 97, 121]⟩] 9)) ((w2.alloc (.cells #[.int .i64 1, .int .i64 0, .int .i64 0, .string ⟨#[]⟩, .string nm, .int .i64 0] 26)).alloc (.cells #[.string ⟨#[97]⟩, .string ⟨#[98]⟩, .string ⟨#[118]⟩, .string ⟨#[100, 97, 121]⟩] 9)).heap.size (Nat.le_refl _) (⟨1, ⟨0, 0, ⟨#[]⟩⟩, nm, 0⟩ : Nd)) rfl
            cases hv'
            exact hq
          have hSZ : ((w2.alloc (.cells #[.int .i64 1, .int .i64 0, .int .i64 0, .string ⟨#[]⟩, .string nm, .int .i64 0] 26)).alloc (.cells #[.string ⟨#[97]⟩, .string ⟨#[98]⟩, .string ⟨#[118]⟩, .string ⟨#[100, 97, 121]⟩] 9)).heap.size = w2.heap.size + 1 + 1 := by simp
          rw [hSZ] at hnew
          have HNEW := Lib.hid hnew
          clear hbl5 hnew
          go_wp2_with (at_builtin; refine wpList_app rfl (.tmp 85) (.tmp 87) rfl rfl rfl hown5 (Nat.le_trans hsz (Nat.le_trans hs5 (by simp only [World.size_alloc]; omega))) HNEW.out (fun h => by cases h) (by omega) (by omega) ?_)
          intro v7 w7 ho7 hg7
          have hB7 : Hid (Below w.heap.size w w7) := (HB5.out.alloc HB5.out.size _).grown hg7 (Nat.le_trans HB5.out.size (by simp only [World.size_alloc]; omega)) (fun j hj => (hown5.lt j hj).1)
          have hel7 : (es ++ [(⟨1, ⟨0, 0, ⟨#[]⟩⟩, nm, 0⟩ : Nd)]).length = k + 1 := by rw [List.length_append, hel]; rfl
          have HO7 : Hid (w7.ownsRow w.heap.size 26 6 v7 (es ++ [(⟨1, ⟨0, 0, ⟨#[]⟩⟩, nm, 0⟩ : Nd)]).length (nodesL (es ++ [(⟨1, ⟨0, 0, ⟨#[]⟩⟩, nm, 0⟩ : Nd)]))) := by
            show World.ownsRow _ _ _ _ _ _ _
            rw [hel7]
            exact ho7
          have HNM7 : Hid (∀ t ∈ es ++ [(⟨1, ⟨0, 0, ⟨#[]⟩⟩, nm, 0⟩ : Nd)], t.nm.size ≤ 10) := by
            intro t ht
            rcases List.mem_append.1 ht with h | h
            · exact HNM.out t h
            · rw [List.mem_singleton] at h
              subst h
              exact HNZ.out
          clear hg7 ho7 hown5
          go_wp2_with fail
          go_roundw
          case rel => exact ⟨k + 1, _, by omega, by go_num, hel7, HNM7, HO7.out, hB7⟩
          case measure => simp [intOf]; omega
        have bo1 : (((r24 : Int) - 1) == 1) = false := by simp only [beq_eq_false_iff_ne]; omega
        by_cases o20 : r24 = 21
        · subst o20
          obtain ⟨c2, hc2⟩ : ∃ c2, q24 % 2 = c2 := ⟨_, rfl⟩
          have tc2 : (q24 : Int).tmod 2 = (c2 : Int) := by rw [Int.tmod_eq_emod_of_nonneg (by omega)]; omega
          have mc2 : (q24 : Int) % 2 = (c2 : Int) := by omega
          have hlc2 : c2 < 2 := by omega
          have hic2 : (c2 : Int) < 2 := by omega
          obtain ⟨nm, hp, hnm⟩ : ∃ x, [Value.string ⟨#[122]⟩, .string ⟨#[109, 46, 122]⟩][c2]? = some (.string x) ∧ (x = ⟨#[122]⟩ ∨ x = ⟨#[109, 46, 122]⟩) := by
            have : c2 = 0 ∨ c2 = 1 := by omega
            rcases this with rfl | rfl
            · exact ⟨_, rfl, Or.inl rfl⟩
            · exact ⟨_, rfl, Or.inr (rfl)⟩
          obtain ⟨hq5, hp5⟩ := List.getElem?_eq_some_iff.1 hp
          have HNZ : Hid (nm.size ≤ 10) := by rcases hnm with rfl | rfl <;> (show _ ≤ _; decide)
          clear hnm CY
          have hx30 : Box6 (w2.alloc (.cells #[.int .i64 20, .int .i64 0, .int .i64 0, .string ⟨#[]⟩, .string ⟨#[]⟩, .int .i64 0] 26)) w2.heap.size (⟨20, ⟨0, 0, ⟨#[]⟩⟩, ⟨#[]⟩, 0⟩ : Nd) := ⟨heap_alloc_new w2 _⟩
          have hx3 : Box6 ((w2.alloc (.cells #[.int .i64 20, .int .i64 0, .int .i64 0, .string ⟨#[]⟩, .string ⟨#[]⟩, .int .i64 0] 26)).alloc (.cells #[.string ⟨#[122]⟩, .string ⟨#[109, 46, 122]⟩] 9)) w2.heap.size (⟨20, ⟨0, 0, ⟨#[]⟩⟩, ⟨#[]⟩, 0⟩ : Nd) := hx30.alloc _
          clear hx30
          obtain ⟨e0, e1, e2, e3, e4, e5⟩ := hx3.cells
          have ef := hx3.free
          clear hx3
          have hbl5 : Below w2.heap.size w2 ((w2.alloc (.cells #[.int .i64 20, .int .i64 0, .int .i64 0, .string ⟨#[]⟩, .string nm, .int .i64 0] 26)).alloc (.cells #[.string ⟨#[122]⟩, .string ⟨#[109, 46, 122]⟩] 9)) := ((Below.refl _ _).alloc (Nat.le_refl _) _).alloc (by simp) _
          have hB25 : Below wr.heap.size wr ((w2.alloc (.cells #[.int .i64 20, .int .i64 0, .int .i64 0, .string ⟨#[]⟩, .string nm, .int .i64 0] 26)).alloc (.cells #[.string ⟨#[122]⟩, .string ⟨#[109, 46, 122]⟩] 9)) := HB2.out.trans (hbl5.mono HB2.out.size)
          have hs5 := hB25.size
          have hown5 := (own_below HOWN.out hB25).alloc (.cells #[.int .i64 20, .int .i64 0, .int .i64 0, .string ⟨#[]⟩, .string nm, .int .i64 0] 26)
          have HB5 := Lib.hid (HB.out.trans (hB25.mono hsz))
          have hnew : IsNodes (((w2.alloc (.cells #[.int .i64 20, .int .i64 0, .int .i64 0, .string ⟨#[]⟩, .string nm, .int .i64 0] 26)).alloc (.cells #[.string ⟨#[122]⟩, .string ⟨#[109, 46, 122]⟩] 9)).alloc (.cells #[.int .i64 20, .int .i64 0, .int .i64 0, .string ⟨#[]⟩, .string nm, .int .i64 0] 26)) (some ⟨((w2.alloc (.cells #[.int .i64 20, .int .i64 0, .int .i64 0, .string ⟨#[]⟩, .string nm, .int .i64 0] 26)).alloc (.cells #[.string ⟨#[122]⟩, .string ⟨#[109, 46, 122]⟩] 9)).heap.size, 0, none⟩) 1 [(⟨20, ⟨0, 0, ⟨#[]⟩⟩, nm, 0⟩ : Nd)] := by
            obtain ⟨a', c', hv', hq, _, _, _, _⟩ := own_nodes (mdp_one ((w2.alloc (.cells #[.int .i64 20, .int .i64 0, .int .i64 0, .string ⟨#[]⟩, .string nm, .int .i64 0] 26)).alloc (.cells #[.string ⟨#[122]⟩, .string ⟨#[109, 46, 122]⟩] 9)) ((w2.alloc (.cells #[.int .i64 20, .int .i64 0, .int .i64 0, .string ⟨#[]⟩, .string nm, .int .i64 0] 26)).alloc (.cells #[.string ⟨#[122]⟩, .string ⟨#[109, 46, 122]⟩] 9)).heap.size (Nat.le_refl _) (⟨20, ⟨0, 0, ⟨#[]⟩⟩, nm, 0⟩ : Nd)) rfl
            cases hv'
            exact hq
          have hSZ : ((w2.alloc (.cells #[.int .i64 20, .int .i64 0, .int .i64 0, .string ⟨#[]⟩, .string nm, .int .i64 0] 26)).alloc (.cells #[.string ⟨#[122]⟩, .string ⟨#[109, 46, 122]⟩] 9)).heap.size = w2.heap.size + 1 + 1 := by simp
          rw [hSZ] at hnew
          have HNEW := Lib.hid hnew
          clear hbl5 hnew
          go_wp2_with (at_builtin; refine wpList_app rfl (.tmp 85) (.tmp 87) rfl rfl rfl hown5 (Nat.le_trans hsz (Nat.le_trans hs5 (by simp only [World.size_alloc]; omega))) HNEW.out (fun h => by cases h) (by omega) (by omega) ?_)
          intro v7 w7 ho7 hg7
          have hB7 : Hid (Below w.heap.size w w7) := (HB5.out.alloc HB5.out.size _).grown hg7 (Nat.le_trans HB5.out.size (by simp only [World.size_alloc]; omega)) (fun j hj => (hown5.lt j hj).1)
          have hel7 : (es ++ [(⟨20, ⟨0, 0, ⟨#[]⟩⟩, nm, 0⟩ : Nd)]).length = k + 1 := by rw [List.length_append, hel]; rfl
          have HO7 : Hid (w7.ownsRow w.heap.size 26 6 v7 (es ++ [(⟨20, ⟨0, 0, ⟨#[]⟩⟩, nm, 0⟩ : Nd)]).length (nodesL (es ++ [(⟨20, ⟨0, 0, ⟨#[]⟩⟩, nm, 0⟩ : Nd)]))) := by
            show World.ownsRow _ _ _ _ _ _ _
            rw [hel7]
            exact ho7
          have HNM7 : Hid (∀ t ∈ es ++ [(⟨20, ⟨0, 0, ⟨#[]⟩⟩, nm, 0⟩ : Nd)], t.nm.size ≤ 10) := by
            intro t ht
            rcases List.mem_append.1 ht with h | h
            · exact HNM.out t h
            · rw [List.mem_singleton] at h
              subst h
              exact HNZ.out
          clear hg7 ho7 hown5
          go_wp2_with fail
          go_roundw
          case rel => exact ⟨k + 1, _, by omega, by go_num, hel7, HNM7, HO7.out, hB7⟩
          case measure => simp [intOf]; omega
        have bo20 : (((r24 : Int) - 1) == 20) = false := by simp only [beq_eq_false_iff_ne]; omega
        by_cases o21 : r24 = 22
        · subst o21
          obtain ⟨c3, hc3⟩ : ∃ c3, q24 % 3 = c3 := ⟨_, rfl⟩
          have tc3 : (q24 : Int).tmod 3 = (c3 : Int) := by rw [Int.tmod_eq_emod_of_nonneg (by omega)]; omega
          have mc3 : (q24 : Int) % 3 = (c3 : Int) := by omega
          have hlc3 : c3 < 3 := by omega
          have hic3 : (c3 : Int) < 3 := by omega
          obtain ⟨nm, hp, hnm⟩ : ∃ x, [Value.string ⟨#[102]⟩, .string ⟨#[109, 46, 103]⟩, .string ⟨#[105, 102]⟩][c3]? = some (.string x) ∧ (x = ⟨#[102]⟩ ∨ x = ⟨#[109, 46, 103]⟩ ∨ x = ⟨#[105, 102]⟩) := by
            have : c3 = 0 ∨ c3 = 1 ∨ c3 = 2 := by omega
            rcases this with rfl | rfl | rfl
            · exact ⟨_, rfl, Or.inl rfl⟩
            · exact ⟨_, rfl, Or.inr (Or.inl rfl)⟩
            · exact ⟨_, rfl, Or.inr (Or.inr (rfl))⟩
          obtain ⟨hq5, hp5⟩ := List.getElem?_eq_some_iff.1 hp
          have HNZ : Hid (nm.size ≤ 10) := by rcases hnm with rfl | rfl | rfl <;> (show _ ≤ _; decide)
          clear hnm CY
          have hx30 : Box6 (w2.alloc (.cells #[.int .i64 21, .int .i64 0, .int .i64 0, .string ⟨#[]⟩, .string ⟨#[]⟩, .int .i64 0] 26)) w2.heap.size (⟨21, ⟨0, 0, ⟨#[]⟩⟩, ⟨#[]⟩, 0⟩ : Nd) := ⟨heap_alloc_new w2 _⟩
          have hx3 : Box6 ((w2.alloc (.cells #[.int .i64 21, .int .i64 0, .int .i64 0, .string ⟨#[]⟩, .string ⟨#[]⟩, .int .i64 0] 26)).alloc (.cells #[.string ⟨#[102]⟩, .string ⟨#[109, 46, 103]⟩, .string ⟨#[105, 102]⟩] 9)) w2.heap.size (⟨21, ⟨0, 0, ⟨#[]⟩⟩, ⟨#[]⟩, 0⟩ : Nd) := hx30.alloc _
          clear hx30
          obtain ⟨e0, e1, e2, e3, e4, e5⟩ := hx3.cells
          have ef := hx3.free
          clear hx3
          have hbl5 : Below w2.heap.size w2 ((w2.alloc (.cells #[.int .i64 21, .int .i64 0, .int .i64 0, .string ⟨#[]⟩, .string nm, .int .i64 (a4 : Int)] 26)).alloc (.cells #[.string ⟨#[102]⟩, .string ⟨#[109, 46, 103]⟩, .string ⟨#[105, 102]⟩] 9)) := ((Below.refl _ _).alloc (Nat.le_refl _) _).alloc (by simp) _
          have hB25 : Below wr.heap.size wr ((w2.alloc (.cells #[.int .i64 21, .int .i64 0, .int .i64 0, .string ⟨#[]⟩, .string nm, .int .i64 (a4 : Int)] 26)).alloc (.cells #[.string ⟨#[102]⟩, .string ⟨#[109, 46, 103]⟩, .string ⟨#[105, 102]⟩] 9)) := HB2.out.trans (hbl5.mono HB2.out.size)
          have hs5 := hB25.size
          have hown5 := (own_below HOWN.out hB25).alloc (.cells #[.int .i64 21, .int .i64 0, .int .i64 0, .string ⟨#[]⟩, .string nm, .int .i64 (a4 : Int)] 26)
          have HB5 := Lib.hid (HB.out.trans (hB25.mono hsz))
          have hnew : IsNodes (((w2.alloc (.cells #[.int .i64 21, .int .i64 0, .int .i64 0, .string ⟨#[]⟩, .string nm, .int .i64 (a4 : Int)] 26)).alloc (.cells #[.string ⟨#[102]⟩, .string ⟨#[109, 46, 103]⟩, .string ⟨#[105, 102]⟩] 9)).alloc (.cells #[.int .i64 21, .int .i64 0, .int .i64 0, .string ⟨#[]⟩, .string nm, .int .i64 (a4 : Int)] 26)) (some ⟨((w2.alloc (.cells #[.int .i64 21, .int .i64 0, .int .i64 0, .string ⟨#[]⟩, .string nm, .int .i64 (a4 : Int)] 26)).alloc (.cells #[.string ⟨#[102]⟩, .string ⟨#[109, 46, 103]⟩, .string ⟨#[105, 102]⟩] 9)).heap.size, 0, none⟩) 1 [(⟨21, ⟨0, 0, ⟨#[]⟩⟩, nm, (a4 : Int)⟩ : Nd)] := by
            obtain ⟨a', c', hv', hq, _, _, _, _⟩ := own_nodes (mdp_one ((w2.alloc (.cells #[.int .i64 21, .int .i64 0, .int .i64 0, .string ⟨#[]⟩, .string nm, .int .i64 (a4 : Int)] 26)).alloc (.cells #[.string ⟨#[102]⟩, .string ⟨#[109, 46, 103]⟩, .string ⟨#[105, 102]⟩] 9)) ((w2.alloc (.cells #[.int .i64 21, .int .i64 0, .int .i64 0, .string ⟨#[]⟩, .string nm, .int .i64 (a4 : Int)] 26)).alloc (.cells #[.string ⟨#[102]⟩, .string ⟨#[109, 46, 103]⟩, .string ⟨#[105, 102]⟩] 9)).heap.size (Nat.le_refl _) (⟨21, ⟨0, 0, ⟨#[]⟩⟩, nm, (a4 : Int)⟩ : Nd)) rfl
            cases hv'
            exact hq
          have hSZ : ((w2.alloc (.cells #[.int .i64 21, .int .i64 0, .int .i64 0, .string ⟨#[]⟩, .string nm, .int .i64 (a4 : Int)] 26)).alloc (.cells #[.string ⟨#[102]⟩, .string ⟨#[109, 46, 103]⟩, .string ⟨#[105, 102]⟩] 9)).heap.size = w2.heap.size + 1 + 1 := by simp
          rw [hSZ] at hnew
          have HNEW := Lib.hid hnew
          clear hbl5 hnew
          go_wp2_with (at_builtin; refine wpList_app rfl (.tmp 85) (.tmp 87) rfl rfl rfl hown5 (Nat.le_trans hsz (Nat.le_trans hs5 (by simp only [World.size_alloc]; omega))) HNEW.out (fun h => by cases h) (by omega) (by omega) ?_)
          intro v7 w7 ho7 hg7
          have hB7 : Hid (Below w.heap.size w w7) := (HB5.out.alloc HB5.out.size _).grown hg7 (Nat.le_trans HB5.out.size (by simp only [World.size_alloc]; omega)) (fun j hj => (hown5.lt j hj).1)
          have hel7 : (es ++ [(⟨21, ⟨0, 0, ⟨#[]⟩⟩, nm, (a4 : Int)⟩ : Nd)]).length = k + 1 := by rw [List.length_append, hel]; rfl
          have HO7 : Hid (w7.ownsRow w.heap.size 26 6 v7 (es ++ [(⟨21, ⟨0, 0, ⟨#[]⟩⟩, nm, (a4 : Int)⟩ : Nd)]).length (nodesL (es ++ [(⟨21, ⟨0, 0, ⟨#[]⟩⟩, nm, (a4 : Int)⟩ : Nd)]))) := by
            show World.ownsRow _ _ _ _ _ _ _
            rw [hel7]
            exact ho7
          have HNM7 : Hid (∀ t ∈ es ++ [(⟨21, ⟨0, 0, ⟨#[]⟩⟩, nm, (a4 : Int)⟩ : Nd)], t.nm.size ≤ 10) := by
            intro t ht
            rcases List.mem_append.1 ht with h | h
            · exact HNM.out t h
            · rw [List.mem_singleton] at h
              subst h
              exact HNZ.out
          clear hg7 ho7 hown5
          go_wp2_with fail
          go_roundw
          case rel => exact ⟨k + 1, _, by omega, by go_num, hel7, HNM7, HO7.out, hB7⟩
          case measure => simp [intOf]; omega
        have bo21 : (((r24 : Int) - 1) == 21) = false := by simp only [beq_eq_false_iff_ne]; omega
        have HNZ : Hid ((⟨#[]⟩ : ByteArray).size ≤ 10) := by (show _ ≤ _; decide)
        clear CY
        have hbl5 : Below w2.heap.size w2 (w2.alloc (.cells #[.int .i64 ((r24 : Int) - 1), .int .i64 0, .int .i64 0, .string ⟨#[]⟩, .string ⟨#[]⟩, .int .i64 0] 26)) := (Below.refl _ _).alloc (Nat.le_refl _) _
        have hB25 : Below wr.heap.size wr (w2.alloc (.cells #[.int .i64 ((r24 : Int) - 1), .int .i64 0, .int .i64 0, .string ⟨#[]⟩, .string ⟨#[]⟩, .int .i64 0] 26)) := HB2.out.trans (hbl5.mono HB2.out.size)
        have hs5 := hB25.size
        have hown5 := (own_below HOWN.out hB25).alloc (.cells #[.int .i64 ((r24 : Int) - 1), .int .i64 0, .int .i64 0, .string ⟨#[]⟩, .string ⟨#[]⟩, .int .i64 0] 26)
        have HB5 := Lib.hid (HB.out.trans (hB25.mono hsz))
        have hnew : IsNodes ((w2.alloc (.cells #[.int .i64 ((r24 : Int) - 1), .int .i64 0, .int .i64 0, .string ⟨#[]⟩, .string ⟨#[]⟩, .int .i64 0] 26)).alloc (.cells #[.int .i64 ((r24 : Int) - 1), .int .i64 0, .int .i64 0, .string ⟨#[]⟩, .string ⟨#[]⟩, .int .i64 0] 26)) (some ⟨(w2.alloc (.cells #[.int .i64 ((r24 : Int) - 1), .int .i64 0, .int .i64 0, .string ⟨#[]⟩, .string ⟨#[]⟩, .int .i64 0] 26)).heap.size, 0, none⟩) 1 [(⟨((r24 : Int) - 1), ⟨0, 0, ⟨#[]⟩⟩, ⟨#[]⟩, 0⟩ : Nd)] := by
          obtain ⟨a', c', hv', hq, _, _, _, _⟩ := own_nodes (mdp_one (w2.alloc (.cells #[.int .i64 ((r24 : Int) - 1), .int .i64 0, .int .i64 0, .string ⟨#[]⟩, .string ⟨#[]⟩, .int .i64 0] 26)) (w2.alloc (.cells #[.int .i64 ((r24 : Int) - 1), .int .i64 0, .int .i64 0, .string ⟨#[]⟩, .string ⟨#[]⟩, .int .i64 0] 26)).heap.size (Nat.le_refl _) (⟨((r24 : Int) - 1), ⟨0, 0, ⟨#[]⟩⟩, ⟨#[]⟩, 0⟩ : Nd)) rfl
          cases hv'
          exact hq
        have hSZ : (w2.alloc (.cells #[.int .i64 ((r24 : Int) - 1), .int .i64 0, .int .i64 0, .string ⟨#[]⟩, .string ⟨#[]⟩, .int .i64 0] 26)).heap.size = w2.heap.size + 1 := by simp
        rw [hSZ] at hnew
        have HNEW := Lib.hid hnew
        clear hbl5 hnew
        go_wp2_with (at_builtin; refine wpList_app rfl (.tmp 85) (.tmp 87) rfl rfl rfl hown5 (Nat.le_trans hsz (Nat.le_trans hs5 (by simp only [World.size_alloc]; omega))) HNEW.out (fun h => by cases h) (by omega) (by omega) ?_)
        intro v7 w7 ho7 hg7
        have hB7 : Hid (Below w.heap.size w w7) := (HB5.out.alloc HB5.out.size _).grown hg7 (Nat.le_trans HB5.out.size (by simp only [World.size_alloc]; omega)) (fun j hj => (hown5.lt j hj).1)
        have hel7 : (es ++ [(⟨((r24 : Int) - 1), ⟨0, 0, ⟨#[]⟩⟩, ⟨#[]⟩, 0⟩ : Nd)]).length = k + 1 := by rw [List.length_append, hel]; rfl
        have HO7 : Hid (w7.ownsRow w.heap.size 26 6 v7 (es ++ [(⟨((r24 : Int) - 1), ⟨0, 0, ⟨#[]⟩⟩, ⟨#[]⟩, 0⟩ : Nd)]).length (nodesL (es ++ [(⟨((r24 : Int) - 1), ⟨0, 0, ⟨#[]⟩⟩, ⟨#[]⟩, 0⟩ : Nd)]))) := by
          show World.ownsRow _ _ _ _ _ _ _
          rw [hel7]
          exact ho7
        have HNM7 : Hid (∀ t ∈ es ++ [(⟨((r24 : Int) - 1), ⟨0, 0, ⟨#[]⟩⟩, ⟨#[]⟩, 0⟩ : Nd)], t.nm.size ≤ 10) := by
          intro t ht
          rcases List.mem_append.1 ht with h | h
          · exact HNM.out t h
          · rw [List.mem_singleton] at h
            subst h
            exact HNZ.out
        clear hg7 ho7 hown5
        go_wp2_with fail
        go_roundw
        case rel => exact ⟨k + 1, _, by omega, by go_num, hel7, HNM7, HO7.out, hB7⟩
        case measure => simp [intOf]; omega
    · obtain rfl : k = N := by omega
      have hki : ¬ (k : Int) < (k : Int) := by omega
      have H := Lib.hid (And.intro hown HB.out)
      clear hown
      go_wp2_with fail
      go_ret
      exact ⟨es, hel, HNM.out, _, rfl, H.out.1, H.out.2⟩
end Go.Proofs.YtmdpjahhhfajaaaDoor
