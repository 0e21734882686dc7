/-
  The rows that the laws draw for columns: warehousebase.Cell, Row.
-/
import Derived.Test.YtdlkkajkflebgaaSCols
import Derived.Test.YtdlkkajkflebgaaGAny
import Derived.Deep.RegionHeld3
set_option linter.unusedVariables false
namespace Go.Proofs.Ytdlkkajkflebgaa
open Go.RowKit Wh

/-- The value that a number stands for in a column. -/
def cellV (c : C) (n : Int) : V := if c.nu = true ∧ n % 4 = 0 then vNull else valueV c.k (n / 4)
/-- The row that a list of numbers stands for. -/
def rowD (cs : List C) (zs : List Int) (at_ : Int) : List V := (List.range cs.length).map fun (i : Nat) => cellV (cs.getD i cNull) (atZ zs (at_ + (i : Int)))

theorem rowD_length (cs : List C) (zs : List Int) (at_ : Int) : (rowD cs zs at_).length = cs.length := by simp [rowD]
theorem rowD_at {cs : List C} {zs : List Int} {at_ : Int} {k : Nat} {c : C} (h : cs[k]? = some c) : ((rowD cs zs at_).map cV)[k]? = some (cV (cellV c (atZ zs (at_ + (k : Int))))) := by
  have hk := (List.getElem?_eq_some_iff.1 h).1
  unfold rowD
  rw [List.getElem?_map, List.getElem?_map, List.getElem?_range hk]
  simp [List.getD, h]

theorem cell_any (nm : ByteArray) (kd : Int) (nu : Bool) (n : Int) (h0 : 0 ≤ n) (h1 : n ≤ 1000000) (w : World) :
    Calls Try.prog 42 #[colV nm kd nu, .int .i64 n] w fun e w' => e = .returned (agg (cellV ⟨nm, kd, nu⟩ n).k (cellV ⟨nm, kd, nu⟩ n).n (cellV ⟨nm, kd, nu⟩ n).s) ∧ Below w.heap.size w w' := by
  have B2 : ∀ o1 o2, Below w.heap.size w ((w.alloc o1).alloc o2) := fun o1 o2 => ((Below.refl _ _).alloc (Nat.le_refl _) o1).alloc (by simp) o2
  by_cases hc : nu = true ∧ n % 4 = 0
  · have hv : cellV ⟨nm, kd, nu⟩ n = vNull := by unfold cellV; rw [if_pos hc]
    rw [hv]
    obtain ⟨rfl, hm⟩ := hc
    have hmb : (n % 4 == 0) = true := by rw [hm]; rfl
    clear hv hm
    go_enter Try.func42, Try.ntmps42
    go_wp2_with fail
    exact bodyPost_ret (v := agg 0 0 ⟨#[]⟩) (by simp [results, Try.results42, go_sem]) rfl ⟨rfl, B2 _ _⟩
  · have hv : cellV ⟨nm, kd, nu⟩ n = valueV kd (n / 4) := by unfold cellV; rw [if_neg hc]
    rw [hv]
    have cv := fun W => value_any kd (n / 4) W
    generalize valueV kd (n / 4) = v at *
    have CV := Lib.hid cv
    clear hv cv
    have fin : ∀ w1, Below (w.heap.size + 1 + 1) ((w.alloc (.cells #[.string nm, .int .i64 kd, .bool nu] 55)).alloc (.cells #[.int .i64 0, .int .i64 0, .string ⟨#[]⟩] 40)) w1 → w.heap.size + 1 < w1.heap.size ∧
        w1.cell? ⟨w.heap.size + 1, 0, none⟩ = some (.int .i64 0) ∧ w1.cell? ⟨w.heap.size + 1, 1, none⟩ = some (.int .i64 0) ∧ w1.cell? ⟨w.heap.size + 1, 2, none⟩ = some (.string ⟨#[]⟩) ∧
        w1.frozen? ⟨w.heap.size + 1, 0, none⟩ = false ∧ w1.frozen? ⟨w.heap.size + 1, 1, none⟩ = false ∧ w1.frozen? ⟨w.heap.size + 1, 2, none⟩ = false ∧ Below w.heap.size w w1 := fun w1 hb => by
      have hs := hb.size
      simp at hs
      have hbl : w1.heap[w.heap.size + 1]? = some (.cells #[.int .i64 0, .int .i64 0, .string ⟨#[]⟩] 40) := by
        rw [hb.block _ (by omega)]
        have := heap_alloc_new (w.alloc (.cells #[.string nm, .int .i64 kd, .bool nu] 55)) (.cells #[.int .i64 0, .int .i64 0, .string ⟨#[]⟩] 40)
        rwa [World.size_alloc] at this
      have bx : Box3 w1 (w.heap.size + 1) (.int .i64 0) (.int .i64 0) (.string ⟨#[]⟩) 40 := ⟨hbl⟩
      exact ⟨by omega, bx.c0, bx.c1, bx.c2, bx.free 0, bx.free 1, bx.free 2, (B2 _ _).trans (hb.mono (by omega))⟩
    have FIN := Lib.hid fin
    clear fin B2
    have cn : nu = false ∨ (nu = true ∧ (n % 4 == 0) = false) := by
      cases nu with
      | false => exact .inl rfl
      | true => exact .inr ⟨rfl, by simpa using fun h => hc ⟨rfl, h⟩⟩
    clear hc
    rcases cn with rfl | ⟨rfl, hmb⟩
    all_goals
      go_enter Try.func42, Try.ntmps42
      go_wp2_with (go_at_call 43; refine (CV.out _).mono ?_; rintro e w1 ⟨rfl, hb⟩; simp only [World.size_alloc] at hb; obtain ⟨hs, x0, x1, x2, f0, f1, f2, hB⟩ := FIN.out _ hb)
      exact bodyPost_ret (v := agg v.k v.n v.s) (by simp [results, Try.results42, go_sem, x0, x1, x2]) rfl ⟨rfl, ((hB.setCell (by show w.heap.size ≤ w.heap.size + 1; omega) _).setCell (by show w.heap.size ≤ w.heap.size + 1; omega) _).setCell (by show w.heap.size ≤ w.heap.size + 1; omega) _⟩

theorem keepRowC {w W w' : World} {T : TypeId} {b1 o1 g y cap k : Nat} {l : List T3} {v0 v1 v2 z0 z1 z2 : Value}
    (h : W.cell? ⟨b1, o1, none⟩ = some v0 ∧ W.cell? ⟨b1, o1 + 1, none⟩ = some v1 ∧ W.cell? ⟨b1, o1 + 2, none⟩ = some v2 ∧
      W.cell? ⟨g, k * 3, none⟩ = some z0 ∧ W.cell? ⟨g, k * 3 + 1, none⟩ = some z1 ∧ W.cell? ⟨g, k * 3 + 2, none⟩ = some z2 ∧
      W.frozen? ⟨g, k * 3, none⟩ = false ∧ W.frozen? ⟨g, k * 3 + 1, none⟩ = false ∧ W.frozen? ⟨g, k * 3 + 2, none⟩ = false ∧
      W.ownsRow w.heap.size T 3 (.slice (some ⟨g, 0, none⟩) y cap) y (flat3 l) ∧ b1 < W.heap.size ∧ g < W.heap.size ∧ w.heap.size ≤ W.heap.size ∧ Below w.heap.size w W)
    (hb : Below W.heap.size W w') :
    w'.cell? ⟨b1, o1, none⟩ = some v0 ∧ w'.cell? ⟨b1, o1 + 1, none⟩ = some v1 ∧ w'.cell? ⟨b1, o1 + 2, none⟩ = some v2 ∧
      w'.cell? ⟨g, k * 3, none⟩ = some z0 ∧ w'.cell? ⟨g, k * 3 + 1, none⟩ = some z1 ∧ w'.cell? ⟨g, k * 3 + 2, none⟩ = some z2 ∧
      w'.frozen? ⟨g, k * 3, none⟩ = false ∧ w'.frozen? ⟨g, k * 3 + 1, none⟩ = false ∧ w'.frozen? ⟨g, k * 3 + 2, none⟩ = false ∧
      w'.ownsRow w.heap.size T 3 (.slice (some ⟨g, 0, none⟩) y cap) y (flat3 l) ∧ b1 < w'.heap.size ∧ g < w'.heap.size ∧ w.heap.size ≤ w'.heap.size ∧ Below w.heap.size w w' := by
  obtain ⟨h0, h1, h2, h3, h4, h5, h6, h7, h8, h9, h10, h11, h12, h13⟩ := h
  obtain ⟨hc, hf⟩ := bcell hb
  have hs := hb.size
  refine ⟨?_, ?_, ?_, ?_, ?_, ?_, ?_, ?_, ?_, own_below h9 hb, by omega, by omega, by omega, h13.trans (hb.mono h12)⟩
  · rw [hc _ _ h10]; exact h0
  · rw [hc _ _ h10]; exact h1
  · rw [hc _ _ h10]; exact h2
  · rw [hc _ _ h11]; exact h3
  · rw [hc _ _ h11]; exact h4
  · rw [hc _ _ h11]; exact h5
  · rw [hf _ _ h11]; exact h6
  · rw [hf _ _ h11]; exact h7
  · rw [hf _ _ h11]; exact h8

set_option maxHeartbeats 2000000 in
theorem drawRow_any (a1 : Option Addr) (len1 cap1 : Nat) (cs : List C) (a2 : Option Addr) (len2 cap2 : Nat) (zs : List Int) (at_ : Int) (w : World) (h1 : IsCols w a1 len1 cs) (h2 : IsInts w a2 len2 zs)
    (q1 : len1 ≤ 1000000) (q2 : len2 ≤ 9223372036854775807) (t0 : 0 ≤ at_) (t1 : at_ ≤ 1000000) :
    Calls Try.prog 21 #[.slice a1 len1 cap1, .slice a2 len2 cap2, .int .i64 at_] w (ValsPost w (rowD cs zs at_)) := by
  have hl1 := h1.1
  have hlm : ((rowD cs zs at_).map cV).length = len1 := by rw [List.length_map, rowD_length, hl1]
  have hat := fun (k : Nat) (c : C) (h : cs[k]? = some c) => rowD_at (zs := zs) (at_ := at_) h
  unfold ValsPost
  rw [rowD_length, hl1]
  generalize (rowD cs zs at_).map cV = out at *
  have HAT := Lib.hid hat
  have HLM := Lib.hid hlm
  have H1 := Lib.hid h1
  have H2 := Lib.hid h2
  clear h1 h2 hat hlm hl1
  obtain ⟨i0, hi, hz0, hz1, hz2⟩ := info_parts info_val
  go_enter Try.func21, Try.ntmps21
  go_wp2_with (refine wpList_make_full _ rfl (.tmp 10) (.tmp 10) 37 rfl w.heap.size 40 i0 _ 3 Try.underlying37 hi hz0 hz1 .i64 .i64 _ _ len1 rfl rfl rfl rfl ?c1 ?c2 (Nat.le_refl _) ?_)
  case c1 => rw [hz2]; omega
  case c2 => simp [maxLen]; omega
  intro w0 own0 hg0
  have B0 : Below w.heap.size w w0 := (Below.refl _ _).grown hg0 (Nat.le_refl _) (fun j hj => by cases hj)
  have own1 : w0.ownsRow w.heap.size 40 3 (.slice (some ⟨w.heap.size, 0, none⟩) len1 len1) len1 (flat3 (half out (cV vNull) 0)) := by
    rw [half_zero, HLM.out, show cV vNull = (.int .i64 0, .int .i64 0, .string ⟨#[]⟩) from rfl, ← flat3_made]
    exact own0
  have HO1 := Lib.hid own1
  clear own0 hg0 own1
  go_wp2_with fail
  go_loopw [8] (fun iv wr => ∃ k : Nat, k ≤ len1 ∧ iv = .int .i64 k ∧ wr.ownsRow w.heap.size 40 3 (.slice (some ⟨w.heap.size, 0, none⟩) len1 len1) len1 (flat3 (half out (cV vNull) k)) ∧ Below w.heap.size w wr)
    (fun i _ => len1 - (intOf i).toNat)
  case atStart => exact ⟨0, Nat.zero_le _, rfl, HO1.out, B0⟩
  case round =>
    obtain ⟨k, hk, rfl, hown, hbel⟩ := hrel
    have hsz := hbel.size
    have HO := Lib.hid hown
    clear hown HO1 B0
    by_cases hlt : k < len1
    · obtain ⟨nm, kd, nu, b1, off1, hx, rfl, hbl1, c0, c1, c2⟩ := (H1.out.below hbel (Nat.le_refl _)).at hlt
      have hA := HAT.out k _ hx
      have hab := atZ_bounds zs (at_ + (k : Int))
      have ca := fun W (hW : Below w.heap.size w W) => at_any a2 len2 cap2 zs (at_ + (k : Int)) W (H2.out.below hW (Nat.le_refl _)) q2
      generalize atZ zs (at_ + (k : Int)) = x at *
      have cc := fun W => cell_any nm kd nu x (by omega) (by omega) W
      generalize cellV ⟨nm, kd, nu⟩ x = v at *
      have CA := Lib.hid ca
      have CC := Lib.hid cc
      have hg : w.heap.size < wr.heap.size := (HO.out.lt w.heap.size rfl).2
      have hS0 : wr.drew.cell? ⟨b1, off1 + k * 3, none⟩ = some (.string nm) ∧ wr.drew.cell? ⟨b1, off1 + k * 3 + 1, none⟩ = some (.int .i64 kd) ∧ wr.drew.cell? ⟨b1, off1 + k * 3 + 2, none⟩ = some (.bool nu) ∧
          wr.drew.cell? ⟨w.heap.size, k * 3, none⟩ = some (.int .i64 0) ∧ wr.drew.cell? ⟨w.heap.size, k * 3 + 1, none⟩ = some (.int .i64 0) ∧ wr.drew.cell? ⟨w.heap.size, k * 3 + 2, none⟩ = some (.string ⟨#[]⟩) ∧
          wr.drew.frozen? ⟨w.heap.size, k * 3, none⟩ = false ∧ wr.drew.frozen? ⟨w.heap.size, k * 3 + 1, none⟩ = false ∧ wr.drew.frozen? ⟨w.heap.size, k * 3 + 2, none⟩ = false ∧
          wr.drew.ownsRow w.heap.size 40 3 (.slice (some ⟨w.heap.size, 0, none⟩) len1 len1) len1 (flat3 (half out (cV vNull) k)) ∧ b1 < wr.drew.heap.size ∧ w.heap.size < wr.drew.heap.size ∧ w.heap.size ≤ wr.drew.heap.size ∧ Below w.heap.size w wr.drew := by
        obtain ⟨x0, x1, x2, f0, f1, f2⟩ := own3_at HO.out (half_at (z := cV vNull) (by rw [HLM.out]; exact hlt)) (by rw [half_length (by rw [HLM.out]; omega), HLM.out])
        exact ⟨c0, c1, c2, x0, x1, x2, f0, f1, f2, HO.out.drew, hbl1, hg, hsz, hbel.drew⟩
      have FIN : ∀ W : World, W.ownsRow w.heap.size 40 3 (.slice (some ⟨w.heap.size, 0, none⟩) len1 len1) len1 (flat3 (half out (cV vNull) k)) → Below w.heap.size w W →
          Hid ((((W.setCell ⟨w.heap.size, k * 3, none⟩ (.int .i64 v.k)).setCell ⟨w.heap.size, k * 3 + 1, none⟩ (.int .i64 v.n)).setCell ⟨w.heap.size, k * 3 + 2, none⟩ (.string v.s)).ownsRow w.heap.size 40 3 (.slice (some ⟨w.heap.size, 0, none⟩) len1 len1) len1 (flat3 (half out (cV vNull) (k + 1))) ∧
            Below w.heap.size w (((W.setCell ⟨w.heap.size, k * 3, none⟩ (.int .i64 v.k)).setCell ⟨w.heap.size, k * 3 + 1, none⟩ (.int .i64 v.n)).setCell ⟨w.heap.size, k * 3 + 2, none⟩ (.string v.s))) := fun W hO hB => by
        have hown2 := own3_set hO (k := k) (by rw [half_length (by rw [HLM.out]; omega), HLM.out]; exact hlt) (.int .i64 v.k) (.int .i64 v.n) (.string v.s)
        rw [show ((.int .i64 v.k, .int .i64 v.n, .string v.s) : T3) = cV v from rfl, half_set hA] at hown2
        exact ⟨hown2, ((hB.setCell (p := ⟨w.heap.size, k * 3, none⟩) (Nat.le_refl _) _).setCell (p := ⟨w.heap.size, k * 3 + 1, none⟩) (Nat.le_refl _) _).setCell (p := ⟨w.heap.size, k * 3 + 2, none⟩) (Nat.le_refl _) _⟩
      have HFIN := Lib.hid FIN
      have hw : IntKind.i64.wrap (at_ + (k : Int)) = at_ + (k : Int) := by rw [IntKind.wrap_i64]; omega
      clear hx hA ca cc c0 c1 c2 FIN HO hab
      go_wp2_with fail
      obtain ⟨c0, c1, c2, x0, x1, x2, f0, f1, f2, hO0, hb1', hg', hsz', hbel'⟩ := hS0
      go_region_with (first | (go_at_call 11; refine (CA.out _ hbel.drew).mono ?_; rintro e w1 ⟨rfl, k1⟩; obtain ⟨d0, d1, d2, y0, y1, y2, g0, g1, g2, hO1, _, _, _, hbel1⟩ := keepRowC ⟨c0, c1, c2, x0, x1, x2, f0, f1, f2, hO0, hb1', hg', hsz', hbel'⟩ k1; have hsz1 := k1.size) | (go_at_call 42; refine (CC.out _).mono ?_; rintro e w2 ⟨rfl, k2⟩; obtain ⟨_, _, _, z0, z1, z2, j0, j1, j2, hO2, _, _, _, hbel2⟩ := keepRowC ⟨d0, d1, d2, y0, y1, y2, g0, g1, g2, hO1, by omega, by omega, by omega, hbel1⟩ k2))
      all_goals
        have HF := HFIN.out _ hO2 hbel2
        go_wp2_with fail
        go_roundw
        case rel => exact ⟨k + 1, by omega, by go_num, HF.out.1, HF.out.2⟩
        case measure => simp [intOf]; omega
    · obtain rfl : k = len1 := by omega
      have hown2 := HO.out
      have he := half_end out (cV vNull)
      rw [HLM.out] at he
      rw [he] at hown2
      have HO2 := Lib.hid hown2
      clear hown2 HO he
      go_wp2_with fail
      go_ret
      exact ⟨_, rfl, HO2.out, hbel⟩

end Go.Proofs.Ytdlkkajkflebgaa
