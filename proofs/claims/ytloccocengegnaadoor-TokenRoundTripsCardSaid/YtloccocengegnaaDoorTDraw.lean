/-
  The laws' lists of tokens.
-/
import Derived.Test.YtloccocengegnaaDoorGTok
import Derived.Test.YtloccocengegnaaDoorGAt
import Derived.Test.YtloccocengegnaaDoorNLeaf
set_option linter.unusedVariables false
set_option maxRecDepth 100000
namespace Wh
open Go Go.Proofs.YtloccocengegnaaDoor

def nameX (i : Nat) : ByteArray := [⟨#[97]⟩, ⟨#[102, 114, 111, 109]⟩, ⟨#[109, 46, 98]⟩, ⟨#[97, 95, 49]⟩].getD i ⟨#[]⟩
def textX (i : Nat) : ByteArray := [⟨#[]⟩, ⟨#[105, 116, 39, 115]⟩, ⟨#[35]⟩, ⟨#[10]⟩].getD i ⟨#[]⟩
def symX (i : Nat) : ByteArray := [⟨#[40]⟩, ⟨#[41]⟩, ⟨#[60, 61]⟩, ⟨#[43, 43]⟩, ⟨#[61]⟩, ⟨#[33]⟩, ⟨#[45]⟩].getD i ⟨#[]⟩
/-- The token that is drawn from a number. -/
def tokX (k : Nat) : Tk :=
  if k % 5 = 0 then ⟨1, nameX (k / 8 % 4), 0⟩
  else if k % 5 = 1 then ⟨2, ⟨#[]⟩, ((k / 8 : Nat) : Int)⟩
  else if k % 5 = 2 then ⟨3, textX (k / 8 % 4), 0⟩
  else if k % 5 = 3 then ⟨4, ⟨#[]⟩, ((k * 7000 : Nat) : Int)⟩
  else ⟨5, symX (k / 8 % 7), 0⟩
/-- The tokens that are drawn from a list of numbers, but for the end. -/
def tokM (zs : List Int) (n : Nat) : List TA := (List.range n).map fun (i : Nat) => (tokX (atZ zs (i : Int)).toNat, (((atZ zs (i : Int)).toNat / 64 % 4 : Nat) : Int))
/-- .. and the end. -/
def tokL (zs : List Int) (n : Nat) : List TA := tokM zs n ++ [(noT, 0)]
theorem tokM_length (zs : List Int) (n : Nat) : (tokM zs n).length = n := by unfold tokM; simp
theorem tokL_length (zs : List Int) (n : Nat) : (tokL zs n).length = n + 1 := by unfold tokL; simp [tokM_length]
theorem tokM_next (zs : List Int) (k : Nat) : tokM zs (k + 1) = tokM zs k ++ [(tokX (atZ zs k).toNat, (((atZ zs k).toNat / 64 % 4 : Nat) : Int))] := by
  unfold tokM
  rw [List.range_succ, List.map_append]
  rfl
theorem nameX_size (i : Nat) : (nameX i).size ≤ 4 := by
  unfold nameX
  rcases (show i = 0 ∨ i = 1 ∨ i = 2 ∨ i = 3 ∨ 4 ≤ i by omega) with rfl | rfl | rfl | rfl | h
  · decide
  · decide
  · decide
  · decide
  · rw [List.getD, List.getElem?_eq_none (by simp; omega)]; decide
theorem textX_size (i : Nat) : (textX i).size ≤ 4 := by
  unfold textX
  rcases (show i = 0 ∨ i = 1 ∨ i = 2 ∨ i = 3 ∨ 4 ≤ i by omega) with rfl | rfl | rfl | rfl | h
  · decide
  · decide
  · decide
  · decide
  · rw [List.getD, List.getElem?_eq_none (by simp; omega)]; decide
theorem symX_size (i : Nat) : (symX i).size ≤ 4 := by
  unfold symX
  rcases (show i = 0 ∨ i = 1 ∨ i = 2 ∨ i = 3 ∨ i = 4 ∨ i = 5 ∨ i = 6 ∨ 7 ≤ i by omega) with rfl | rfl | rfl | rfl | rfl | rfl | rfl | h
  · decide
  · decide
  · decide
  · decide
  · decide
  · decide
  · decide
  · rw [List.getD, List.getElem?_eq_none (by simp; omega)]; decide
theorem tokX_size (k : Nat) : (tokX k).tx.size ≤ 4 := by
  unfold tokX
  split
  · exact nameX_size _
  · split
    · exact Nat.zero_le _
    · split
      · exact textX_size _
      · split
        · exact Nat.zero_le _
        · exact symX_size _
theorem tokL_small (zs : List Int) (n : Nat) : ∀ t ∈ tokL zs n, t.1.tx.size ≤ 4 := by
  intro t ht
  unfold tokL tokM at ht
  rcases List.mem_append.1 ht with h | h
  · obtain ⟨i, _, rfl⟩ := List.mem_map.1 h
    exact tokX_size _
  · rcases List.mem_singleton.1 h with rfl
    exact Nat.zero_le _

end Wh
namespace Go.Proofs.YtloccocengegnaaDoor
open Go.RowKit Wh

/-- The symbols of the draws lie in block b. -/
def SymAt (w : World) (b : Nat) : Prop := b < w.heap.size ∧ ∀ i, i < 7 → w.cell? ⟨b, i, none⟩ = some (.string (symX i))
theorem SymAt.next {w w' : World} {b : Nat} {B : Nat} (h : SymAt w b) (hb : Below B w w') (hB : b < B) : SymAt w' b :=
  ⟨Nat.lt_of_lt_of_le h.1 hb.size, fun i hi => by rw [hb.cell (p := ⟨b, i, none⟩) hB]; exact h.2 i hi⟩
theorem SymAt.grown {w w' : World} {b : Nat} {row : Option Nat} (h : SymAt w b) (hg : w.grownBy w' row) (hne : some b ≠ row) : SymAt w' b := by
  refine ⟨Nat.lt_of_lt_of_le h.1 hg.size, fun i hi => ?_⟩
  rw [World.cell?_of_block (a := ⟨b, i, none⟩) (hg.block b h.1 hne)]
  exact h.2 i hi

theorem four_at (W : World) (x : Nat → ByteArray) (q : Nat) (hq : q < 4) (B : Nat) (hB : B = W.heap.size) (h : Value) (hx : ∀ i, i < 4 → #[Value.string (x 0), .string (x 1), .string (x 2), .string (x 3)][i]? = some (.string (x i))) :
    (W.alloc (.cells #[.string (x 0), .string (x 1), .string (x 2), .string (x 3)] 9)).cell? ⟨B, q, none⟩ = some (.string (x q)) := by
  subst hB
  have e := heap_alloc_new W (.cells #[.string (x 0), .string (x 1), .string (x 2), .string (x 3)] 9)
  unfold World.cell?
  simp only [e]
  exact hx q hq

set_option maxHeartbeats 4000000 in
theorem tokens_any (a : Option Addr) (len cap : Nat) (zs : List Int) (n : Nat) (w : World) (hz : IsInts w a len zs) (hl : len ≤ 9223372036854775807) (hn : n ≤ 15) :
    Calls Tryd.prog 9 #[.slice a len cap, .int .i64 n] w fun e w' => ∃ v, e = .returned v ∧ w'.ownsRow w.heap.size 41 4 v (n + 1) (toksL (tokL zs n)) ∧ Below w.heap.size w w' := by
  have HZ := Lib.hid hz
  obtain ⟨i0, hi, hz0, hz1, hz2⟩ := info_parts info_tok
  clear hz
  go_enter Tryd.func9, Tryd.ntmps9
  go_wp2_with fail
  have HT0 : Hid (SymAt (w.alloc (.cells #[.string ⟨#[40]⟩, .string ⟨#[41]⟩, .string ⟨#[60, 61]⟩, .string ⟨#[43, 43]⟩, .string ⟨#[61]⟩, .string ⟨#[33]⟩, .string ⟨#[45]⟩] 9)) w.heap.size) := by
    refine ⟨by simp, fun i hi => ?_⟩
    have e := heap_alloc_new w (.cells #[.string ⟨#[40]⟩, .string ⟨#[41]⟩, .string ⟨#[60, 61]⟩, .string ⟨#[43, 43]⟩, .string ⟨#[61]⟩, .string ⟨#[33]⟩, .string ⟨#[45]⟩] 9)
    rcases (show i = 0 ∨ i = 1 ∨ i = 2 ∨ i = 3 ∨ i = 4 ∨ i = 5 ∨ i = 6 by omega) with rfl | rfl | rfl | rfl | rfl | rfl | rfl
    · exact cell_of_row _ _ 0 _ _ _ e
    · exact cell_of_row _ _ 1 _ _ _ e
    · exact cell_of_row _ _ 2 _ _ _ e
    · exact cell_of_row _ _ 3 _ _ _ e
    · exact cell_of_row _ _ 4 _ _ _ e
    · exact cell_of_row _ _ 5 _ _ _ e
    · exact cell_of_row _ _ 6 _ _ _ e
  go_loopw [5, 7] (fun ov iv wr => ∃ k : Nat, k ≤ n ∧ iv = .int .i64 k ∧ wr.ownsRow (w.heap.size + 1) 41 4 ov k (toksL (tokM zs k)) ∧ Hid (SymAt wr w.heap.size) ∧ Below w.heap.size w wr) (fun _ iv _ => n - (intOf iv).toNat)
  case atStart => exact ⟨0, Nat.zero_le _, rfl, by show World.ownsRow _ _ _ _ _ 0 []; exact World.ownsRow_nil _ _ _ _, HT0, (Below.refl _ _).alloc (Nat.le_refl _) _⟩
  case round =>
    obtain ⟨k, hk, rfl, hown, HT, hbel⟩ := hrel
    clear HT0
    have hsz := hbel.size
    have hsz1 := HT.out.1
    by_cases hlt : k < n
    · have C0 := Lib.hid (fun W (h : Below w.heap.size w W) => at_any a len cap zs k W (HZ.out.below h (Nat.le_refl _)) hl)
      have hab := atZ_bounds zs k
      have HN := Lib.hid (tokM_next zs k)
      obtain ⟨x, hx⟩ : ∃ x : Nat, atZ zs k = (x : Int) := ⟨(atZ zs k).toNat, by omega⟩
      rw [hx] at C0 HN hab
      rw [show ((x : Int)).toNat = x from rfl] at HN
      clear hx
      go_wp2_with fail
      refine (C0.out _ hbel).mono ?_
      rintro e w1 ⟨rfl, hb1⟩
      have hB1 := hbel.trans (hb1.mono hsz)
      have hs1 := hB1.size
      have hs2 := hb1.size
      have hown1 := own_below hown hb1
      have HT1 := Lib.hid (HT.out.next hb1 HT.out.1)
      have hlt1 := HT1.out.1
      have b1 : ∀ z : Int, bits .and .i64 z 3 = z % 4 := and_3
      clear C0 HT hown hbel hb1
      have h5 := Nat.mod_lt x (show 0 < 5 by omega)
      obtain ⟨r, hr⟩ : ∃ r, x % 5 = r := ⟨_, rfl⟩
      rw [hr] at h5
      obtain ⟨q, HQ⟩ : ∃ q, Hid (x / 8 % 4 = q) := ⟨_, rfl⟩
      obtain ⟨q7, HQ7⟩ : ∃ q, Hid (x / 8 % 7 = q) := ⟨_, rfl⟩
      obtain ⟨qa, HQA⟩ : ∃ q, Hid (x / 64 % 4 = q) := ⟨_, rfl⟩
      have hq : (x : Int) / 8 % 4 = (q : Int) := by have := HQ.out; omega
      have hq7 : (x : Int) / 8 % 7 = (q7 : Int) := by have := HQ7.out; omega
      have hqa : (x : Int) / 64 % 4 = (qa : Int) := by have := HQA.out; omega
      have hqb : q < 4 := by have := HQ.out; omega
      have hq7b : q7 < 7 := by have := HQ7.out; omega
      rw [HQA.out] at HN
      obtain ⟨p8, HP8⟩ : ∃ q, Hid (x / 8 = q) := ⟨_, rfl⟩
      have hr5 : (x : Int) % 5 = (r : Int) := by omega
      rcases (show r = 0 ∨ r = 1 ∨ r = 2 ∨ r = 3 ∨ r = 4 by omega) with rfl | rfl | rfl | rfl | rfl
      · have HX : Hid (tokX x = ⟨1, nameX q, 0⟩) := by
          show _ = _
          unfold tokX
          rw [if_pos hr, HQ.out]
        have hr5' : (x : Int) % 5 = 0 := hr5
        have hel : ([Value.string ⟨#[97]⟩, .string ⟨#[102, 114, 111, 109]⟩, .string ⟨#[109, 46, 98]⟩, .string ⟨#[97, 95, 49]⟩] : List Value)[q]'(by simpa using hqb) = .string (nameX q) := by
          rcases (show q = 0 ∨ q = 1 ∨ q = 2 ∨ q = 3 by omega) with rfl | rfl | rfl | rfl <;> rfl
        generalize nameX q = tx at *
        clear hr5 hr
        go_wp2_with (at_builtin; refine wpList_append_lies _ rfl _ _ 26 rfl (w.heap.size + 1) 41 i0 _ 4 40 Tryd.underlying26 hi hz0 hz1 hz2 rfl (by decide) _ _ _ rfl ((((hown1).alloc _).alloc _).alloc _) ⟨w1.heap.size + 2, 0, none⟩ 1 1 [.int .i64 1, .string tx, .int .i64 0, .int .i64 (qa : Int)] rfl rfl (by have h := heap_alloc_new (((w1).alloc (.cells #[.int .i64 1, .string tx, .int .i64 0, .int .i64 (qa : Int)] 41)).alloc (.cells #[.string ⟨#[97]⟩, .string ⟨#[102, 114, 111, 109]⟩, .string ⟨#[109, 46, 98]⟩, .string ⟨#[97, 95, 49]⟩] 9)) (.cells #[.int .i64 1, .string tx, .int .i64 0, .int .i64 (qa : Int)] 41); rw [World.size_alloc, World.size_alloc] at h; exact World.news_of_block (cs := #[.int .i64 1, .string tx, .int .i64 0, .int .i64 (qa : Int)]) (t := 41) (fr := (0, 0)) h) (by simp [Value.oneCell']) (by omega) (by unfold maxLen; omega) (by omega) (by simp; omega) (w1.heap.size + 3) (by simp) ?_)
        intro gg cc w9 hown9 hgrow9 hat9 hlt9
        have hrow : ∀ j, u5.ownBlock = some j → w.heap.size + 1 ≤ j := fun j hj => (hown1.lt j hj).1
        have hB9 := ((((hB1).alloc (by first | omega | (simp; omega)) _).alloc (by first | omega | (simp; omega)) _).alloc (by first | omega | (simp; omega)) _).grown hgrow9 (by simp; omega) (fun j hj => by have := hrow j hj; omega)
        have HT9 : Hid (SymAt w9 w.heap.size) := by
          refine SymAt.grown ?_ hgrow9 (fun h => by have := hrow _ h.symm; omega)
          exact HT1.out.next (((((Below.refl w1.heap.size w1)).alloc (by first | omega | simp) _).alloc (by first | omega | simp) _).alloc (by first | omega | (simp; done) | (simp; omega)) _) HT1.out.1
        have hO9 : w9.ownsRow (w.heap.size + 1) 41 4 (.slice (some ⟨gg, 0, none⟩) (k + 1) cc) (k + 1) (toksL (tokM zs (k + 1))) := by
          rw [HN.out, ← toksL_push, HX.out]
          exact hown9
        clear hown9 hgrow9 hat9 hlt9 hown1 hB1
        go_wp2_with fail
        go_roundw
        case rel => exact ⟨k + 1, by omega, by go_num, hO9, HT9, hB9⟩
        case measure => simp [intOf]; omega
      · have HX : Hid (tokX x = ⟨2, ⟨#[]⟩, (p8 : Int)⟩) := by
          show _ = _
          unfold tokX
          rw [if_neg (by omega), if_pos hr, HP8.out]
        have hr5' : (x : Int) % 5 = 1 := hr5
        have hp8 : (x : Int) / 8 = (p8 : Int) := by have := HP8.out; omega
        clear hr5 hr
        go_wp2_with (at_builtin; refine wpList_append_lies _ rfl _ _ 26 rfl (w.heap.size + 1) 41 i0 _ 4 40 Tryd.underlying26 hi hz0 hz1 hz2 rfl (by decide) _ _ _ rfl (((hown1).alloc _).alloc _) ⟨w1.heap.size + 1, 0, none⟩ 1 1 [.int .i64 2, .string ⟨#[]⟩, .int .i64 (p8 : Int), .int .i64 (qa : Int)] rfl rfl (by have h := heap_alloc_new ((w1).alloc (.cells #[.int .i64 2, .string ⟨#[]⟩, .int .i64 (p8 : Int), .int .i64 (qa : Int)] 41)) (.cells #[.int .i64 2, .string ⟨#[]⟩, .int .i64 (p8 : Int), .int .i64 (qa : Int)] 41); rw [World.size_alloc] at h; exact World.news_of_block (cs := #[.int .i64 2, .string ⟨#[]⟩, .int .i64 (p8 : Int), .int .i64 (qa : Int)]) (t := 41) (fr := (0, 0)) h) (by simp [Value.oneCell']) (by omega) (by unfold maxLen; omega) (by omega) (by simp; omega) (w1.heap.size + 2) (by simp) ?_)
        intro gg cc w9 hown9 hgrow9 hat9 hlt9
        have hrow : ∀ j, u5.ownBlock = some j → w.heap.size + 1 ≤ j := fun j hj => (hown1.lt j hj).1
        have hB9 := (((hB1).alloc (by first | omega | (simp; omega)) _).alloc (by first | omega | (simp; omega)) _).grown hgrow9 (by simp; omega) (fun j hj => by have := hrow j hj; omega)
        have HT9 : Hid (SymAt w9 w.heap.size) := by
          refine SymAt.grown ?_ hgrow9 (fun h => by have := hrow _ h.symm; omega)
          exact HT1.out.next ((((Below.refl w1.heap.size w1)).alloc (by first | omega | simp) _).alloc (by first | omega | (simp; done) | (simp; omega)) _) HT1.out.1
        have hO9 : w9.ownsRow (w.heap.size + 1) 41 4 (.slice (some ⟨gg, 0, none⟩) (k + 1) cc) (k + 1) (toksL (tokM zs (k + 1))) := by
          rw [HN.out, ← toksL_push, HX.out]
          exact hown9
        clear hown9 hgrow9 hat9 hlt9 hown1 hB1
        go_wp2_with fail
        go_roundw
        case rel => exact ⟨k + 1, by omega, by go_num, hO9, HT9, hB9⟩
        case measure => simp [intOf]; omega
      · have HX : Hid (tokX x = ⟨3, textX q, 0⟩) := by
          show _ = _
          unfold tokX
          rw [if_neg (by omega), if_neg (by omega), if_pos hr, HQ.out]
        have hr5' : (x : Int) % 5 = 2 := hr5
        have hel : ([Value.string ⟨#[]⟩, .string ⟨#[105, 116, 39, 115]⟩, .string ⟨#[35]⟩, .string ⟨#[10]⟩] : List Value)[q]'(by simpa using hqb) = .string (textX q) := by
          rcases (show q = 0 ∨ q = 1 ∨ q = 2 ∨ q = 3 by omega) with rfl | rfl | rfl | rfl <;> rfl
        generalize textX q = tx at *
        clear hr5 hr
        go_wp2_with (at_builtin; refine wpList_append_lies _ rfl _ _ 26 rfl (w.heap.size + 1) 41 i0 _ 4 40 Tryd.underlying26 hi hz0 hz1 hz2 rfl (by decide) _ _ _ rfl ((((hown1).alloc _).alloc _).alloc _) ⟨w1.heap.size + 2, 0, none⟩ 1 1 [.int .i64 3, .string tx, .int .i64 0, .int .i64 (qa : Int)] rfl rfl (by have h := heap_alloc_new (((w1).alloc (.cells #[.int .i64 3, .string tx, .int .i64 0, .int .i64 (qa : Int)] 41)).alloc (.cells #[.string ⟨#[]⟩, .string ⟨#[105, 116, 39, 115]⟩, .string ⟨#[35]⟩, .string ⟨#[10]⟩] 9)) (.cells #[.int .i64 3, .string tx, .int .i64 0, .int .i64 (qa : Int)] 41); rw [World.size_alloc, World.size_alloc] at h; exact World.news_of_block (cs := #[.int .i64 3, .string tx, .int .i64 0, .int .i64 (qa : Int)]) (t := 41) (fr := (0, 0)) h) (by simp [Value.oneCell']) (by omega) (by unfold maxLen; omega) (by omega) (by simp; omega) (w1.heap.size + 3) (by simp) ?_)
        intro gg cc w9 hown9 hgrow9 hat9 hlt9
        have hrow : ∀ j, u5.ownBlock = some j → w.heap.size + 1 ≤ j := fun j hj => (hown1.lt j hj).1
        have hB9 := ((((hB1).alloc (by first | omega | (simp; omega)) _).alloc (by first | omega | (simp; omega)) _).alloc (by first | omega | (simp; omega)) _).grown hgrow9 (by simp; omega) (fun j hj => by have := hrow j hj; omega)
        have HT9 : Hid (SymAt w9 w.heap.size) := by
          refine SymAt.grown ?_ hgrow9 (fun h => by have := hrow _ h.symm; omega)
          exact HT1.out.next (((((Below.refl w1.heap.size w1)).alloc (by first | omega | simp) _).alloc (by first | omega | simp) _).alloc (by first | omega | (simp; done) | (simp; omega)) _) HT1.out.1
        have hO9 : w9.ownsRow (w.heap.size + 1) 41 4 (.slice (some ⟨gg, 0, none⟩) (k + 1) cc) (k + 1) (toksL (tokM zs (k + 1))) := by
          rw [HN.out, ← toksL_push, HX.out]
          exact hown9
        clear hown9 hgrow9 hat9 hlt9 hown1 hB1
        go_wp2_with fail
        go_roundw
        case rel => exact ⟨k + 1, by omega, by go_num, hO9, HT9, hB9⟩
        case measure => simp [intOf]; omega
      · have HX : Hid (tokX x = ⟨4, ⟨#[]⟩, (x : Int) * 7000⟩) := by
          show _ = _
          unfold tokX
          rw [if_neg (by omega), if_neg (by omega), if_neg (by omega), if_pos hr, Int.natCast_mul]
          rfl
        have hr5' : (x : Int) % 5 = 3 := hr5
        clear hr5 hr
        go_wp2_with (at_builtin; refine wpList_append_lies _ rfl _ _ 26 rfl (w.heap.size + 1) 41 i0 _ 4 40 Tryd.underlying26 hi hz0 hz1 hz2 rfl (by decide) _ _ _ rfl (((hown1).alloc _).alloc _) ⟨w1.heap.size + 1, 0, none⟩ 1 1 [.int .i64 4, .string ⟨#[]⟩, .int .i64 ((x : Int) * 7000), .int .i64 (qa : Int)] rfl rfl (by have h := heap_alloc_new ((w1).alloc (.cells #[.int .i64 4, .string ⟨#[]⟩, .int .i64 ((x : Int) * 7000), .int .i64 (qa : Int)] 41)) (.cells #[.int .i64 4, .string ⟨#[]⟩, .int .i64 ((x : Int) * 7000), .int .i64 (qa : Int)] 41); rw [World.size_alloc] at h; exact World.news_of_block (cs := #[.int .i64 4, .string ⟨#[]⟩, .int .i64 ((x : Int) * 7000), .int .i64 (qa : Int)]) (t := 41) (fr := (0, 0)) h) (by simp [Value.oneCell']) (by omega) (by unfold maxLen; omega) (by omega) (by simp; omega) (w1.heap.size + 2) (by simp) ?_)
        intro gg cc w9 hown9 hgrow9 hat9 hlt9
        have hrow : ∀ j, u5.ownBlock = some j → w.heap.size + 1 ≤ j := fun j hj => (hown1.lt j hj).1
        have hB9 := (((hB1).alloc (by first | omega | (simp; omega)) _).alloc (by first | omega | (simp; omega)) _).grown hgrow9 (by simp; omega) (fun j hj => by have := hrow j hj; omega)
        have HT9 : Hid (SymAt w9 w.heap.size) := by
          refine SymAt.grown ?_ hgrow9 (fun h => by have := hrow _ h.symm; omega)
          exact HT1.out.next ((((Below.refl w1.heap.size w1)).alloc (by first | omega | simp) _).alloc (by first | omega | (simp; done) | (simp; omega)) _) HT1.out.1
        have hO9 : w9.ownsRow (w.heap.size + 1) 41 4 (.slice (some ⟨gg, 0, none⟩) (k + 1) cc) (k + 1) (toksL (tokM zs (k + 1))) := by
          rw [HN.out, ← toksL_push, HX.out]
          exact hown9
        clear hown9 hgrow9 hat9 hlt9 hown1 hB1
        go_wp2_with fail
        go_roundw
        case rel => exact ⟨k + 1, by omega, by go_num, hO9, HT9, hB9⟩
        case measure => simp [intOf]; omega
      · have HX : Hid (tokX x = ⟨5, symX q7, 0⟩) := by
          show _ = _
          unfold tokX
          rw [if_neg (by omega), if_neg (by omega), if_neg (by omega), if_neg (by omega), HQ7.out]
        have hr5' : (x : Int) % 5 = 4 := hr5
        have hsy := HT1.out.2 q7 hq7b
        generalize symX q7 = tx at *
        clear hr5 hr
        go_wp2_with (at_builtin; refine wpList_append_lies _ rfl _ _ 26 rfl (w.heap.size + 1) 41 i0 _ 4 40 Tryd.underlying26 hi hz0 hz1 hz2 rfl (by decide) _ _ _ rfl (((hown1).alloc _).alloc _) ⟨w1.heap.size + 1, 0, none⟩ 1 1 [.int .i64 5, .string tx, .int .i64 0, .int .i64 (qa : Int)] rfl rfl (by have h := heap_alloc_new ((w1).alloc (.cells #[.int .i64 5, .string tx, .int .i64 0, .int .i64 (qa : Int)] 41)) (.cells #[.int .i64 5, .string tx, .int .i64 0, .int .i64 (qa : Int)] 41); rw [World.size_alloc] at h; exact World.news_of_block (cs := #[.int .i64 5, .string tx, .int .i64 0, .int .i64 (qa : Int)]) (t := 41) (fr := (0, 0)) h) (by simp [Value.oneCell']) (by omega) (by unfold maxLen; omega) (by omega) (by simp; omega) (w1.heap.size + 2) (by simp) ?_)
        intro gg cc w9 hown9 hgrow9 hat9 hlt9
        have hrow : ∀ j, u5.ownBlock = some j → w.heap.size + 1 ≤ j := fun j hj => (hown1.lt j hj).1
        have hB9 := (((hB1).alloc (by first | omega | (simp; omega)) _).alloc (by first | omega | (simp; omega)) _).grown hgrow9 (by simp; omega) (fun j hj => by have := hrow j hj; omega)
        have HT9 : Hid (SymAt w9 w.heap.size) := by
          refine SymAt.grown ?_ hgrow9 (fun h => by have := hrow _ h.symm; omega)
          exact HT1.out.next ((((Below.refl w1.heap.size w1)).alloc (by first | omega | simp) _).alloc (by first | omega | (simp; done) | (simp; omega)) _) HT1.out.1
        have hO9 : w9.ownsRow (w.heap.size + 1) 41 4 (.slice (some ⟨gg, 0, none⟩) (k + 1) cc) (k + 1) (toksL (tokM zs (k + 1))) := by
          rw [HN.out, ← toksL_push, HX.out]
          exact hown9
        clear hown9 hgrow9 hat9 hlt9 hown1 hB1
        go_wp2_with fail
        go_roundw
        case rel => exact ⟨k + 1, by omega, by go_num, hO9, HT9, hB9⟩
        case measure => simp [intOf]; omega
    · obtain rfl : k = n := by omega
      clear HT
      go_wp2_with (at_builtin; refine wpList_append_lies _ rfl _ _ 26 rfl (w.heap.size + 1) 41 i0 _ 4 40 Tryd.underlying26 hi hz0 hz1 hz2 rfl (by decide) _ _ _ rfl (hown.alloc _) ⟨wr.heap.size, 0, none⟩ 1 1 [.int .i64 0, .string ⟨#[]⟩, .int .i64 0, .int .i64 0] rfl rfl (by have h := heap_alloc_new (wr) (.cells #[.int .i64 0, .string ⟨#[]⟩, .int .i64 0, .int .i64 0] 41); exact World.news_of_block (cs := #[.int .i64 0, .string ⟨#[]⟩, .int .i64 0, .int .i64 0]) (t := 41) (fr := (0, 0)) h) (by simp [Value.oneCell']) (by omega) (by unfold maxLen; omega) (by omega) (by simp; omega) (wr.heap.size + 1) (by simp) ?_)
      intro gg cc w9 hown9 hgrow9 hat9 hlt9
      have hB9 := (hbel.alloc (by omega) _).grown hgrow9 (by simp; omega) (fun j hj => by have := (hown.lt j hj).1; omega)
      have hO9 : w9.ownsRow w.heap.size 41 4 (.slice (some ⟨gg, 0, none⟩) (k + 1) cc) (k + 1) (toksL (tokL zs k)) := by
        unfold tokL
        rw [← toksL_push]
        exact own_mono hown9 (Nat.le_succ _)
      clear hown9 hgrow9 hat9 hlt9 hown
      go_wp2_with fail
      go_ret
      exact ⟨_, rfl, hO9, hB9⟩

end Go.Proofs.YtloccocengegnaaDoor

