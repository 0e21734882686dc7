/-
  IsBuiltin, IsColumn, IsReference, Arity, formed of the reference. · The program's tables: built-in functions, binary operators. builtinOp, · Reserved, isToken and Validate, of package token.
-/
import Derived.Test.YtmdpjahhhfajaaaDoorJA05
import Derived.Test.YtmdpjahhhfajaaaDoorJA06
import Derived.Deep.MidRow
import Derived.LoopTactic
set_option linter.unusedVariables false
set_option linter.unusedSimpArgs false
set_option maxRecDepth 100000
namespace Go.Proofs.YtmdpjahhhfajaaaDoor
open Go.RowKit Wh
set_option maxHeartbeats 1000000 in
theorem rblt_any (s : ByteArray) (w : World) : Calls Tryd.prog 44 #[.string s] w fun e w' => e = .returned (.bool (bltB s)) ∧ Below w.heap.size w w' := by
  go_enter Tryd.func44, Tryd.ntmps44
  go_wp2_with fail
  have HS : IsStrs (w.alloc (.cells #[.string ⟨#[105, 102]⟩, .string ⟨#[99, 111, 97, 108, 101, 115, 99, 101]⟩, .string ⟨#[105, 115, 110, 117, 108, 108]⟩, .string ⟨#[108, 101, 110, 103, 116, 104]⟩, .string ⟨#[100, 97, 121]⟩] 9)) (some ⟨w.heap.size, 0, none⟩) 5 bltL := by
    refine ⟨rfl, .inr ⟨w.heap.size, 0, rfl, by simp, fun i x hx => ?_⟩⟩
    have h1 : (bltL.map Value.string)[i]? = some (.string x) := by rw [List.getElem?_map, hx]; rfl
    rw [Nat.zero_add]
    exact (cell_of_row _ _ i _ _ _ (heap_alloc_new w _)).trans (by rw [← Array.getElem?_toList]; exact h1)
  refine (has_any _ 5 5 bltL s _ HS (by decide)).mono ?_
  rintro e w1 ⟨rfl, rfl⟩
  go_wp2_with fail
  go_ret
  exact ⟨rfl, (Below.refl _ _).alloc (Nat.le_refl _) _⟩
set_option maxHeartbeats 1000000 in
theorem rcol_any (s : ByteArray) (w : World) (hs : s.size ≤ 9223372036854775800) : Calls Tryd.prog 42 #[.string s] w fun e w' => e = .returned (.bool (colB s)) ∧ Below w.heap.size w w' := by
  unfold colB
  have C1 := Lib.hid (rIsName_any s w)
  have C2 := Lib.hid (fun W => rreserved_any s W)
  generalize nameB s = b1 at *
  generalize resB s = b2 at *
  cases b1
  · go_enter Tryd.func42, Tryd.ntmps42
    go_wp2_with fail
    refine C1.out.mono ?_
    rintro e w1 ⟨rfl, rfl⟩
    go_wp2_with fail
    go_ret
    exact ⟨rfl, Below.refl _ _⟩
  · go_enter Tryd.func42, Tryd.ntmps42
    go_wp2_with fail
    refine C1.out.mono ?_
    rintro e w1 ⟨rfl, rfl⟩
    go_wp2_with fail
    refine (C2.out _).mono ?_
    rintro e w1 ⟨rfl, hb⟩
    go_wp2_with fail
    go_ret
    exact ⟨rfl, hb⟩
set_option maxHeartbeats 1000000 in
theorem rref_any (s : ByteArray) (w : World) (hs : s.size ≤ 9223372036854775800) : Calls Tryd.prog 43 #[.string s] w fun e w' => e = .returned (.bool (refB s)) ∧ Below w.heap.size w w' := by
  unfold refB
  have C1 := Lib.hid (rIsQualified_any s hs w)
  have C2 := Lib.hid (fun W => rreserved_any s W)
  generalize qualB s = b1 at *
  generalize resB s = b2 at *
  cases b1
  · go_enter Tryd.func43, Tryd.ntmps43
    go_wp2_with fail
    refine C1.out.mono ?_
    rintro e w1 ⟨rfl, rfl⟩
    go_wp2_with fail
    go_ret
    exact ⟨rfl, Below.refl _ _⟩
  · go_enter Tryd.func43, Tryd.ntmps43
    go_wp2_with fail
    refine C1.out.mono ?_
    rintro e w1 ⟨rfl, rfl⟩
    go_wp2_with fail
    refine (C2.out _).mono ?_
    rintro e w1 ⟨rfl, hb⟩
    go_wp2_with fail
    go_ret
    exact ⟨rfl, hb⟩
set_option maxHeartbeats 1000000 in
theorem rarity_any (t : Nd) (w : World) : Calls Tryd.prog 12 #[ndV t] w fun e w' => e = .returned (.int .i64 (arN t)) ∧ Below w.heap.size w w' := by
  obtain ⟨op, ⟨k, n, s⟩, nm, ar⟩ := t
  unfold ndV
  simp only
  go_enter Tryd.func12, Tryd.ntmps12
  go_wp2
  all_goals
    go_ret
    refine ⟨ret_int ?_, (Below.refl _ _).alloc (Nat.le_refl _) _⟩
    unfold arN
    simp only
    simp_all
    try omega
theorem box6 {w w1 : World} {x0 x1 x2 x3 x4 x5 : Value} {t : TypeId} (h : Below (w.alloc (.cells #[x0, x1, x2, x3, x4, x5] t)).heap.size (w.alloc (.cells #[x0, x1, x2, x3, x4, x5] t)) w1) :
    w1.cell? ⟨w.heap.size, 0, none⟩ = some x0 ∧ w1.cell? ⟨w.heap.size, 1, none⟩ = some x1 ∧ w1.cell? ⟨w.heap.size, 2, none⟩ = some x2 ∧ w1.cell? ⟨w.heap.size, 3, none⟩ = some x3 ∧ w1.cell? ⟨w.heap.size, 4, none⟩ = some x4 ∧ w1.cell? ⟨w.heap.size, 5, none⟩ = some x5 := by
  have hh := heap_alloc_new w (.cells #[x0, x1, x2, x3, x4, x5] t)
  have e : ∀ i, w1.cell? ⟨w.heap.size, i, none⟩ = (w.alloc (.cells #[x0, x1, x2, x3, x4, x5] t)).cell? ⟨w.heap.size, i, none⟩ := fun i => h.cell (p := ⟨w.heap.size, i, none⟩) (by simp)
  refine ⟨?_, ?_, ?_, ?_, ?_, ?_⟩
  · rw [e]; exact cell_of_row _ _ 0 _ _ _ hh
  · rw [e]; exact cell_of_row _ _ 1 _ _ _ hh
  · rw [e]; exact cell_of_row _ _ 2 _ _ _ hh
  · rw [e]; exact cell_of_row _ _ 3 _ _ _ hh
  · rw [e]; exact cell_of_row _ _ 4 _ _ _ hh
  · rw [e]; exact cell_of_row _ _ 5 _ _ _ hh
theorem below_box {w w1 : World} {o : Obj} (h : Below (w.alloc o).heap.size (w.alloc o) w1) : Below w.heap.size w w1 :=
  ((Below.refl w.heap.size w).alloc (Nat.le_refl _) o).trans (h.mono (by simp))
theorem emp_list (s : ByteArray) : empB s = decide (s.toList = []) := by
  unfold empB
  rw [toList_bts]
  have := bts_length s
  by_cases h : s.size = 0
  · simp [h, List.eq_nil_of_length_eq_zero (by omega : (bts s).length = 0)]
  · have : bts s ≠ [] := by intro h2; rw [h2] at this; simp at this; omega
    simp [h, this]
theorem beq0 (x : Int) : (x == 0) = decide (x = 0) := by by_cases h : x = 0 <;> simp [h]
set_option maxHeartbeats 4000000 in
theorem rformed_any (t : Nd) (w : World) (hs : t.nm.size ≤ 9223372036854775800) : Calls Tryd.prog 25 #[ndV t] w fun e w' => e = .returned (.bool (nodB t)) ∧ Below w.heap.size w w' := by
  have AR := Lib.hid (fun W => rarity_any t W)
  obtain ⟨a, ha⟩ : ∃ a, arN t = a := ⟨_, rfl⟩
  rw [ha] at AR
  have HA := Lib.hid ha
  clear ha
  obtain ⟨op, ⟨k, n, s⟩, nm, ar⟩ := t
  unfold ndV at *
  simp only at hs AR ⊢
  obtain ⟨vb, hv⟩ : ∃ b, validB k n s = b := ⟨_, rfl⟩
  have CV := Lib.hid (fun W => rvalid_any k n s W)
  rw [hv] at CV
  have HV := Lib.hid hv
  have C1 := Lib.hid (fun W => rcol_any nm W hs)
  have C2 := Lib.hid (fun W => rref_any nm W hs)
  have C3 := Lib.hid (fun W => rblt_any nm W)
  obtain ⟨cb, hcb⟩ : ∃ b, colB nm = b := ⟨_, rfl⟩
  obtain ⟨rb, hrb⟩ : ∃ b, refB nm = b := ⟨_, rfl⟩
  obtain ⟨bb, hbb⟩ : ∃ b, bltB nm = b := ⟨_, rfl⟩
  rw [hcb] at C1
  rw [hrb] at C2
  rw [hbb] at C3
  have HC := Lib.hid (And.intro hcb (And.intro hrb hbb))
  clear hv hcb hrb hbb
  rcases Classical.em (k = 0) with hk | hk <;> rcases Classical.em (n = 0) with hn | hn
  all_goals
    try subst hk
    try subst hn
    by_cases h0 : op = 0
    · subst h0
      clear AR HA C1 C2 C3 HC
      go_enter Tryd.func25, Tryd.ntmps25
      go_wp2_with fail
      all_goals
        refine (CV.out _).mono ?_
        rintro e w1 ⟨rfl, hb⟩
        obtain ⟨b0, b1, b2, b3, b4, b5⟩ := box6 hb
        have HB := Lib.hid (below_box hb)
        clear hb CV
        have hv := HV.out
        clear HV
        cases vb
        · go_wp2_with fail
          go_ret
          refine ⟨ret_bool ?_, HB.out⟩
          simp [nodB, hv]
        · go_wp2_with fail
          all_goals
            go_ret
            refine ⟨ret_bool ?_, HB.out⟩
            simp_all [nodB, hv, emp_list, beq0]
            try (intros; omega)
    · by_cases h1 : op = 1
      · subst h1
        clear AR HA CV HV C2 C3
        obtain ⟨hcb, -, -⟩ := HC.out
        clear HC
        go_enter Tryd.func25, Tryd.ntmps25
        go_wp2_with (go_at_call 42; refine (C1.out _).mono ?_; rintro e w1 ⟨rfl, hb⟩; have HB := Lib.hid (below_box hb))
        all_goals
          go_ret
          refine ⟨ret_bool ?_, by first | exact HB.out | exact (Below.refl _ _).alloc (Nat.le_refl _) _⟩
          simp_all [nodB, zeroV, emp_list, beq0]
          try (intros; omega)
      · by_cases h20 : op = 20
        · subst h20
          clear AR HA CV HV C1 C3
          obtain ⟨-, hrb, -⟩ := HC.out
          clear HC
          go_enter Tryd.func25, Tryd.ntmps25
          go_wp2_with (go_at_call 43; refine (C2.out _).mono ?_; rintro e w1 ⟨rfl, hb⟩; have HB := Lib.hid (below_box hb))
          all_goals
            go_ret
            refine ⟨ret_bool ?_, by first | exact HB.out | exact (Below.refl _ _).alloc (Nat.le_refl _) _⟩
            simp_all [nodB, zeroV, emp_list, beq0]
            try (intros; omega)
        · by_cases h21 : op = 21
          · subst h21
            clear AR HA CV HV C1
            obtain ⟨-, hrb, hbb⟩ := HC.out
            clear HC
            go_enter Tryd.func25, Tryd.ntmps25
            cases rb
            · go_wp2_with (go_at_call 43; refine (C2.out _).mono ?_; rintro e w1 ⟨rfl, hb⟩; obtain ⟨b0, b1, b2, b3, b4, b5⟩ := box6 hb; have HB := Lib.hid (below_box hb))
              all_goals
                go_ret
                refine ⟨ret_bool ?_, by first | exact HB.out | exact (Below.refl _ _).alloc (Nat.le_refl _) _⟩
                simp_all [nodB, zeroV, emp_list, beq0]
                try (intros; omega)
            · go_wp2_with (first
                | (go_at_call 43; refine (C2.out _).mono ?_; rintro e w1 ⟨rfl, hb⟩; obtain ⟨b0, b1, b2, b3, b4, b5⟩ := box6 hb; have HB := Lib.hid (below_box hb); have hsz := hb.size; clear hb)
                | (go_at_call 44; refine (C3.out _).mono ?_; rintro e w2 ⟨rfl, hb2⟩; have HB2 := Lib.hid (HB.out.trans (hb2.mono HB.out.size))))
              all_goals
                go_ret
                refine ⟨ret_bool ?_, by first | exact HB2.out | exact HB.out | exact (Below.refl _ _).alloc (Nat.le_refl _) _⟩
                simp_all [nodB, zeroV, emp_list, beq0]
                try (intros; omega)
          · clear CV HV C1 C2 C3 HC
            go_enter Tryd.func25, Tryd.ntmps25
            go_wp2_with (go_at_call 12; refine (AR.out _).mono ?_; rintro e w1 ⟨rfl, hb⟩; obtain ⟨b0, b1, b2, b3, b4, b5⟩ := box6 hb; have HB := Lib.hid (below_box hb); clear hb)
            all_goals
              go_ret
              refine ⟨ret_bool ?_, by first | exact HB.out | exact (Below.refl _ _).alloc (Nat.le_refl _) _⟩
              have ha := HA.out
              simp_all [nodB, zeroV, emp_list, beq0]
              try (intros; omega)
end Go.Proofs.YtmdpjahhhfajaaaDoor
namespace Wh
open Go Go.Proofs.YtmdpjahhhfajaaaDoor
def bltP : List (ByteArray × Int) := [(⟨#[105, 102]⟩, 17), (⟨#[99, 111, 97, 108, 101, 115, 99, 101]⟩, 18), (⟨#[105, 115, 110, 117, 108, 108]⟩, 16), (⟨#[108, 101, 110, 103, 116, 104]⟩, 19), (⟨#[100, 97, 121]⟩, 20)]
def bltC : List Value := bltP.flatMap fun p => [.string p.1, .int .i64 p.2]
def bltO (s : ByteArray) : Option (ByteArray × Int) := bltP.find? fun p => eqS p.1 s
theorem find_step {α : Type} (p : α → Bool) (l : List α) (k : Nat) (x : α) (h : l[k]? = some x) (hn : ∀ (m : Nat) (y : α), m < k → l[m]? = some y → p y = false) : (p x = true → l.find? p = some x) := by
  intro hp
  induction l generalizing k with
  | nil => simp at h
  | cons y l ih =>
    cases k with
    | zero => simp at h; subst h; rw [List.find?_cons_of_pos hp]
    | succ k =>
      rw [List.find?_cons_of_neg (by rw [hn 0 y (by omega) rfl]; simp)]
      exact ih k (by simpa using h) fun m z hm hz => hn (m + 1) z (by omega) (by simpa using hz)
theorem find_none {α : Type} (p : α → Bool) (l : List α) (hn : ∀ (m : Nat) (y : α), l[m]? = some y → p y = false) : l.find? p = none := by
  rw [List.find?_eq_none]
  intro x hx
  obtain ⟨m, hm⟩ := List.mem_iff_getElem?.1 hx
  rw [hn m x hm]
  simp
end Wh
namespace Go.Proofs.YtmdpjahhhfajaaaDoor
open Go.RowKit Wh
def TabB (w : World) : Prop := 0 < w.heap.size ∧ w.rangeAt 0 0 bltC
theorem TabB.below {w w' : World} {B : Nat} (h : TabB w) (hb : Below B w w') (hB : w.heap.size ≤ B) : TabB w' :=
  ⟨Nat.lt_of_lt_of_le h.1 hb.size, fun j v hv => by rw [hb.cell (p := ⟨0, 0 + j, none⟩) (Nat.lt_of_lt_of_le h.1 hB)]; exact h.2 j v hv⟩
theorem blt_index (k : Nat) (p : ByteArray × Int) (h : bltP[k]? = some p) (W : World) : (Instr.index 108 (.agg bltC.toArray) (.int .i64 k)).run Tryd.prog W = .ok (.agg #[.string p.1, .int .i64 p.2]) W := by
  have hk : k < 5 := (List.getElem?_eq_some_iff.1 h).1
  have h5 : k = 0 ∨ k = 1 ∨ k = 2 ∨ k = 3 ∨ k = 4 := by omega
  rcases h5 with rfl | rfl | rfl | rfl | rfl <;> cases h
  · rfl
  · rfl
  · rfl
  · rfl
  · rfl
set_option maxHeartbeats 4000000 in
theorem builtinOp_any (s : ByteArray) (w : World) (hT : TabB w) : Calls Tryd.prog 54 #[.string s] w fun e w' => e = .returned (.tuple #[.int .i64 ((bltO s).map (·.2) |>.getD 0), .bool (bltO s).isSome]) ∧ Below w.heap.size w w' := by
  obtain ⟨O, hO⟩ : ∃ O, bltO s = O := ⟨_, rfl⟩
  rw [hO]
  have HO := Lib.hid hO
  clear hO
  have hr := hT.2
  obtain ⟨A, hA⟩ : ∃ A, bltC.toArray = A := ⟨_, rfl⟩
  have HI := Lib.hid (fun k p h W => blt_index k p h W)
  rw [hA] at HI
  go_enter Tryd.func54, Tryd.ntmps54
  go_wp2_with (with_reducible refine wpList_load_mid (op := Oper.mk (some 6) (Op.load 108 (.global 0)) _ _ _ none) rfl 108 (.global 0) rfl 0 0 ?hx bltC _ hr Tryd.underlying108 ?hd ?hi ?hk)
  case hx => rfl
  case hd => rfl
  case hi => kernel_rfl
  clear hA hr
  go_loopw [7] (fun iv wr => ∃ k : Nat, k ≤ 5 ∧ iv = .int .i64 k ∧ Hid (∀ (m : Nat) p, m < k → bltP[m]? = some p → eqS p.1 s = false) ∧ Below w.heap.size w wr) (fun iv _ => 5 - (intOf iv).toNat)
  case atStart => exact ⟨0, by omega, rfl, fun m p h => by omega, Below.refl _ _⟩
  case round =>
    obtain ⟨k, hk, rfl, HN, hbel⟩ := hrel
    have hsz := hbel.size
    by_cases hlt : k < 5
    · obtain ⟨p, hp⟩ : ∃ p, bltP[k]? = some p := ⟨_, List.getElem?_eq_getElem (by simpa [bltP] using hlt)⟩
      have hix := HI.out k p hp
      have FS := Lib.hid (find_step (fun p => eqS p.1 s) bltP k p hp (fun m y hm hy => HN.out m y hm hy))
      by_cases he : eqS p.1 s = true
      · obtain rfl : O = some p := by rw [← HO.out]; exact FS.out he
        have he2 : (p.1.toList == s.toList) = true := he
        obtain ⟨nm, op⟩ := p
        clear FS he hp HO
        have HB := Lib.hid hbel
        clear hbel
        go_wp2_with fail
        go_ret2
        exact ⟨rfl, HB.out.alloc hsz _⟩
      · have he1 : eqS p.1 s = false := by simpa using he
        have he2 : (p.1.toList == s.toList) = false := he1
        have HN2 : Hid (∀ (m : Nat) q, m < k + 1 → bltP[m]? = some q → eqS q.1 s = false) := by
          intro m q hm hq
          by_cases hmk : m = k
          · subst hmk
            rw [hp] at hq
            cases hq
            exact he1
          · exact HN.out m q (by omega) hq
        obtain ⟨nm, op⟩ := p
        have HB := Lib.hid hbel
        clear FS he he1 hp hbel
        go_wp2_with fail
        go_roundw
        case rel => exact ⟨k + 1, by omega, by go_num, HN2, HB.out.alloc hsz _⟩
        case measure => simp [intOf]; omega
    · obtain rfl : k = 5 := by omega
      obtain rfl : O = none := by rw [← HO.out]; exact find_none _ _ fun m y hy => HN.out m y (by have := (List.getElem?_eq_some_iff.1 hy).1; simpa [bltP] using this) hy
      have HB := Lib.hid hbel
      clear hbel
      go_wp2_with fail
      go_ret2
      exact ⟨rfl, HB.out⟩
end Go.Proofs.YtmdpjahhhfajaaaDoor
namespace Go.Proofs.YtmdpjahhhfajaaaDoor
open Go.RowKit Wh
set_option maxHeartbeats 4000000 in
theorem tReserved_any (s : ByteArray) (w : World) : Calls Tryd.prog 52 #[.string s] w fun e w' => e = .returned (.bool (resB s)) ∧ w = w' := by
  cases hb : resB s with
  | true =>
    have hm := resB_mem hb
    simp only [resL, List.mem_cons, List.not_mem_nil, or_false] at hm
    clear hb
    rcases hm with rfl | rfl | rfl | rfl | rfl | rfl | rfl | rfl
    all_goals
      go_enter Tryd.func52, Tryd.ntmps52
      go_wp2_with fail
      go_ret
      exact ⟨rfl, rfl⟩
  | false =>
    have q := fun t (ht : t ∈ resL) => ne_lit (p := resB) (resL_all t ht) hb
    have q0 := q ⟨#[97, 110, 100]⟩ (by simp [resL])
    rw [toList_bts (⟨#[97, 110, 100]⟩ : ByteArray)] at q0
    have q1 := q ⟨#[111, 114]⟩ (by simp [resL])
    rw [toList_bts (⟨#[111, 114]⟩ : ByteArray)] at q1
    have q2 := q ⟨#[110, 111, 116]⟩ (by simp [resL])
    rw [toList_bts (⟨#[110, 111, 116]⟩ : ByteArray)] at q2
    have q3 := q ⟨#[110, 117, 108, 108]⟩ (by simp [resL])
    rw [toList_bts (⟨#[110, 117, 108, 108]⟩ : ByteArray)] at q3
    have q4 := q ⟨#[116, 114, 117, 101]⟩ (by simp [resL])
    rw [toList_bts (⟨#[116, 114, 117, 101]⟩ : ByteArray)] at q4
    have q5 := q ⟨#[102, 97, 108, 115, 101]⟩ (by simp [resL])
    rw [toList_bts (⟨#[102, 97, 108, 115, 101]⟩ : ByteArray)] at q5
    have q6 := q ⟨#[98, 121]⟩ (by simp [resL])
    rw [toList_bts (⟨#[98, 121]⟩ : ByteArray)] at q6
    have q7 := q ⟨#[115, 101, 108, 102]⟩ (by simp [resL])
    rw [toList_bts (⟨#[115, 101, 108, 102]⟩ : ByteArray)] at q7
    simp only [bts] at q0 q1 q2 q3 q4 q5 q6 q7
    clear q hb
    go_enter Tryd.func52, Tryd.ntmps52
    go_wp2_with fail
    go_ret
    exact ⟨rfl, rfl⟩
end Go.Proofs.YtmdpjahhhfajaaaDoor
