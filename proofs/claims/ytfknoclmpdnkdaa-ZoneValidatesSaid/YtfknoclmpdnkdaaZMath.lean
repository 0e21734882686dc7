/-
  Zones, plainly: which are valid, the offset, the day, the first instant of a day. No program.
-/
set_option linter.unusedVariables false
namespace Wh

/-- The errors of the shifts: b is the instant of the shift before. -/
def goE (b : Int) : List (Int × Int) → Int
  | [] => 0
  | s :: l => if s.1 < 1 ∨ 575999999 < s.1 ∨ s.2 < -840 ∨ 840 < s.2 then 1 else if s.1 ≤ b then 14 else goE s.1 l

/-- The error of a zone. -/
def zoneE (o : Int) (l : List (Int × Int)) : Int :=
  if 64 < l.length then 2 else if o < -840 ∨ 840 < o then 1 else goE 0 l

/-- A valid zone. -/
def GoodZ (b : Int) (l : List (Int × Int)) : Prop := (∀ s ∈ l, b < s.1 ∧ s.1 ≤ 575999999 ∧ -840 ≤ s.2 ∧ s.2 ≤ 840) ∧ l.Pairwise (fun s u => s.1 < u.1)

theorem goE_good : ∀ (l : List (Int × Int)) (b : Int), goE b l = 0 → 0 ≤ b → GoodZ b l
  | [], b, _, _ => ⟨by simp, List.Pairwise.nil⟩
  | s :: l, b, h, hb => by
    unfold goE at h
    split at h
    · exact absurd h (by decide)
    · split at h
      · exact absurd h (by decide)
      · obtain ⟨h1, h2⟩ := goE_good l s.1 h (by omega)
        refine ⟨fun u hu => ?_, List.Pairwise.cons (fun u hu => (h1 u hu).1) h2⟩
        rcases List.mem_cons.1 hu with rfl | hu
        · omega
        · have := h1 u hu
          omega

/-- The offset at the instant t: o is the offset before the shifts l. -/
def offZ (o : Int) (l : List (Int × Int)) (t : Int) : Int := l.foldl (fun o s => if s.1 ≤ t then s.2 else o) o

theorem offZ_bd : ∀ (l : List (Int × Int)) (o t : Int), (∀ s ∈ l, -840 ≤ s.2 ∧ s.2 ≤ 840) → -840 ≤ o → o ≤ 840 → -840 ≤ offZ o l t ∧ offZ o l t ≤ 840
  | [], o, t, _, h0, h1 => ⟨h0, h1⟩
  | s :: l, o, t, h, h0, h1 => by
    show -840 ≤ offZ (if s.1 ≤ t then s.2 else o) l t ∧ offZ (if s.1 ≤ t then s.2 else o) l t ≤ 840
    have hs := h s List.mem_cons_self
    exact offZ_bd l _ t (fun u hu => h u (List.mem_cons_of_mem _ hu)) (by split <;> omega) (by split <;> omega)

theorem offZ_next {l : List (Int × Int)} {k : Nat} {s : Int × Int} (h : l[k]? = some s) (o t : Int) : offZ o (l.take (k + 1)) t = if s.1 ≤ t then s.2 else offZ o (l.take k) t := by
  unfold offZ
  rw [List.take_add_one, h]
  simp [List.foldl_append]

/-- All shifts are later: the first offset holds. -/
theorem offZ_before : ∀ (l : List (Int × Int)) (o t : Int), (∀ s ∈ l, t < s.1) → offZ o l t = o
  | [], _, _, _ => rfl
  | s :: l, o, t, h => by
    show offZ (if s.1 ≤ t then s.2 else o) l t = o
    have := h s List.mem_cons_self
    rw [if_neg (by omega)]
    exact offZ_before l o t fun u hu => h u (List.mem_cons_of_mem _ hu)

/-- No shift at u + 1: the offset stays. -/
theorem offZ_stays : ∀ (l : List (Int × Int)) (o u : Int), (∀ s ∈ l, s.1 ≠ u + 1) → offZ o l (u + 1) = offZ o l u
  | [], _, _, _ => rfl
  | s :: l, o, u, h => by
    show offZ (if s.1 ≤ u + 1 then s.2 else o) l (u + 1) = offZ (if s.1 ≤ u then s.2 else o) l u
    have hs := h s List.mem_cons_self
    have e : (if s.1 ≤ u + 1 then s.2 else o) = (if s.1 ≤ u then s.2 else o) := by
      by_cases h1 : s.1 ≤ u
      · rw [if_pos h1, if_pos (by omega)]
      · rw [if_neg h1, if_neg (by omega)]
    rw [e]
    exact offZ_stays l _ u fun v hv => h v (List.mem_cons_of_mem _ hv)

/-- The local day number. -/
def locZ (o : Int) (l : List (Int × Int)) (t : Int) : Int := (t + offZ o l t) / 1440

/-- The day of an instant: the greatest of 0, the local day number, and those of the last instants before the shifts. -/
def dayZn (o : Int) (l : List (Int × Int)) (t : Int) : Int := l.foldl (fun d s => if s.1 ≤ t then max d (locZ o l (s.1 - 1)) else d) (max 0 (locZ o l t))

theorem foldmax_le {α : Type} (p : α → Prop) [DecidablePred p] (f : α → Int) : ∀ (l : List α) (d c : Int), (l.foldl (fun d s => if p s then max d (f s) else d) d ≤ c ↔ d ≤ c ∧ ∀ s ∈ l, p s → f s ≤ c)
  | [], d, c => by simp
  | s :: l, d, c => by
    show (l.foldl (fun d s => if p s then max d (f s) else d) (if p s then max d (f s) else d) ≤ c ↔ _)
    rw [foldmax_le p f l _ c]
    constructor
    · rintro ⟨h1, h2⟩
      refine ⟨by split at h1 <;> omega, fun u hu hp => ?_⟩
      rcases List.mem_cons.1 hu with rfl | hu
      · rw [if_pos hp] at h1; omega
      · exact h2 u hu hp
    · rintro ⟨h1, h2⟩
      refine ⟨?_, fun u hu => h2 u (List.mem_cons_of_mem _ hu)⟩
      split
      · have := h2 s List.mem_cons_self ‹_›; omega
      · exact h1

theorem dayZn_le (o : Int) (l : List (Int × Int)) (t c : Int) : dayZn o l t ≤ c ↔ (0 ≤ c ∧ locZ o l t ≤ c) ∧ ∀ s ∈ l, s.1 ≤ t → locZ o l (s.1 - 1) ≤ c := by
  unfold dayZn
  rw [foldmax_le (fun s : Int × Int => s.1 ≤ t) (fun s => locZ o l (s.1 - 1)) l]
  rw [Int.max_le]

/-- It is the greatest of 0 and the local day numbers of all instants up to t. -/
theorem dayZn_all (o : Int) (l : List (Int × Int)) (hl : ∀ s ∈ l, 1 ≤ s.1) (t c : Int) (ht : 0 ≤ t) : dayZn o l t ≤ c ↔ 0 ≤ c ∧ ∀ u, 0 ≤ u → u ≤ t → locZ o l u ≤ c := by
  rw [dayZn_le]
  constructor
  · rintro ⟨⟨h0, h1⟩, h2⟩
    refine ⟨h0, ?_⟩
    suffices h : ∀ (n : Nat) (u : Int), 0 ≤ u → u + n = t → locZ o l u ≤ c from fun u hu hut => h (t - u).toNat u hu (by omega)
    intro n
    induction n with
    | zero =>
      intro u hu e
      obtain rfl : u = t := by omega
      exact h1
    | succ n ih =>
      intro u hu e
      by_cases hs : ∃ s ∈ l, s.1 = u + 1
      · obtain ⟨s, hm, hs⟩ := hs
        have := h2 s hm (by omega)
        rwa [show s.1 - 1 = u by omega] at this
      · have hst := offZ_stays l o u (fun s hm he => hs ⟨s, hm, he⟩)
        have := ih (u + 1) (by omega) (by omega)
        unfold locZ at this ⊢
        rw [hst] at this
        omega
  · rintro ⟨h0, h1⟩
    refine ⟨⟨h0, h1 t ht (Int.le_refl _)⟩, fun s hm hs => h1 _ ?_ (by omega)⟩
    have := hl s hm
    omega

theorem dayZn_mono (o : Int) (l : List (Int × Int)) (hl : ∀ s ∈ l, 1 ≤ s.1) {t u : Int} (ht : 0 ≤ t) (h : t ≤ u) : dayZn o l t ≤ dayZn o l u := by
  rw [dayZn_all o l hl t _ ht]
  have := (dayZn_all o l hl u _ (by omega)).1 (Int.le_refl (dayZn o l u))
  exact ⟨this.1, fun v h0 h1 => this.2 v h0 (by omega)⟩

theorem dayZn_low (o : Int) (l : List (Int × Int)) (t : Int) : 0 ≤ dayZn o l t := ((dayZn_le o l t _).1 (Int.le_refl _)).1.1

theorem dayZn_loc (o : Int) (l : List (Int × Int)) (t : Int) : locZ o l t ≤ dayZn o l t := ((dayZn_le o l t _).1 (Int.le_refl _)).1.2

theorem dayZn_high {o : Int} {l : List (Int × Int)} (hl : ∀ s ∈ l, 1 ≤ s.1 ∧ -840 ≤ s.2 ∧ s.2 ≤ 840) (h0 : -840 ≤ o) (h1 : o ≤ 840) {t : Int} (ht : 0 ≤ t) : dayZn o l t ≤ (t + 840) / 1440 := by
  rw [dayZn_all o l (fun s hs => (hl s hs).1) t _ ht]
  refine ⟨by omega, fun u hu hut => ?_⟩
  have := offZ_bd l o u (fun s hs => (hl s hs).2) h0 h1
  unfold locZ
  omega

/-- What the program keeps while it goes through the shifts. -/
def stepD (d o : Int) : List (Int × Int) → Int → Int
  | [], t => max d (max 0 (t + o) / 1440)
  | s :: l, t => if t < s.1 then max d (max 0 (t + o) / 1440) else stepD (max d (max 0 (s.1 - 1 + o) / 1440)) s.2 l t

theorem max_div (x c : Int) : max 0 x / 1440 ≤ c ↔ 0 ≤ c ∧ x / 1440 ≤ c := by omega

theorem stepD_le : ∀ (l : List (Int × Int)) (d o t c : Int), (l.Pairwise fun s u => s.1 < u.1) →
    (stepD d o l t ≤ c ↔ d ≤ c ∧ (0 ≤ c ∧ locZ o l t ≤ c) ∧ ∀ s ∈ l, s.1 ≤ t → locZ o l (s.1 - 1) ≤ c)
  | [], d, o, t, c, _ => by
    show max d (max 0 (t + o) / 1440) ≤ c ↔ _
    rw [Int.max_le, max_div]
    simp [locZ, offZ]
  | s :: l, d, o, t, c, hp => by
    obtain ⟨hp1, hp2⟩ := List.pairwise_cons.1 hp
    unfold stepD
    by_cases h : t < s.1
    · rw [if_pos h, Int.max_le, max_div]
      have e : offZ o (s :: l) t = o := offZ_before _ _ _ fun u hu => by
        rcases List.mem_cons.1 hu with rfl | hu
        · exact h
        · have := hp1 u hu; omega
      unfold locZ
      rw [e]
      refine ⟨fun ⟨h1, h2⟩ => ⟨h1, h2, fun u hu hut => ?_⟩, fun ⟨h1, h2, _⟩ => ⟨h1, h2⟩⟩
      rcases List.mem_cons.1 hu with rfl | hu
      · omega
      · have := hp1 u hu; omega
    · rw [if_neg h, stepD_le l _ s.2 t c hp2, Int.max_le, max_div]
      have e1 : ∀ u, s.1 ≤ u → locZ o (s :: l) u = locZ s.2 l u := fun u hu => by
        have : offZ o (s :: l) u = offZ s.2 l u := by
          show offZ (if s.1 ≤ u then s.2 else o) l u = _
          rw [if_pos hu]
        unfold locZ
        rw [this]
      have e2 : locZ o (s :: l) (s.1 - 1) = (s.1 - 1 + o) / 1440 := by
        have : offZ o (s :: l) (s.1 - 1) = o := offZ_before _ _ _ fun u hu => by
          rcases List.mem_cons.1 hu with rfl | hu
          · omega
          · have := hp1 u hu; omega
        unfold locZ
        rw [this]
      rw [e1 t (by omega)]
      constructor
      · rintro ⟨⟨h1, h2, h3⟩, h4, h5⟩
        refine ⟨h1, h4, fun u hu hut => ?_⟩
        rcases List.mem_cons.1 hu with rfl | hu
        · rw [e2]; exact h3
        · have := hp1 u hu
          rw [e1 _ (by omega)]
          exact h5 u hu hut
      · rintro ⟨h1, h4, h5⟩
        have h6 := h5 s List.mem_cons_self (by omega)
        rw [e2] at h6
        refine ⟨⟨h1, h4.1, h6⟩, h4, fun u hu hut => ?_⟩
        have := hp1 u hu
        have h7 := h5 u (List.mem_cons_of_mem _ hu) hut
        rwa [e1 _ (by omega)] at h7

theorem stepD_day {o : Int} {l : List (Int × Int)} (hp : l.Pairwise fun s u => s.1 < u.1) (t : Int) : stepD 0 o l t = dayZn o l t := by
  have h : ∀ c, stepD 0 o l t ≤ c ↔ dayZn o l t ≤ c := fun c => by
    rw [stepD_le l 0 o t c hp, dayZn_le]
    exact ⟨fun h => h.2, fun h => ⟨h.1.1, h⟩⟩
  have h1 := (h _).1 (Int.le_refl _)
  have h2 := (h _).2 (Int.le_refl _)
  omega

/-- s is the first of 0 .. n - 1 with f at least d, or n if there is none. -/
def FirstZ (f : Int → Int) (d : Int) (n s : Nat) : Prop := s ≤ n ∧ (∀ t : Nat, t < s → f t < d) ∧ (s < n → d ≤ f s)

theorem firstZ_is (f : Int → Int) (d : Int) : ∀ n, ∃ s, FirstZ f d n s
  | 0 => ⟨0, Nat.le_refl _, fun t h => absurd h (Nat.not_lt_zero _), fun h => absurd h (Nat.not_lt_zero _)⟩
  | n + 1 => by
    obtain ⟨s, h1, h2, h3⟩ := firstZ_is f d n
    by_cases hs : s < n
    · exact ⟨s, by omega, h2, fun _ => h3 hs⟩
    · obtain rfl : s = n := by omega
      by_cases hd : d ≤ f s
      · exact ⟨s, by omega, h2, fun _ => hd⟩
      · refine ⟨s + 1, by omega, fun t ht => ?_, fun h => absurd h (by omega)⟩
        by_cases he : t = s
        · subst he; omega
        · exact h2 t (by omega)

theorem FirstZ.le_iff {f : Int → Int} {d : Int} {n s : Nat} (h : FirstZ f d n s) (hm : ∀ a b : Nat, a ≤ b → f a ≤ f b) {t : Nat} (ht : t < n) : d ≤ f t ↔ s ≤ t := by
  obtain ⟨h1, h2, h3⟩ := h
  constructor
  · intro hd
    by_cases hc : s ≤ t
    · exact hc
    · have := h2 t (by omega); omega
  · intro hst
    have := h3 (by omega)
    have := hm s t hst
    omega

end Wh
