/- Times' contents in plain words: dates digit by digit, with which byte a content is wrong. They hold of lists of numbers alone, under no condition on the program. -/
import Derived.Test.YtnlhpldjficecaaBytes
namespace Go.Proofs.Ytnlhpldjficecaa
open Go.PlainAid
set_option linter.unusedVariables false
/-- A list's number at a place. -/
def g (l : List Int) (i : Nat) : Int := l.getD i 0
theorem g_at {l : List Int} {i : Nat} (h : i < l.length) : g l i = l[i] := by unfold g; rw [List.getD_eq_getElem?_getD, List.getElem?_eq_getElem h]; rfl
theorem g_end {l : List Int} {i : Nat} (h : l.length ≤ i) : g l i = 0 := by unfold g; rw [List.getD_eq_getElem?_getD, List.getElem?_eq_none h]; rfl
theorem bt_g (s : ByteArray) (i : Nat) : bt s i = g (bl s) i := by
  by_cases h : i < s.size
  · rw [g_at (by rw [bl_length]; exact h), bl_get]
  · rw [g_end (by rw [bl_length]; omega), bt_end s (by omega)]
theorem g_left {l m : List Int} {i : Nat} (h : i < l.length) : g (l ++ m) i = g l i := by
  unfold g; rw [List.getD_eq_getElem?_getD, List.getElem?_append_left h, List.getD_eq_getElem?_getD]
theorem g_right {l m : List Int} {i : Nat} (h : l.length ≤ i) : g (l ++ m) i = g m (i - l.length) := by
  unfold g; rw [List.getD_eq_getElem?_getD, List.getElem?_append_right h, List.getD_eq_getElem?_getD]
theorem g_take {l : List Int} {n i : Nat} (h : i < n) : g (l.take n) i = g l i := by
  unfold g; rw [List.getD_eq_getElem?_getD, List.getElem?_take_of_lt h, List.getD_eq_getElem?_getD]
theorem g_last (l : List Int) (x : Int) : g (l ++ [x]) l.length = x := by rw [g_right (Nat.le_refl _), Nat.sub_self]; rfl
/-- A digit. -/
def isD (x : Int) : Prop := 48 ≤ x ∧ x ≤ 57
instance (x : Int) : Decidable (isD x) := by unfold isD; infer_instance
/-- The number of two digits. -/
def n2 (l : List Int) (i : Nat) : Int := 10 * (g l i - 48) + (g l (i + 1) - 48)
/-- How many days a month has. -/
def dysI (y m : Int) : Int :=
  if y < 0 ∨ 9999 < y then 0
  else if m = 1 ∨ m = 3 ∨ m = 5 ∨ m = 7 ∨ m = 8 ∨ m = 10 ∨ m = 12 then 31
  else if m = 4 ∨ m = 6 ∨ m = 9 ∨ m = 11 then 30
  else if m = 2 then (if y % 400 = 0 ∨ (y % 4 = 0 ∧ y % 100 ≠ 0) then 29 else 28)
  else 0
theorem dys_range (y m : Int) : 0 ≤ dysI y m ∧ dysI y m ≤ 31 := by
  unfold dysI
  repeat' split
  all_goals omega
theorem dys_least {y m : Int} (h0 : 0 ≤ y) (h1 : y ≤ 9999) (m0 : 1 ≤ m) (m1 : m ≤ 12) : 28 ≤ dysI y m := by
  unfold dysI
  rw [if_neg (by omega)]
  repeat' split
  all_goals omega
def yr (l : List Int) : Int := 100 * n2 l 0 + n2 l 2
/-- A date's sign at a place is right, if those ahead of it are. -/
def stepAt (l : List Int) (i : Nat) : Prop :=
  isD (g l i) ∧ (i = 4 → g l 4 ≤ 49) ∧ (i = 5 → 1 ≤ n2 l 4 ∧ n2 l 4 ≤ 12) ∧ (i = 6 → g l 6 - 48 ≤ dysI (yr l) (n2 l 4) / 10) ∧ (i = 7 → 1 ≤ n2 l 6 ∧ n2 l 6 ≤ dysI (yr l) (n2 l 4))
    ∧ (i = 8 → g l 8 ≤ 50) ∧ (i = 9 → n2 l 8 < 24) ∧ (i = 10 → g l 10 ≤ 53) ∧ (i = 12 → g l 12 ≤ 53)
instance (l : List Int) (i : Nat) : Decidable (stepAt l i) := by unfold stepAt; infer_instance
theorem n2_congr {l m : List Int} {j : Nat} (h : g l j = g m j) (h2 : g l (j + 1) = g m (j + 1)) : n2 l j = n2 m j := by unfold n2; rw [h, h2]
theorem yr_congr {l m : List Int} (h : ∀ j, j ≤ 3 → g l j = g m j) : yr l = yr m := by
  unfold yr; rw [n2_congr (h 0 (by decide)) (h 1 (by decide)), n2_congr (h 2 (by decide)) (h 3 (by decide))]
theorem stepAt_imp {l m : List Int} {i : Nat} (h : ∀ j, j ≤ i → g l j = g m j) (hs : stepAt l i) : stepAt m i := by
  obtain ⟨h0, h4, h5, h6, h7, h8, h9, h10, h12⟩ := hs
  refine ⟨by rw [← h i (Nat.le_refl _)]; exact h0, fun e => ?_, fun e => ?_, fun e => ?_, fun e => ?_, fun e => ?_, fun e => ?_, fun e => ?_, fun e => ?_⟩
  · subst e; rw [← h 4 (by decide)]; exact h4 rfl
  · subst e; rw [← n2_congr (h 4 (by decide)) (h 5 (by decide))]; exact h5 rfl
  · subst e; rw [← h 6 (by decide), ← yr_congr (fun j hj => h j (by omega)), ← n2_congr (h 4 (by decide)) (h 5 (by decide))]; exact h6 rfl
  · subst e; rw [← n2_congr (h 6 (by decide)) (h 7 (by decide)), ← yr_congr (fun j hj => h j (by omega)), ← n2_congr (h 4 (by decide)) (h 5 (by decide))]; exact h7 rfl
  · subst e; rw [← h 8 (by decide)]; exact h8 rfl
  · subst e; rw [← n2_congr (h 8 (by decide)) (h 9 (by decide))]; exact h9 rfl
  · subst e; rw [← h 10 (by decide)]; exact h10 rfl
  · subst e; rw [← h 12 (by decide)]; exact h12 rfl
theorem stepAt_congr {l m : List Int} {i : Nat} (h : ∀ j, j ≤ i → g l j = g m j) : stepAt l i ↔ stepAt m i := ⟨stepAt_imp h, stepAt_imp (fun j hj => (h j hj).symm)⟩
def okD (l : List Int) : Prop := ∀ i, i < l.length → stepAt l i
instance (l : List Int) : Decidable (okD l) := by unfold okD; infer_instance
theorem okD_snoc (l : List Int) (x : Int) : okD (l ++ [x]) ↔ okD l ∧ stepAt (l ++ [x]) l.length := by
  unfold okD
  rw [List.length_append, List.length_singleton]
  constructor
  · intro h
    exact ⟨fun i hi => (stepAt_congr (fun j hj => g_left (by omega))).1 (h i (by omega)), h _ (by omega)⟩
  · rintro ⟨h1, h2⟩ i hi
    by_cases hl : i < l.length
    · exact (stepAt_congr (fun j hj => g_left (by omega))).2 (h1 i hl)
    · obtain rfl : i = l.length := by omega
      exact h2
/-! ### A whole date -/
def dateP (l : List Int) : Prop := l.length = 14 ∧ okD l
instance (l : List Int) : Decidable (dateP l) := by unfold dateP; infer_instance
theorem dys_month {y m : Int} (h : 1 ≤ dysI y m) : 1 ≤ m ∧ m ≤ 12 ∧ 0 ≤ y ∧ y ≤ 9999 := by
  unfold dysI at h
  by_cases h0 : y < 0 ∨ 9999 < y
  · rw [if_pos h0] at h; omega
  · rw [if_neg h0] at h
    by_cases h1 : m = 1 ∨ m = 3 ∨ m = 5 ∨ m = 7 ∨ m = 8 ∨ m = 10 ∨ m = 12
    · omega
    · rw [if_neg h1] at h
      by_cases h2 : m = 4 ∨ m = 6 ∨ m = 9 ∨ m = 11
      · omega
      · rw [if_neg h2] at h
        by_cases h3 : m = 2
        · omega
        · rw [if_neg h3] at h; omega
/-- The reference's way to a date. -/
theorem date_iff (l : List Int) (hl : l.length = 14) : okD l ↔ (∀ i, i < 14 → isD (g l i)) ∧ 1 ≤ n2 l 6 ∧ n2 l 6 ≤ dysI (yr l) (n2 l 4) ∧ n2 l 8 < 24 ∧ n2 l 10 < 60 ∧ n2 l 12 < 60 := by
  constructor
  · intro h
    have hd : ∀ i, i < 14 → isD (g l i) := fun i hi => (h i (by omega)).1
    have h7 := (h 7 (by omega)).2.2.2.2.1 rfl
    have h9 := (h 9 (by omega)).2.2.2.2.2.2.1 rfl
    have h10 := (h 10 (by omega)).2.2.2.2.2.2.2.1 rfl
    have h12 := (h 12 (by omega)).2.2.2.2.2.2.2.2 rfl
    have d11 := hd 11 (by decide)
    have d13 := hd 13 (by decide)
    refine ⟨hd, h7.1, h7.2, h9, ?_, ?_⟩
    · have := d11.2; simp only [n2, Nat.reduceAdd]; omega
    · have := d13.2; simp only [n2, Nat.reduceAdd]; omega
  · rintro ⟨hd, h1, h2, h8, h10, h12⟩ i hi
    have hm := dys_month (y := yr l) (m := n2 l 4) (by omega)
    generalize hD : dysI (yr l) (n2 l 4) = D at *
    have d4 := hd 4 (by decide)
    have d5 := hd 5 (by decide)
    have d6 := hd 6 (by decide)
    have d7 := hd 7 (by decide)
    have d8 := hd 8 (by decide)
    have d9 := hd 9 (by decide)
    have d10 := hd 10 (by decide)
    have d11 := hd 11 (by decide)
    have d12 := hd 12 (by decide)
    have d13 := hd 13 (by decide)
    unfold isD at d4 d5 d6 d7 d8 d9 d10 d11 d12 d13
    have e4 : n2 l 4 = 10 * (g l 4 - 48) + (g l 5 - 48) := rfl
    have e6 : n2 l 6 = 10 * (g l 6 - 48) + (g l 7 - 48) := rfl
    have e8 : n2 l 8 = 10 * (g l 8 - 48) + (g l 9 - 48) := rfl
    have e10 : n2 l 10 = 10 * (g l 10 - 48) + (g l 11 - 48) := rfl
    have e12 : n2 l 12 = 10 * (g l 12 - 48) + (g l 13 - 48) := rfl
    refine ⟨hd i (by omega), fun e => ?_, fun e => ?_, fun e => ?_, fun e => ?_, fun e => ?_, fun e => ?_, fun e => ?_, fun e => ?_⟩
    · omega
    · exact ⟨hm.1, hm.2.1⟩
    · rw [hD]; omega
    · rw [hD]; exact ⟨h1, h2⟩
    · omega
    · exact h8
    · omega
    · omega
/-! ### What may come -/
theorem n2_snoc (L : List Int) (x : Int) {j : Nat} (h : j + 1 < L.length) : n2 (L ++ [x]) j = n2 L j := n2_congr (g_left (by omega)) (g_left h)
theorem n2_snoc_last (L : List Int) (x : Int) {j : Nat} (h : j + 1 = L.length) : n2 (L ++ [x]) j = 10 * (g L j - 48) + (x - 48) := by
  unfold n2; rw [g_left (by omega), show j + 1 = L.length from h, g_last]
theorem yr_snoc (L : List Int) (x : Int) (h : 4 ≤ L.length) : yr (L ++ [x]) = yr L := yr_congr (fun j hj => g_left (by omega))
theorem yr_range {L : List Int} (h : ∀ i, i < 4 → isD (g L i)) : 0 ≤ yr L ∧ yr L ≤ 9999 := by
  have h0 := h 0 (by decide)
  have h1 := h 1 (by decide)
  have h2 := h 2 (by decide)
  have h3 := h 3 (by decide)
  unfold isD at *
  simp only [yr, n2, Nat.zero_add, Nat.reduceAdd]
  omega
/-- Some digit may come, behind the month's first one: 0 or 1; and 0 behind the day. -/
theorem step_wit (L : List Int) (h5 : 5 ≤ L.length) (h13 : L.length ≤ 13) (hL : ∀ i, i < L.length → stepAt L i) :
    (stepAt (L ++ [48]) L.length ∨ stepAt (L ++ [49]) L.length) ∧ (8 ≤ L.length → stepAt (L ++ [48]) L.length) := by
  have hy := yr_range (fun i hi => (hL i (by omega)).1)
  have s4 := (hL 4 (by omega)).2.1 rfl
  have i4 := (hL 4 (by omega)).1
  have zero : ∀ x : Int, isD x → L.length ≠ 5 → L.length ≠ 7 → (L.length = 9 → g L 8 ≤ 49 ∨ x ≤ 51) → (L.length = 6 → x = 48) → (L.length = 8 → x ≤ 50) → (L.length = 10 ∨ L.length = 12 → x ≤ 53) → stepAt (L ++ [x]) L.length := by
    intro x hx n5 n7 c9 c6 c8 c10
    refine ⟨by rw [g_last]; exact hx, fun e => by omega, fun e => absurd e n5, fun e => ?_, fun e => absurd e n7, fun e => ?_, fun e => ?_, fun e => ?_, fun e => ?_⟩
    · have hx := c6 e
      have hD := dys_range (yr (L ++ [x])) (n2 (L ++ [x]) 4)
      rw [show (6 : Nat) = L.length from e.symm, g_last]; omega
    · rw [show (8 : Nat) = L.length from e.symm, g_last]; exact c8 e
    · rw [n2_snoc_last L x (show 8 + 1 = L.length from e.symm)]
      have s8 := (hL 8 (by omega)).2.2.2.2.2.1 rfl
      have := c9 e
      have hx2 := hx.2
      omega
    · rw [show (10 : Nat) = L.length from e.symm, g_last]; exact c10 (.inl e)
    · rw [show (12 : Nat) = L.length from e.symm, g_last]; exact c10 (.inr e)
  have z48 : L.length ≠ 5 → L.length ≠ 7 → stepAt (L ++ [48]) L.length := fun n5 n7 => zero 48 (by decide) n5 n7 (fun _ => .inr (by decide)) (fun _ => rfl) (fun _ => by decide) (fun _ => by decide)
  refine ⟨?_, fun h8 => z48 (by omega) (by omega)⟩
  by_cases n5 : L.length = 5
  · have month : ∀ x : Int, isD x → (1 ≤ 10 * (g L 4 - 48) + (x - 48) ∧ 10 * (g L 4 - 48) + (x - 48) ≤ 12) → stepAt (L ++ [x]) L.length := by
      intro x hx hm
      refine ⟨by rw [g_last]; exact hx, fun e => by omega, fun e => by rw [n2_snoc_last L x (show 4 + 1 = L.length from n5.symm)]; exact hm, fun e => by omega, fun e => by omega, fun e => by omega, fun e => by omega, fun e => by omega, fun e => by omega⟩
    have := i4.1
    by_cases h : g L 4 = 48
    · exact .inr (month 49 (by decide) (by omega))
    · exact .inl (month 48 (by decide) (by omega))
  · by_cases n7 : L.length = 7
    · have s5 := (hL 5 (by omega)).2.2.1 rfl
      have s6 := (hL 6 (by omega)).2.2.2.1 rfl
      have i6 := (hL 6 (by omega)).1.1
      have hD := dys_least hy.1 hy.2 s5.1 s5.2
      have day : ∀ x : Int, isD x → (1 ≤ 10 * (g L 6 - 48) + (x - 48) ∧ 10 * (g L 6 - 48) + (x - 48) ≤ dysI (yr L) (n2 L 4)) → stepAt (L ++ [x]) L.length := by
        intro x hx hm
        refine ⟨by rw [g_last]; exact hx, fun e => by omega, fun e => by omega, fun e => by omega, fun e => ?_, fun e => by omega, fun e => by omega, fun e => by omega, fun e => by omega⟩
        rw [n2_snoc_last L x (show 6 + 1 = L.length from n7.symm), yr_snoc L x (by omega), n2_snoc L x (by omega)]; exact hm
      generalize dysI (yr L) (n2 L 4) = D at *
      by_cases h : g L 6 = 48
      · exact .inr (day 49 (by decide) (by omega))
      · exact .inl (day 48 (by decide) (by omega))
    · exact .inl (z48 n5 n7)
/-! ### Contents -/
def cent (x : Int) : List Int := if x < 53 then [50, 48] else [49, 57]
theorem cent_length (x : Int) : (cent x).length = 2 := by unfold cent; split <;> rfl
theorem cent_isD (x : Int) (i : Nat) (h : i < 2) : isD (g (cent x) i) := by
  unfold cent
  rcases (by omega : i = 0 ∨ i = 1) with rfl | rfl <;> split <;> decide
/-- The date's front that a content's front tells. -/
def fullP (tag : Int) (l : List Int) : List Int := if tag = 24 then l else cent (g l 0) ++ l
def offT (tag : Int) : Nat := if tag = 24 then 0 else 2
def typ (tag n : Int) : Prop := (tag = 23 ∧ n = 13) ∨ (tag = 24 ∧ n = 15)
instance (tag n : Int) : Decidable (typ tag n) := by unfold typ; infer_instance
/-- A year's sign at a place is right, if those ahead of it are: from 2050 on. -/
def yearAt (l : List Int) (i : Nat) : Prop := (i = 0 → 50 ≤ g l 0) ∧ (i = 2 → 50 < g l 0 ∨ 48 < g l 1 ∨ 53 ≤ g l 2)
instance (l : List Int) (i : Nat) : Decidable (yearAt l i) := by unfold yearAt; infer_instance
def stepC (tag n : Int) (l : List Int) (i : Nat) : Prop :=
  ((i : Int) = n - 1 → g l i = 90) ∧ ((i : Int) ≠ n - 1 → stepAt (fullP tag l) (i + offT tag) ∧ (tag = 24 → yearAt l i))
instance (tag n : Int) (l : List Int) (i : Nat) : Decidable (stepC tag n l i) := by unfold stepC; infer_instance
theorem fullP_congr {tag : Int} {l m : List Int} {i : Nat} (h : ∀ j, j ≤ i → g l j = g m j) : ∀ j, j ≤ i + offT tag → g (fullP tag l) j = g (fullP tag m) j := by
  intro j hj
  unfold fullP
  unfold offT at hj
  by_cases ht : tag = 24
  · rw [if_pos ht, if_pos ht]; rw [if_pos ht] at hj; exact h j (by omega)
  · rw [if_neg ht, if_neg ht, h 0 (by omega)]
    rw [if_neg ht] at hj
    by_cases h2 : j < 2
    · rw [g_left (by rw [cent_length]; exact h2), g_left (by rw [cent_length]; exact h2)]
    · rw [g_right (by rw [cent_length]; omega), g_right (by rw [cent_length]; omega), cent_length]; exact h _ (by omega)
theorem yearAt_congr {l m : List Int} {i : Nat} (h : ∀ j, j ≤ i → g l j = g m j) : yearAt l i ↔ yearAt m i := by
  unfold yearAt
  refine and_congr ⟨fun hh e => ?_, fun hh e => ?_⟩ ⟨fun hh e => ?_, fun hh e => ?_⟩
  all_goals
    subst e
    have hh := hh rfl
  · rw [← h 0 (by decide)]; exact hh
  · rw [h 0 (by decide)]; exact hh
  · rw [← h 0 (by decide), ← h 1 (by decide), ← h 2 (by decide)]; exact hh
  · rw [h 0 (by decide), h 1 (by decide), h 2 (by decide)]; exact hh
theorem stepC_congr {tag n : Int} {l m : List Int} {i : Nat} (h : ∀ j, j ≤ i → g l j = g m j) : stepC tag n l i ↔ stepC tag n m i := by
  unfold stepC
  rw [h i (Nat.le_refl _), stepAt_congr (fullP_congr (tag := tag) h), yearAt_congr h]
def okC (tag n : Int) (l : List Int) : Prop := ∀ i, i < l.length → stepC tag n l i
instance (tag n : Int) (l : List Int) : Decidable (okC tag n l) := by unfold okC; infer_instance
theorem okC_snoc (tag n : Int) (l : List Int) (x : Int) : okC tag n (l ++ [x]) ↔ okC tag n l ∧ stepC tag n (l ++ [x]) l.length := by
  unfold okC
  rw [List.length_append, List.length_singleton]
  constructor
  · intro h
    exact ⟨fun i hi => (stepC_congr (fun j hj => g_left (by omega))).1 (h i (by omega)), h _ (by omega)⟩
  · rintro ⟨h1, h2⟩ i hi
    by_cases hl : i < l.length
    · exact (stepC_congr (fun j hj => g_left (by omega))).2 (h1 i hl)
    · obtain rfl : i = l.length := by omega
      exact h2
theorem okC_take (tag n : Int) (l : List Int) (k : Nat) (hk : k ≤ l.length) : okC tag n (l.take k) ↔ ∀ i, i < k → stepC tag n l i := by
  unfold okC
  rw [List.length_take, Nat.min_eq_left hk]
  exact ⟨fun h i hi => (stepC_congr (fun j hj => g_take (by omega))).1 (h i hi), fun h i hi => (stepC_congr (fun j hj => g_take (by omega))).2 (h i hi)⟩
/-- These may be a content's first ones. -/
def canP (tag n : Int) (l : List Int) : Prop := typ tag n ∧ (l.length : Int) ≤ n ∧ okC tag n l
instance (tag n : Int) (l : List Int) : Decidable (canP tag n l) := by unfold canP; infer_instance
theorem canP_init {tag n : Int} {l : List Int} {x : Int} (h : canP tag n (l ++ [x])) : canP tag n l := by
  obtain ⟨h1, h2, h3⟩ := h
  rw [List.length_append, List.length_singleton] at h2
  exact ⟨h1, by omega, ((okC_snoc ..).1 h3).1⟩
theorem fullP_length (tag : Int) (l : List Int) : (fullP tag l).length = l.length + offT tag := by
  unfold fullP offT; split
  · rfl
  · rw [List.length_append, cent_length]; omega
theorem fullP_snoc (tag : Int) {l : List Int} (x : Int) (h : 1 ≤ l.length) : fullP tag (l ++ [x]) = fullP tag l ++ [x] := by
  unfold fullP
  split
  · rfl
  · rw [g_left (by omega), List.append_assoc]
theorem full_ok {tag n : Int} {l : List Int} (hc : canP tag n l) (hl : (l.length : Int) < n) : ∀ i, i < (fullP tag l).length → stepAt (fullP tag l) i := by
  intro i hi
  rw [fullP_length] at hi
  by_cases h : i < offT tag
  · have ht : ¬ tag = 24 := by intro e; unfold offT at h; rw [if_pos e] at h; omega
    have h2 : i < 2 := by unfold offT at h; rw [if_neg ht] at h; exact h
    have hd : isD (g (fullP tag l) i) := by unfold fullP; rw [if_neg ht, g_left (by rw [cent_length]; exact h2)]; exact cent_isD _ _ h2
    exact ⟨hd, fun e => by omega, fun e => by omega, fun e => by omega, fun e => by omega, fun e => by omega, fun e => by omega, fun e => by omega, fun e => by omega⟩
  · have := ((hc.2.2 (i - offT tag) (by omega)).2 (by omega)).1
    rwa [show i - offT tag + offT tag = i by omega] at this
theorem typ_off {tag n : Int} (h : typ tag n) : (n : Int) + offT tag = 15 := by
  unfold offT
  rcases h with ⟨rfl, rfl⟩ | ⟨rfl, rfl⟩ <;> decide
theorem can_step {tag n : Int} {l : List Int} {x : Int} (hc : canP tag n l) (h0 : n - 10 ≤ l.length) (h1 : (l.length : Int) + 1 < n) (hs : stepAt (fullP tag l ++ [x]) (fullP tag l).length) : canP tag n (l ++ [x]) := by
  have ho := typ_off hc.1
  have hn3 : 3 ≤ l.length := by rcases hc.1 with ⟨_, h⟩ | ⟨_, h⟩ <;> omega
  refine ⟨hc.1, by rw [List.length_append, List.length_singleton]; omega, (okC_snoc ..).2 ⟨hc.2.2, fun e => by omega, fun _ => ⟨?_, fun ht => ⟨fun e => by omega, fun e => by omega⟩⟩⟩⟩
  rw [fullP_snoc tag x (by omega), ← fullP_length]; exact hs
/-- Where a digit lacks, 0 or 1 may come, if any can. -/
theorem can_wit {tag n : Int} {l : List Int} (hc : canP tag n l) (h0 : n - 10 ≤ l.length) (h1 : (l.length : Int) + 1 < n) : canP tag n (l ++ [48]) ∨ canP tag n (l ++ [49]) := by
  have ho := typ_off hc.1
  have hL := fullP_length tag l
  rcases (step_wit (fullP tag l) (by omega) (by omega) (full_ok hc (by omega))).1 with h | h
  · exact .inl (can_step hc h0 h1 h)
  · exact .inr (can_step hc h0 h1 h)
theorem can_zero {tag n : Int} {l : List Int} (hc : canP tag n l) (h0 : n - 7 ≤ l.length) (h1 : (l.length : Int) + 1 < n) : canP tag n (l ++ [48]) := by
  have ho := typ_off hc.1
  have hL := fullP_length tag l
  exact can_step hc (by omega) h1 ((step_wit (fullP tag l) (by omega) (by omega) (full_ok hc (by omega))).2 (by omega))
theorem can_zeros {tag n : Int} {l : List Int} (hc : typ tag n) (h0 : n - 7 ≤ l.length) (h1 : (l.length : Int) + 2 < n) : canP tag n (l ++ [48, 48]) ↔ canP tag n l := by
  have e : l ++ [48, 48] = (l ++ [48]) ++ [48] := by rw [List.append_assoc]; rfl
  rw [e]
  refine ⟨fun h => canP_init (canP_init h), fun h => ?_⟩
  have h2 := can_zero h h0 (by omega)
  exact can_zero h2 (by rw [List.length_append, List.length_singleton]; omega) (by rw [List.length_append, List.length_singleton]; omega)
/-- A whole content. -/
def rightP (tag : Int) (l : List Int) : Prop := canP tag l.length l
instance (tag : Int) (l : List Int) : Decidable (rightP tag l) := by unfold rightP; infer_instance
theorem can_last {tag n : Int} {l : List Int} (ht : typ tag n) (hl : (l.length : Int) = n - 1) : rightP tag (l ++ [90]) ↔ canP tag n l := by
  have e : ((l ++ [90]).length : Int) = n := by rw [List.length_append, List.length_singleton]; omega
  unfold rightP
  rw [e]
  refine ⟨canP_init, fun h => ⟨ht, by omega, (okC_snoc ..).2 ⟨h.2.2, fun _ => g_last _ _, fun e => absurd hl e⟩⟩⟩
theorem can_over {tag n : Int} {l : List Int} (ht : typ tag n) (hl : n ≤ (l.length : Int)) : rightP tag l ↔ canP tag n l := by
  unfold rightP
  by_cases h : (l.length : Int) = n
  · rw [h]
  · refine ⟨fun hr => ?_, fun hc => absurd hc.2.1 (by omega)⟩
    have h1 := typ_off hr.1
    have h2 := typ_off ht
    omega
/-! ### The reference's way to a whole content -/
def fullC (tag : Int) (l : List Int) : List Int := if tag = 24 then l.take 14 else cent (g l 0) ++ l.take 12
theorem date_full (l : List Int) (hl : l.length = 13) : dateP (fullC 23 l) ↔ ∀ i, i < 12 → stepC 23 13 l i := by
  have hf : fullC 23 l = fullP 23 (l.take 12) := by unfold fullC fullP; rw [if_neg (by decide), if_neg (by decide), g_take (by decide)]
  have hlt : (l.take 12).length = 12 := by rw [List.length_take, hl]; rfl
  rw [hf]
  unfold dateP okD
  rw [fullP_length, hlt]
  have key : ∀ i, i < 12 → (stepC 23 13 l i ↔ stepAt (fullP 23 (l.take 12)) (i + 2)) := by
    intro i hi
    have hc := stepAt_congr (l := fullP 23 (l.take 12)) (m := fullP 23 l) (i := i + 2) (fullP_congr (tag := 23) (i := i) (fun j hj => g_take (by omega)))
    rw [hc]
    unfold stepC
    exact ⟨fun h => (h.2 (by omega)).1, fun h => ⟨fun e => by omega, fun _ => ⟨h, fun e => absurd e (by decide)⟩⟩⟩
  constructor
  · rintro ⟨_, h⟩ i hi
    exact (key i hi).2 (h (i + 2) (by show i + 2 < 12 + 2; omega))
  · intro h
    refine ⟨rfl, fun i hi => ?_⟩
    have hi : i < 14 := hi
    by_cases h2 : i < 2
    · have hd : isD (g (fullP 23 (l.take 12)) i) := by unfold fullP; rw [if_neg (by decide), g_left (by rw [cent_length]; exact h2)]; exact cent_isD _ _ h2
      exact ⟨hd, fun e => by omega, fun e => by omega, fun e => by omega, fun e => by omega, fun e => by omega, fun e => by omega, fun e => by omega, fun e => by omega⟩
    · have := (key (i - 2) (by omega)).1 (h (i - 2) (by omega))
      rwa [show i - 2 + 2 = i by omega] at this
theorem right_utc (l : List Int) : rightP 23 l ↔ l.length = 13 ∧ g l 12 = 90 ∧ dateP (fullC 23 l) := by
  unfold rightP canP
  constructor
  · rintro ⟨h1, _, h3⟩
    have hl : l.length = 13 := by rcases h1 with ⟨_, h⟩ | ⟨h, _⟩; omega; exact absurd h (by decide)
    rw [hl] at h3
    refine ⟨hl, (h3 12 (by omega)).1 rfl, (date_full l hl).2 (fun i hi => h3 i (by omega))⟩
  · rintro ⟨hl, hz, hd⟩
    rw [hl]
    refine ⟨.inl ⟨rfl, rfl⟩, by decide, fun i hi => ?_⟩
    by_cases h : i = 12
    · subst h; exact ⟨fun _ => hz, fun e => absurd rfl e⟩
    · exact (date_full l hl).1 hd i (by omega)
theorem right_gen (l : List Int) : rightP 24 l ↔ l.length = 15 ∧ g l 14 = 90 ∧ dateP (fullC 24 l) ∧ yearAt l 0 ∧ yearAt l 2 := by
  have key : l.length = 15 → ∀ i, i < 14 → (stepC 24 15 l i ↔ stepAt (l.take 14) i ∧ yearAt l i) := by
    intro hl i hi
    have hc := stepAt_congr (l := l.take 14) (m := l) (i := i) (fun j hj => g_take (by omega))
    rw [hc]
    unfold stepC
    exact ⟨fun h => ⟨(h.2 (by omega)).1, (h.2 (by omega)).2 rfl⟩, fun h => ⟨fun e => by omega, fun _ => ⟨h.1, fun _ => h.2⟩⟩⟩
  have hf : fullC 24 l = l.take 14 := if_pos rfl
  rw [hf]
  unfold rightP canP
  constructor
  · rintro ⟨h1, _, h3⟩
    have hl : l.length = 15 := by rcases h1 with ⟨h, _⟩ | ⟨_, h⟩; exact absurd h (by decide); omega
    have hlt : (l.take 14).length = 14 := by rw [List.length_take, hl]; rfl
    rw [hl] at h3
    refine ⟨hl, (h3 14 (by omega)).1 rfl, ⟨hlt, fun i hi => ((key hl i (by omega)).1 (h3 i (by omega))).1⟩, ((key hl 0 (by omega)).1 (h3 0 (by omega))).2, ((key hl 2 (by omega)).1 (h3 2 (by omega))).2⟩
  · rintro ⟨hl, hz, hd, y0, y2⟩
    have hlt : (l.take 14).length = 14 := by rw [List.length_take, hl]; rfl
    rw [hl]
    refine ⟨.inr ⟨rfl, rfl⟩, by decide, fun i hi => ?_⟩
    by_cases h : i = 14
    · subst h; exact ⟨fun _ => hz, fun e => absurd rfl e⟩
    · refine (key hl i (by omega)).2 ⟨hd.2 i (by omega), ?_⟩
      by_cases h0 : i = 0
      · subst h0; exact y0
      · by_cases h2 : i = 2
        · subst h2; exact y2
        · exact ⟨fun e => absurd e h0, fun e => absurd e h2⟩
theorem right_none {tag : Int} (h23 : tag ≠ 23) (h24 : tag ≠ 24) (l : List Int) : ¬ rightP tag l := by
  rintro ⟨h, _⟩
  rcases h with ⟨h, _⟩ | ⟨h, _⟩
  · exact h23 h
  · exact h24 h
end Go.Proofs.Ytnlhpldjficecaa
