/- Contents of string types in plain words: characters of UTF-8 byte by byte, which bytes a string may hold, how a right content can begin, and with which byte one is wrong. These hold of lists of numbers alone, under no condition on the program. -/
import Derived.Test.YtlnggeggmchjcaaWhen
namespace Go.Proofs.Ytlnggeggmchjcaa
open Go.PlainAid
set_option linter.unusedVariables false
/-- How many bytes a character has whose first byte this is; 0: none has it. -/
def sz (a : Int) : Nat := if a < 128 then 1 else if a < 194 then 0 else if a < 224 then 2 else if a < 240 then 3 else if a < 245 then 4 else 0
/-- Whether a byte can stand at a place behind the first one. -/
def contOk (a : Int) (i : Nat) (b : Int) : Prop := 128 ≤ b ∧ b ≤ 191 ∧ (i = 1 → (a = 224 → 160 ≤ b) ∧ (a = 237 → b ≤ 159) ∧ (a = 240 → 144 ≤ b) ∧ (a = 244 → b ≤ 143))
instance (a : Int) (i : Nat) (b : Int) : Decidable (contOk a i b) := by unfold contOk; infer_instance
/-- A character's front, or all of it. -/
def frontOk (r : List Int) : Prop := 1 ≤ r.length ∧ r.length ≤ sz (g r 0) ∧ ∀ i, i < r.length → 1 ≤ i → contOk (g r 0) i (g r i)
instance (r : List Int) : Decidable (frontOk r) := by unfold frontOk; infer_instance
/-- How many bytes the character has that begins at a place; 0: none does. -/
def charN (l : List Int) (k : Nat) : Nat := if k + sz (g l k) ≤ l.length ∧ ∀ i, i < sz (g l k) → 1 ≤ i → contOk (g l k) i (g l (k + i)) then sz (g l k) else 0
theorem sz_le (a : Int) : sz a ≤ 4 := by
  unfold sz
  repeat' split
  all_goals omega
/-! ### Byte by byte -/
/-- What of a character came, behind one byte more. -/
def uS : Option (List Int) → Int → Option (List Int)
  | none, _ => none
  | some r, b => if frontOk (r ++ [b]) then some (if r.length + 1 = sz (g (r ++ [b]) 0) then [] else r ++ [b]) else none
def uR (l : List Int) : Option (List Int) := l.foldl uS (some [])
theorem uR_nil : uR [] = some [] := rfl
theorem uR_snoc (l : List Int) (x : Int) : uR (l ++ [x]) = uS (uR l) x := by unfold uR; rw [List.foldl_append]; rfl
theorem foldl_none : ∀ l : List Int, l.foldl uS none = none
  | [] => rfl
  | x :: l => foldl_none l
theorem uR_append {l m : List Int} (h : uR l = some []) : uR (l ++ m) = uR m := by unfold uR at *; rw [List.foldl_append, h]
theorem uR_append_none {l m : List Int} (h : uR l = none) : uR (l ++ m) = none := by unfold uR at *; rw [List.foldl_append, h]; exact foldl_none m
theorem frontOk_init {r : List Int} {b : Int} (h : frontOk (r ++ [b])) (h1 : 1 ≤ r.length) : frontOk r ∧ r.length < sz (g r 0) := by
  obtain ⟨h2, h3, h4⟩ := h
  rw [List.length_append, List.length_singleton] at h3 h4
  have e0 : g (r ++ [b]) 0 = g r 0 := g_left (by omega)
  rw [e0] at h3 h4
  refine ⟨⟨h1, by omega, fun i hi h5 => ?_⟩, by omega⟩
  have := h4 i (by omega) h5
  rwa [g_left hi] at this
/-- Of one character's front. -/
theorem uR_front : ∀ (m : Nat) (c : List Int), c.length = m → 1 ≤ m → m ≤ max 1 (sz (g c 0)) → uR c = if frontOk c then some (if m = sz (g c 0) then [] else c) else none := by
  intro m
  induction m with
  | zero => intro c _ h; omega
  | succ m ih =>
    intro c hc h1 hm
    obtain ⟨d, x, rfl⟩ : ∃ d x, c = d ++ [x] := ⟨c.dropLast, c.getLast (by intro e; rw [e] at hc; simp at hc), (List.dropLast_concat_getLast _).symm⟩
    have hd : d.length = m := by rw [List.length_append, List.length_singleton] at hc; omega
    rw [uR_snoc]
    by_cases h0 : m = 0
    · obtain rfl : d = [] := List.length_eq_zero_iff.1 (by omega)
      subst h0
      rfl
    · have e0 : g (d ++ [x]) 0 = g d 0 := g_left (by omega)
      rw [e0] at hm ⊢
      rw [ih d hd (by omega) (by omega)]
      by_cases hf : frontOk (d ++ [x])
      · obtain ⟨hf1, hf2⟩ := frontOk_init hf (by omega)
        rw [if_pos hf1, if_pos hf, if_neg (by omega)]
        show (if frontOk (d ++ [x]) then some (if d.length + 1 = sz (g (d ++ [x]) 0) then [] else d ++ [x]) else none) = _
        rw [if_pos hf, e0, hd]
      · rw [if_neg hf]
        by_cases hf1 : frontOk d
        · rw [if_pos hf1, if_neg (by omega)]
          show (if frontOk (d ++ [x]) then some (if d.length + 1 = sz (g (d ++ [x]) 0) then [] else d ++ [x]) else none) = _
          rw [if_neg hf]
        · rw [if_neg hf1]; rfl
theorem g_dropT (l : List Int) (k i : Nat) : g (l.drop k) i = g l (k + i) := by
  unfold g; rw [List.getD_eq_getElem?_getD, List.getElem?_drop, List.getD_eq_getElem?_getD]
theorem g_dt (l : List Int) (k m i : Nat) (h : i < m) : g ((l.drop k).take m) i = g l (k + i) := by rw [g_take h, g_dropT]
theorem take_plus (l : List Int) (k m : Nat) : l.take (k + m) = l.take k ++ (l.drop k).take m := by rw [List.take_add]
/-- A character behind whole ones. -/
theorem uR_char {l : List Int} {k m : Nat} (h : uR (l.take k) = some []) (hk : k < l.length) (hm : charN l k = m) (h1 : 1 ≤ m) : uR (l.take (k + m)) = some [] ∧ k + m ≤ l.length := by
  unfold charN at hm
  split at hm
  · rename_i hc
    obtain ⟨hc1, hc2⟩ := hc
    rw [hm] at hc1 hc2
    refine ⟨?_, hc1⟩
    rw [take_plus, uR_append h]
    have hl : ((l.drop k).take m).length = m := by rw [List.length_take, List.length_drop]; omega
    have e0 : g ((l.drop k).take m) 0 = g l k := g_dt l k m 0 (by omega)
    have hf : frontOk ((l.drop k).take m) := by
      refine ⟨by omega, by rw [hl, e0]; omega, fun i hi h5 => ?_⟩
      rw [hl] at hi
      rw [e0, g_dt _ _ _ _ hi]; exact hc2 i (by omega) h5
    rw [uR_front m _ hl h1 (by rw [e0]; omega), if_pos hf, e0, if_pos hm.symm]
  · omega
/-- Where no character is: what of one came, if it is one's front. -/
theorem uR_stuck {l : List Int} {k : Nat} (h : uR (l.take k) = some []) (hk : k < l.length) (hm : charN l k = 0) :
    uR l = if frontOk (l.drop k) ∧ (l.drop k).length < sz (g l k) then some (l.drop k) else none := by
  have hl : l = l.take k ++ l.drop k := (List.take_append_drop k l).symm
  have hd : (l.drop k).length = l.length - k := List.length_drop
  have e0 : g (l.drop k) 0 = g l k := by rw [g_dropT]; rfl
  have hu : uR l = uR (l.drop k) := by rw [hl, uR_append h, List.take_append_drop]
  rw [hu]
  by_cases hs : (l.drop k).length < sz (g l k)
  · rw [uR_front _ _ rfl (by omega) (by rw [e0]; omega), e0]
    by_cases hf : frontOk (l.drop k)
    · rw [if_pos hf, if_neg (show ¬ (l.drop k).length = sz (g l k) by omega), if_pos ⟨hf, hs⟩]
    · rw [if_neg hf, if_neg (fun hh => hf hh.1)]
  · rw [if_neg (fun hh => hs hh.2)]
    -- its first bytes are no character
    obtain ⟨m, hmd⟩ : ∃ m, m = max 1 (sz (g l k)) := ⟨_, rfl⟩
    have hcut : l.drop k = (l.drop k).take m ++ (l.drop k).drop m := (List.take_append_drop m _).symm
    have hlt : ((l.drop k).take m).length = m := by rw [List.length_take]; omega
    have e1 : g ((l.drop k).take m) 0 = g l k := g_dt l k m 0 (by omega)
    rw [hcut]
    refine uR_append_none ?_
    rw [uR_front m _ hlt (by omega) (by rw [e1]; omega), if_neg]
    rintro ⟨f1, f2, f3⟩
    rw [hlt, e1] at f2
    rw [hlt, e1] at f3
    unfold charN at hm
    rw [if_pos ⟨by omega, fun i hi h5 => by have := f3 i (by omega) h5; rwa [g_dt _ _ _ _ (by omega)] at this⟩] at hm
    omega
/-- What came of a character is its front. -/
theorem uS_some {r s : List Int} {x : Int} (h : uS (some r) x = some s) : s = [] ∨ (frontOk s ∧ s.length < sz (g s 0)) := by
  by_cases hf : frontOk (r ++ [x])
  · have h2 : some (if r.length + 1 = sz (g (r ++ [x]) 0) then [] else r ++ [x]) = some s := (if_pos hf).symm.trans h
    by_cases hne : r.length + 1 = sz (g (r ++ [x]) 0)
    · rw [if_pos hne] at h2
      cases h2
      exact .inl rfl
    · rw [if_neg hne] at h2
      cases h2
      have := hf.2.1
      rw [List.length_append, List.length_singleton] at this
      exact .inr ⟨hf, by rw [List.length_append, List.length_singleton]; omega⟩
  · have h2 : (none : Option (List Int)) = some s := (if_neg hf).symm.trans h
    cases h2
theorem uR_some {l r : List Int} (h : uR l = some r) : r = [] ∨ (frontOk r ∧ r.length < sz (g r 0)) := by
  rcases List.eq_nil_or_concat l with rfl | ⟨m, x, rfl⟩
  · rw [uR_nil] at h; cases h; exact .inl rfl
  · rw [List.concat_eq_append, uR_snoc] at h
    cases hu : uR m with
    | none => rw [hu] at h; cases h
    | some s => rw [hu] at h; exact uS_some h
/-! ### Which contents can begin so -/
/-- Whether a byte may stand in a string of a tag other than UTF8String. -/
def plT (tag x : Int) : Prop := (tag = 22 → x < 128) ∧ (tag = 19 → (65 ≤ x ∧ x ≤ 90) ∨ (97 ≤ x ∧ x ≤ 122) ∨ (48 ≤ x ∧ x ≤ 57) ∨ x = 32 ∨ (39 ≤ x ∧ x ≤ 41) ∨ (43 ≤ x ∧ x ≤ 47) ∨ x = 58 ∨ x = 61 ∨ x = 63)
instance (tag x : Int) : Decidable (plT tag x) := by unfold plT; infer_instance
/-- Whether UTF-8 of n bytes can begin so. -/
def uC (n : Int) (l : List Int) : Bool := match uR l with
  | none => false
  | some r => decide (r = [] ∨ (l.length : Int) + (sz (g r 0) : Int) - (r.length : Int) ≤ n)
def canT (tag n : Int) (l : List Int) : Prop := 0 ≤ n ∧ ((tag = 12 ∧ uC n l = true) ∨ (tag ≠ 12 ∧ ∀ x ∈ l, plT tag x))
instance (tag n : Int) (l : List Int) : Decidable (canT tag n l) := by unfold canT; infer_instance
theorem uC_some {n : Int} {l r : List Int} (h : uR l = some r) : uC n l = true ↔ (r = [] ∨ (l.length : Int) + (sz (g r 0) : Int) - (r.length : Int) ≤ n) := by
  unfold uC; rw [h]; exact decide_eq_true_iff
theorem uC_none {n : Int} {l : List Int} (h : uR l = none) : uC n l = false := by unfold uC; rw [h]
theorem canT_nil {tag n : Int} : canT tag n [] ↔ 0 ≤ n := by
  refine ⟨fun h => h.1, fun h => ⟨h, ?_⟩⟩
  by_cases ht : tag = 12
  · exact .inl ⟨ht, (uC_some uR_nil).2 (.inl rfl)⟩
  · exact .inr ⟨ht, fun x hx => absurd hx (by simp)⟩
theorem canT_init {tag n : Int} {l : List Int} {x : Int} (h : canT tag n (l ++ [x])) (hn : (l.length : Int) + 1 ≤ n) : canT tag n l := by
  obtain ⟨h0, h | ⟨ht, h⟩⟩ := h
  · refine ⟨h0, .inl ⟨h.1, ?_⟩⟩
    have h2 := h.2
    cases hu : uR l with
    | none => rw [uC_none (by rw [uR_snoc, hu]; rfl)] at h2; cases h2
    | some r =>
      rw [uC_some hu]
      by_cases hr : r = []
      · exact .inl hr
      · refine .inr ?_
        have hpos : 1 ≤ r.length := by cases r with
          | nil => exact absurd rfl hr
          | cons a r => simp
        have e0 : g (r ++ [x]) 0 = g r 0 := g_left (by omega)
        by_cases hf : frontOk (r ++ [x])
        · by_cases hc : r.length + 1 = sz (g (r ++ [x]) 0)
          · rw [e0] at hc; omega
          · have hs : uR (l ++ [x]) = some (r ++ [x]) := by
              rw [uR_snoc, hu]
              show (if frontOk (r ++ [x]) then some (if r.length + 1 = sz (g (r ++ [x]) 0) then [] else r ++ [x]) else none) = _
              rw [if_pos hf, if_neg hc]
            rw [uC_some hs] at h2
            rcases h2 with h2 | h2
            · exact absurd (congrArg List.length h2) (by simp)
            · rw [e0, List.length_append, List.length_append, List.length_singleton] at h2; omega
        · rw [uC_none (by rw [uR_snoc, hu]; exact if_neg hf)] at h2; cases h2
  · exact ⟨h0, .inr ⟨ht, fun y hy => h y (List.mem_append_left _ hy)⟩⟩
/-- A whole content is right. -/
def rightT (tag : Int) (l : List Int) : Prop := canT tag l.length l
instance (tag : Int) (l : List Int) : Decidable (rightT tag l) := by unfold rightT; infer_instance
theorem right_utf8 {l : List Int} : rightT 12 l ↔ uR l = some [] := by
  refine ⟨fun h => ?_, fun h => ⟨by omega, .inl ⟨rfl, (uC_some h).2 (.inl rfl)⟩⟩⟩
  obtain ⟨_, h | h⟩ := h
  · cases hu : uR l with
    | none => rw [uC_none hu] at h; exact absurd h.2 (by decide)
    | some r =>
      rcases (uC_some hu).1 h.2 with h2 | h2
      · rw [h2]
      · rcases uR_some hu with h3 | h3
        · rw [h3]
        · omega
  · exact absurd rfl h.1
theorem right_plain {tag : Int} {l : List Int} (ht : tag ≠ 12) : rightT tag l ↔ ∀ x ∈ l, plT tag x :=
  ⟨fun h => by rcases h.2 with h | h; exact absurd h.1 ht; exact h.2, fun h => ⟨by omega, .inr ⟨ht, h⟩⟩⟩
theorem right_append {tag : Int} {a b : List Int} (ha : rightT tag a) : rightT tag (a ++ b) ↔ rightT tag b := by
  by_cases ht : tag = 12
  · subst ht
    rw [right_utf8] at ha
    rw [right_utf8, right_utf8, uR_append ha]
  · rw [right_plain ht] at ha
    rw [right_plain ht, right_plain ht]
    exact ⟨fun h x hx => h x (List.mem_append_right _ hx), fun h x hx => (List.mem_append.1 hx).elim (ha x) (h x)⟩
theorem right_parts {tag : Int} {a b : List Int} (ht : tag ≠ 12) (h : rightT tag (a ++ b)) : rightT tag a ∧ rightT tag b := by
  rw [right_plain ht] at h
  exact ⟨(right_plain ht).2 (fun x hx => h x (List.mem_append_left _ hx)), (right_plain ht).2 (fun x hx => h x (List.mem_append_right _ hx))⟩
/-- Bytes below 128 are characters. -/
theorem uR_ascii : ∀ (l : List Int), (∀ x ∈ l, x < 128) → uR l = some [] := by
  intro l
  induction l with
  | nil => intro _; rfl
  | cons a l ih =>
    intro h
    have ha : a < 128 := h a (by simp)
    have hs : sz a = 1 := if_pos ha
    have h1 : uR [a] = some [] := by
      show (if frontOk [a] then some (if 0 + 1 = sz a then [] else [a]) else none) = _
      rw [if_pos ⟨by simp, by show 1 ≤ sz a; omega, fun i hi h5 => by simp at hi; omega⟩, if_pos hs.symm]
    show uR ([a] ++ l) = _
    rw [uR_append h1]
    exact ih (fun x hx => h x (by simp [hx]))
theorem right_ia5 {l : List Int} (h : rightT 22 l) : rightT 12 l :=
  right_utf8.2 (uR_ascii l (fun x hx => ((right_plain (by decide)).1 h x hx).1 rfl))
theorem right_print {l : List Int} (h : rightT 19 l) : rightT 22 l :=
  (right_plain (by decide)).2 (fun x hx => ⟨fun _ => by have := ((right_plain (by decide)).1 h x hx).2 rfl; omega, fun e => absurd e (by decide)⟩)
/-! ### With which byte -/
def wrF (can : Nat → Bool) : Nat → Nat → Int
  | 0, _ => -1
  | k + 1, i => if can i = true then wrF can k (i + 1) else i
theorem wrF_spec (can : Nat → Bool) : ∀ k i, (wrF can k i = -1 ∧ ∀ j, i ≤ j → j < i + k → can j = true) ∨ (∃ m : Nat, i ≤ m ∧ m < i + k ∧ wrF can k i = (m : Int) ∧ ¬ can m = true ∧ ∀ j, i ≤ j → j < m → can j = true) := by
  intro k
  induction k with
  | zero => intro i; exact .inl ⟨rfl, fun j h1 h2 => by omega⟩
  | succ k ih =>
    intro i
    by_cases h : can i = true
    · have e : wrF can (k + 1) i = wrF can k (i + 1) := by rw [wrF, if_pos h]
      rw [e]
      rcases ih (i + 1) with ⟨h1, h2⟩ | ⟨m, h1, h2, h3, h4, h5⟩
      · refine .inl ⟨h1, fun j hj hk => ?_⟩
        by_cases hji : j = i
        · rw [hji]; exact h
        · exact h2 j (by omega) (by omega)
      · refine .inr ⟨m, by omega, by omega, h3, h4, fun j hj hk => ?_⟩
        by_cases hji : j = i
        · rw [hji]; exact h
        · exact h5 j (by omega) hk
    · exact .inr ⟨i, Nat.le_refl _, by omega, by rw [wrF, if_neg h], h, fun j h1 h2 => by omega⟩
/-- With which byte a content of n bytes, of which these came, is wrong. -/
def txW (tag n : Int) (l : List Int) : Int := wrF (fun i => decide (canT tag n (l.take i))) (l.length + 1) 0
theorem tx_range (tag n : Int) (l : List Int) : -1 ≤ txW tag n l ∧ txW tag n l ≤ l.length := by
  unfold txW
  rcases wrF_spec (fun i => decide (canT tag n (l.take i))) (l.length + 1) 0 with ⟨h, _⟩ | ⟨m, _, h2, h3, _⟩
  · rw [h]; omega
  · rw [h3]; omega
theorem tx_zero (tag n : Int) (l : List Int) : txW tag n l = 0 ↔ n < 0 := by
  unfold txW
  have c0 : (decide (canT tag n (l.take 0)) = true) ↔ 0 ≤ n := by rw [decide_eq_true_eq, List.take_zero]; exact canT_nil
  rcases wrF_spec (fun i => decide (canT tag n (l.take i))) (l.length + 1) 0 with ⟨h, h2⟩ | ⟨m, _, h2, h3, h4, h5⟩
  · rw [h]
    have := c0.1 (h2 0 (Nat.le_refl _) (by omega))
    omega
  · rw [h3]
    by_cases hm : m = 0
    · subst hm
      have : ¬ 0 ≤ n := fun hh => h4 (c0.2 hh)
      omega
    · have := c0.1 (h5 0 (Nat.le_refl _) (by omega))
      omega
/-- As far as it isn't wrong, it can be so. -/
theorem tx_can (tag n : Int) (l : List Int) (i : Nat) (hi : i ≤ l.length) (h : ¬ (0 ≤ txW tag n l ∧ txW tag n l ≤ i)) : canT tag n (l.take i) := by
  unfold txW at h
  rcases wrF_spec (fun i => decide (canT tag n (l.take i))) (l.length + 1) 0 with ⟨h1, h2⟩ | ⟨m, _, h2, h3, h4, h5⟩
  · exact of_decide_eq_true (h2 i (by omega) (by omega))
  · rw [h3] at h
    exact of_decide_eq_true (h5 i (by omega) (by omega))
/-- Along a content: whether the next byte is the wrong one. -/
theorem tx_step (tag n : Int) (l : List Int) (i : Nat) (hi : i < l.length) (h : ¬ (0 ≤ txW tag n l ∧ txW tag n l ≤ i)) : txW tag n l = (i : Int) + 1 ↔ ¬ canT tag n (l.take (i + 1)) := by
  unfold txW at *
  rcases wrF_spec (fun i => decide (canT tag n (l.take i))) (l.length + 1) 0 with ⟨h1, h2⟩ | ⟨m, _, h2, h3, h4, h5⟩
  · rw [h1]
    have := of_decide_eq_true (h2 (i + 1) (by omega) (by omega))
    exact ⟨fun e => by omega, fun e => absurd this e⟩
  · rw [h3] at h ⊢
    by_cases hm : m = i + 1
    · subst hm
      exact ⟨fun _ hc => h4 (decide_eq_true hc), fun _ => by omega⟩
    · have := of_decide_eq_true (h5 (i + 1) (by omega) (by omega))
      exact ⟨fun e => by omega, fun e => absurd this e⟩
/-- A whole content is right just if it is wrong with no byte. -/
theorem tx_right (tag : Int) (l : List Int) : rightT tag l ↔ txW tag l.length l = -1 := by
  have hr := tx_range tag l.length l
  refine ⟨fun h => ?_, fun h => ?_⟩
  · have all : ∀ k, k ≤ l.length → canT tag l.length (l.take (l.length - k)) := by
      intro k
      induction k with
      | zero => intro _; rw [Nat.sub_zero, List.take_length]; exact h
      | succ k ih =>
        intro hk
        have := ih (by omega)
        have e : l.take (l.length - k) = l.take (l.length - (k + 1)) ++ [l[l.length - (k + 1)]'(by omega)] := by
          rw [show l.length - k = l.length - (k + 1) + 1 by omega, List.take_add_one, List.getElem?_eq_getElem (by omega)]; rfl
        rw [e] at this
        exact canT_init this (by rw [List.length_take]; omega)
    unfold txW at *
    rcases wrF_spec (fun i => decide (canT tag l.length (l.take i))) (l.length + 1) 0 with ⟨h1, h2⟩ | ⟨m, _, h2, h3, h4, h5⟩
    · exact h1
    · have := all (l.length - m) (by omega)
      rw [show l.length - (l.length - m) = m by omega] at this
      exact absurd (decide_eq_true this) h4
  · have := tx_can tag l.length l l.length (Nat.le_refl _) (by omega)
    rwa [List.take_length] at this
end Go.Proofs.Ytlnggeggmchjcaa
