/- The stable order of a list, in plain words: merged, the left one's elements first where neither comes first; sorted, one element behind the other; and what a merge in place does with a row. They hold of lists and of rows of any kind, under a strict weak order. -/
import Derived.Sort.LotA
namespace Go.Proofs.Ytnlhpldjficecaa
open Go.Sort
set_option linter.unusedVariables false
section
variable {α : Type} (lt : α → α → Bool)
def mrg : List α → List α → List α
  | [], ys => ys
  | x :: xs, [] => x :: xs
  | x :: xs, y :: ys => if lt y x = true then y :: mrg (x :: xs) ys else x :: mrg xs (y :: ys)
termination_by l m => l.length + m.length
theorem mrg_nil_left (ys : List α) : mrg lt [] ys = ys := by rw [mrg]
theorem mrg_nil_right (xs : List α) : mrg lt xs [] = xs := by cases xs <;> rw [mrg]
theorem mrg_lt {x y : α} (xs ys : List α) (h : lt y x = true) : mrg lt (x :: xs) (y :: ys) = y :: mrg lt (x :: xs) ys := by rw [mrg, if_pos h]
theorem mrg_ge {x y : α} (xs ys : List α) (h : lt y x = false) : mrg lt (x :: xs) (y :: ys) = x :: mrg lt xs (y :: ys) := by rw [mrg, if_neg (by rw [h]; exact Bool.false_ne_true)]
theorem mrg_front (A B1 B2 : List α) (h : ∀ y ∈ B1, ∀ x ∈ A, lt y x = true) : mrg lt A (B1 ++ B2) = B1 ++ mrg lt A B2 := by
  cases A with
  | nil => rw [mrg_nil_left, mrg_nil_left]
  | cons x xs =>
    induction B1 with
    | nil => rfl
    | cons y ys ih =>
      rw [List.cons_append, mrg_lt lt _ _ (h y (.head _) x (.head _)), ih (fun z hz => h z (.tail _ hz)), List.cons_append]
theorem mrg_ahead (A1 A2 B : List α) (h : ∀ x ∈ A1, ∀ y ∈ B, lt y x = false) : mrg lt (A1 ++ A2) B = A1 ++ mrg lt A2 B := by
  cases B with
  | nil => rw [mrg_nil_right, mrg_nil_right]
  | cons y ys =>
    induction A1 with
    | nil => rfl
    | cons x xs ih =>
      rw [List.cons_append, mrg_ge lt _ _ (h x (.head _) y (.head _)), ih (fun z hz => h z (.tail _ hz)), List.cons_append]
/-- Fronts and rests, merged each by itself. -/
theorem mrg_split : ∀ (n : Nat) (A1 A2 B1 B2 : List α), A1.length + B1.length ≤ n → (∀ x ∈ A1, ∀ y ∈ B2, lt y x = false) → (∀ y ∈ B1, ∀ x ∈ A2, lt y x = true) →
    mrg lt (A1 ++ A2) (B1 ++ B2) = mrg lt A1 B1 ++ mrg lt A2 B2 := by
  intro n
  induction n with
  | zero =>
    intro A1 A2 B1 B2 hn _ _
    obtain rfl : A1 = [] := List.length_eq_zero_iff.1 (by omega)
    obtain rfl : B1 = [] := List.length_eq_zero_iff.1 (by omega)
    rw [mrg_nil_left]; rfl
  | succ n ih =>
    intro A1 A2 B1 B2 hn h1 h2
    cases A1 with
    | nil => rw [List.nil_append, mrg_nil_left, mrg_front lt _ _ _ h2]
    | cons x xs =>
      cases B1 with
      | nil => rw [List.nil_append, mrg_nil_right, mrg_ahead lt _ _ _ h1]
      | cons y ys =>
        rw [List.cons_append, List.cons_append]
        by_cases h : lt y x = true
        · rw [mrg_lt lt _ _ h, mrg_lt lt _ _ h, List.cons_append, ← List.cons_append, ih (x :: xs) A2 ys B2 (by simp at hn ⊢; omega) h1 (fun z hz => h2 z (.tail _ hz))]
        · have h : lt y x = false := by simpa using h
          rw [mrg_ge lt _ _ h, mrg_ge lt _ _ h, List.cons_append, ← List.cons_append, ih xs A2 (y :: ys) B2 (by simp at hn ⊢; omega) (fun z hz => h1 z (.tail _ hz)) h2]
variable {lt}
theorem lt_of_le_lt (h : SWO lt) {x y z : α} (h1 : lt y x = false) (h2 : lt y z = true) : lt x z = true := by
  cases h3 : lt x z with
  | true => rfl
  | false => have := h.ntrans y x z h1 h3; rw [this] at h2; cases h2
theorem lt_of_lt_le (h : SWO lt) {x y z : α} (h1 : lt x y = true) (h2 : lt z y = false) : lt x z = true := by
  cases h3 : lt x z with
  | true => rfl
  | false => have := h.ntrans x z y h3 h2; rw [this] at h1; cases h1
theorem mrg_assoc (h : SWO lt) : ∀ (n : Nat) (A B C : List α), A.length + B.length + C.length ≤ n → mrg lt (mrg lt A B) C = mrg lt A (mrg lt B C) := by
  intro n
  induction n with
  | zero =>
    intro A B C hn
    obtain rfl : A = [] := List.length_eq_zero_iff.1 (by omega)
    rw [mrg_nil_left, mrg_nil_left]
  | succ n ih =>
    intro A B C hn
    cases A with
    | nil => rw [mrg_nil_left, mrg_nil_left]
    | cons x a =>
      cases B with
      | nil => rw [mrg_nil_left, mrg_nil_right]
      | cons y b =>
        cases C with
        | nil => rw [mrg_nil_right, mrg_nil_right]
        | cons z c =>
          by_cases hyx : lt y x = true
          · rw [mrg_lt lt _ _ hyx]
            by_cases hzy : lt z y = true
            · have hzx := h.trans _ _ _ hzy hyx
              rw [mrg_lt lt _ _ hzy, mrg_lt lt _ _ hzy, mrg_lt lt _ _ hzx, ← ih (x :: a) (y :: b) c (by simp at hn ⊢; omega), mrg_lt lt _ _ hyx]
            · have hzy : lt z y = false := by simpa using hzy
              rw [mrg_ge lt _ _ hzy, mrg_ge lt _ _ hzy, mrg_lt lt _ _ hyx, ← ih (x :: a) b (z :: c) (by simp at hn ⊢; omega)]
          · have hyx : lt y x = false := by simpa using hyx
            rw [mrg_ge lt _ _ hyx]
            by_cases hzx : lt z x = true
            · have hzy : lt z y = true := lt_of_lt_le h hzx hyx
              rw [mrg_lt lt _ _ hzx, mrg_lt lt _ _ hzy, mrg_lt lt _ _ hzx, ← ih (x :: a) (y :: b) c (by simp at hn ⊢; omega), mrg_ge lt _ _ hyx]
            · have hzx : lt z x = false := by simpa using hzx
              rw [mrg_ge lt _ _ hzx, ih a (y :: b) (z :: c) (by simp at hn ⊢; omega)]
              by_cases hzy : lt z y = true
              · rw [mrg_lt lt _ _ hzy, mrg_ge lt _ _ hzx]
              · have hzy : lt z y = false := by simpa using hzy
                rw [mrg_ge lt _ _ hzy, mrg_ge lt _ _ hyx]
variable (lt)
/-- Sorted: one element behind the other. -/
def srt (l : List α) : List α := l.foldl (fun acc x => mrg lt acc [x]) []
/-- No element comes ahead of one that stands ahead of it. -/
def Asc (l : List α) : Prop := l.Pairwise (fun x y => lt y x = false)
theorem srt_snoc (l : List α) (x : α) : srt lt (l ++ [x]) = mrg lt (srt lt l) [x] := by unfold srt; rw [List.foldl_append]; rfl
theorem srt_one (x : α) : srt lt [x] = [x] := by show mrg lt [] [x] = [x]; rw [mrg_nil_left]
variable {lt}
theorem srt_append (h : SWO lt) (l : List α) : ∀ (n : Nat) (m : List α), m.length = n → srt lt (l ++ m) = mrg lt (srt lt l) (srt lt m) := by
  intro n
  induction n with
  | zero =>
    intro m hm
    obtain rfl : m = [] := List.length_eq_zero_iff.1 hm
    rw [List.append_nil]; show _ = mrg lt _ []; rw [mrg_nil_right]
  | succ n ih =>
    intro m hm
    obtain ⟨k, x, rfl⟩ : ∃ k x, m = k ++ [x] := ⟨m.dropLast, m.getLast (by intro e; rw [e] at hm; simp at hm), (List.dropLast_concat_getLast _).symm⟩
    have hk : k.length = n := by simp at hm; exact hm
    rw [← List.append_assoc, srt_snoc, ih k hk, srt_snoc, mrg_assoc h _ _ _ _ (Nat.le_refl _)]
theorem mem_mrg {z : α} : ∀ (n : Nat) (A B : List α), A.length + B.length ≤ n → (z ∈ mrg lt A B ↔ z ∈ A ∨ z ∈ B) := by
  intro n
  induction n with
  | zero =>
    intro A B hn
    obtain rfl : A = [] := List.length_eq_zero_iff.1 (by omega)
    rw [mrg_nil_left]; simp
  | succ n ih =>
    intro A B hn
    cases A with
    | nil => rw [mrg_nil_left]; simp
    | cons x a =>
      cases B with
      | nil => rw [mrg_nil_right]; simp
      | cons y b =>
        by_cases hyx : lt y x = true
        · rw [mrg_lt lt _ _ hyx, List.mem_cons, ih (x :: a) b (by simp at hn ⊢; omega), List.mem_cons, List.mem_cons]
          grind
        · have hyx : lt y x = false := by simpa using hyx
          rw [mrg_ge lt _ _ hyx, List.mem_cons, ih a (y :: b) (by simp at hn ⊢; omega), List.mem_cons, List.mem_cons]
          grind
theorem asc_mrg (h : SWO lt) : ∀ (n : Nat) (A B : List α), A.length + B.length ≤ n → Asc lt A → Asc lt B → Asc lt (mrg lt A B) := by
  intro n
  induction n with
  | zero =>
    intro A B hn hA hB
    obtain rfl : A = [] := List.length_eq_zero_iff.1 (by omega)
    rw [mrg_nil_left]; exact hB
  | succ n ih =>
    intro A B hn hA hB
    cases A with
    | nil => rw [mrg_nil_left]; exact hB
    | cons x a =>
      cases B with
      | nil => rw [mrg_nil_right]; exact hA
      | cons y b =>
        have hA' := List.pairwise_cons.1 hA
        have hB' := List.pairwise_cons.1 hB
        by_cases hyx : lt y x = true
        · rw [mrg_lt lt _ _ hyx]
          refine List.pairwise_cons.2 ⟨fun z hz => ?_, ih (x :: a) b (by simp at hn ⊢; omega) hA hB'.2⟩
          have hxy : lt x y = false := SWO.asymmA h hyx
          rcases (mem_mrg _ _ _ (Nat.le_refl _)).1 hz with hz | hz
          · rcases List.mem_cons.1 hz with rfl | hz
            · exact hxy
            · exact h.ntrans z x y (hA'.1 z hz) hxy
          · exact hB'.1 z hz
        · have hyx : lt y x = false := by simpa using hyx
          rw [mrg_ge lt _ _ hyx]
          refine List.pairwise_cons.2 ⟨fun z hz => ?_, ih a (y :: b) (by simp at hn ⊢; omega) hA'.2 hB⟩
          rcases (mem_mrg _ _ _ (Nat.le_refl _)).1 hz with hz | hz
          · exact hA'.1 z hz
          · rcases List.mem_cons.1 hz with rfl | hz
            · exact hyx
            · exact h.ntrans z y x (hB'.1 z hz) hyx
theorem asc_srt (h : SWO lt) : ∀ (n : Nat) (l : List α), l.length = n → Asc lt (srt lt l) := by
  intro n
  induction n with
  | zero =>
    intro l hl
    obtain rfl : l = [] := List.length_eq_zero_iff.1 hl
    exact List.Pairwise.nil
  | succ n ih =>
    intro l hl
    obtain ⟨k, x, rfl⟩ : ∃ k x, l = k ++ [x] := ⟨l.dropLast, l.getLast (by intro e; rw [e] at hl; simp at hl), (List.dropLast_concat_getLast _).symm⟩
    rw [srt_snoc]
    exact asc_mrg h _ _ _ (Nat.le_refl _) (ih k (by simpa using hl)) (List.pairwise_singleton _ _)
end
section
variable {α : Type}
/-- A row's so many elements from a place on. -/
def seg (f : Nat → α) (a n : Nat) : List α := (List.range' a n).map f
theorem seg_zero (f : Nat → α) (a : Nat) : seg f a 0 = [] := rfl
theorem seg_length (f : Nat → α) (a n : Nat) : (seg f a n).length = n := by simp [seg]
theorem seg_one (f : Nat → α) (a : Nat) : seg f a 1 = [f a] := rfl
theorem seg_succ (f : Nat → α) (a n : Nat) : seg f a (n + 1) = f a :: seg f (a + 1) n := by unfold seg; rw [List.range'_succ, List.map_cons]
theorem seg_add (f : Nat → α) : ∀ (n a m : Nat), seg f a (n + m) = seg f a n ++ seg f (a + n) m := by
  intro n
  induction n with
  | zero => intro a m; rw [seg_zero, Nat.zero_add]; rfl
  | succ n ih => intro a m; rw [show n + 1 + m = (n + m) + 1 by omega, seg_succ, seg_succ, ih, List.cons_append, show a + (n + 1) = a + 1 + n by omega]
theorem seg_cut (f : Nat → α) {a m b : Nat} (h1 : a ≤ m) (h2 : m ≤ b) : seg f a (b - a) = seg f a (m - a) ++ seg f m (b - m) := by
  rw [show b - a = (m - a) + (b - m) by omega, seg_add, show a + (m - a) = m by omega]
theorem seg_eq (f g : Nat → α) : ∀ (n a b : Nat), (∀ t, t < n → f (a + t) = g (b + t)) → seg f a n = seg g b n := by
  intro n
  induction n with
  | zero => intro a b _; rfl
  | succ n ih =>
    intro a b h
    rw [seg_succ, seg_succ, show f a = g b from h 0 (by omega), ih (a + 1) (b + 1) (fun t ht => by
      have := h (t + 1) (by omega)
      rw [show a + 1 + t = a + (t + 1) by omega, show b + 1 + t = b + (t + 1) by omega]; exact this)]
theorem seg_mem {f : Nat → α} {x : α} : ∀ {n a : Nat}, x ∈ seg f a n ↔ ∃ k, a ≤ k ∧ k < a + n ∧ x = f k := by
  intro n a
  unfold seg
  rw [List.mem_map]
  constructor
  · rintro ⟨k, hk, rfl⟩
    have := List.mem_range'_1.1 hk
    exact ⟨k, this.1, this.2, rfl⟩
  · rintro ⟨k, h1, h2, rfl⟩
    exact ⟨k, List.mem_range'_1.2 ⟨h1, h2⟩, rfl⟩
variable (lt : α → α → Bool)
/-- Ascending from a place on, up to another. -/
def AscF (f : Nat → α) (a b : Nat) : Prop := ∀ i j, a ≤ i → i < j → j < b → lt (f j) (f i) = false
theorem asc_seg (f : Nat → α) : ∀ (n a : Nat), Asc lt (seg f a n) ↔ AscF lt f a (a + n) := by
  intro n
  induction n with
  | zero => intro a; exact ⟨fun _ i j h1 h2 h3 => by omega, fun _ => List.Pairwise.nil⟩
  | succ n ih =>
    intro a
    rw [seg_succ]
    unfold Asc
    rw [List.pairwise_cons]
    constructor
    · rintro ⟨h1, h2⟩ i j hi hij hj
      by_cases e : i = a
      · subst e; exact h1 _ (seg_mem.2 ⟨j, by omega, by omega, rfl⟩)
      · exact (ih (a + 1)).1 h2 i j (by omega) hij (by omega)
    · intro h
      refine ⟨fun y hy => ?_, (ih (a + 1)).2 (fun i j h1 h2 h3 => h i j (by omega) h2 (by omega))⟩
      obtain ⟨k, h1, h2, rfl⟩ := seg_mem.1 hy
      exact h a k (by omega) (by omega) (by omega)
theorem AscF.of {lt : α → α → Bool} {f : Nat → α} {a b : Nat} (hab : a ≤ b) (h : Asc lt (seg f a (b - a))) : AscF lt f a b := by
  have := (asc_seg lt f (b - a) a).1 h
  rwa [show a + (b - a) = b by omega] at this
theorem AscF.sub {lt : α → α → Bool} {f : Nat → α} {a b a' b' : Nat} (h : AscF lt f a b) (h1 : a ≤ a') (h2 : b' ≤ b) : AscF lt f a' b' := fun i j hi hij hj => h i j (by omega) hij (by omega)
/-- A row of which [a, m) and [m, b) have changed places. -/
def rotF (f : Nat → α) (a m b : Nat) : Nat → α := fun k => if a ≤ k ∧ k < a + (b - m) then f (k + m - a) else if a + (b - m) ≤ k ∧ k < b then f (k - (b - m)) else f k
theorem rotF_left (f : Nat → α) {a m b k : Nat} (h1 : a ≤ k) (h2 : k < a + (b - m)) : rotF f a m b k = f (k + m - a) := by unfold rotF; rw [if_pos ⟨h1, h2⟩]
theorem rotF_right (f : Nat → α) {a m b k : Nat} (h1 : a + (b - m) ≤ k) (h2 : k < b) : rotF f a m b k = f (k - (b - m)) := by unfold rotF; rw [if_neg (by omega), if_pos ⟨h1, h2⟩]
theorem rotF_else (f : Nat → α) {a m b k : Nat} (ham : a ≤ m) (hmb : m ≤ b) (h : k < a ∨ b ≤ k) : rotF f a m b k = f k := by unfold rotF; rw [if_neg (by omega), if_neg (by omega)]
theorem rotF_none (f : Nat → α) (a m b : Nat) (hmb : m ≤ b) (ham : a ≤ m) (h : a = m ∨ m = b) : ∀ k, rotF f a m b k = f k := by
  intro k
  rcases h with rfl | rfl
  · unfold rotF
    by_cases h1 : a ≤ k ∧ k < a + (b - a)
    · rw [if_pos h1]; congr 1; omega
    · rw [if_neg h1]
      rw [if_neg (by omega)]
  · unfold rotF
    rw [if_neg (by omega)]
    by_cases h1 : a + (m - m) ≤ k ∧ k < m
    · rw [if_pos h1]; congr 1; omega
    · rw [if_neg h1]
/-- A row of which so many elements from a on and from b on have changed places. -/
def swrF (f : Nat → α) (a b n : Nat) : Nat → α := fun k => if a ≤ k ∧ k < a + n then f (k + b - a) else if b ≤ k ∧ k < b + n then f (k + a - b) else f k
theorem rot_more (f g : Nat → α) {m i j : Nat} (hi : i ≤ m) (hji : j < i) (hg : ∀ k, g k = swrF f (m - i) m j k) : ∀ k, rotF g (m - (i - j)) m (m + j) k = rotF f (m - i) m (m + j) k := by
  intro k
  by_cases c1 : k < m - i
  · rw [rotF_else _ (by omega) (by omega) (by omega), rotF_else _ (by omega) (by omega) (by omega), hg]
    unfold swrF; rw [if_neg (by omega), if_neg (by omega)]
  · by_cases c2 : k < m - i + j
    · rw [rotF_else _ (by omega) (by omega) (by omega), rotF_left _ (by omega) (by omega), hg]
      unfold swrF; rw [if_pos (by omega)]
    · by_cases c3 : k < m + j
      · rw [rotF_right f (by omega) (by omega)]
        by_cases c4 : k < m - (i - j) + j
        · rw [rotF_left _ (by omega) (by omega), hg]
          unfold swrF
          rw [if_neg (by omega), if_pos (by omega)]
          congr 1; omega
        · rw [rotF_right _ (by omega) (by omega), hg]
          unfold swrF
          rw [if_neg (by omega), if_neg (by omega)]
      · rw [rotF_else _ (by omega) (by omega) (by omega), rotF_else _ (by omega) (by omega) (by omega), hg]
        unfold swrF; rw [if_neg (by omega), if_neg (by omega)]
theorem rot_less (f g : Nat → α) {m i j : Nat} (hi : i ≤ m) (hji : i < j) (hg : ∀ k, g k = swrF f (m - i) (m + j - i) i k) : ∀ k, rotF g (m - i) m (m + (j - i)) k = rotF f (m - i) m (m + j) k := by
  intro k
  by_cases c1 : k < m - i
  · rw [rotF_else _ (by omega) (by omega) (by omega), rotF_else _ (by omega) (by omega) (by omega), hg]
    unfold swrF; rw [if_neg (by omega), if_neg (by omega)]
  · by_cases c2 : k < m + (j - i)
    · by_cases c3 : k < m - i + (j - i)
      · rw [rotF_left _ (by omega) (by omega), rotF_left _ (by omega) (by omega), hg]
        unfold swrF; rw [if_neg (by omega), if_neg (by omega)]
      · rw [rotF_right _ (by omega) (by omega), rotF_left _ (by omega) (by omega), hg]
        unfold swrF
        rw [if_pos (by omega)]
        congr 1; omega
    · by_cases c3 : k < m + j
      · rw [rotF_else _ (by omega) (by omega) (by omega), rotF_right _ (by omega) (by omega), hg]
        unfold swrF
        rw [if_neg (by omega), if_pos (by omega)]
        congr 1; omega
      · rw [rotF_else _ (by omega) (by omega) (by omega), rotF_else _ (by omega) (by omega) (by omega), hg]
        unfold swrF; rw [if_neg (by omega), if_neg (by omega)]
theorem rot_same (f g : Nat → α) {m i : Nat} (hi : i ≤ m) (hg : ∀ k, g k = swrF f (m - i) m i k) : ∀ k, g k = rotF f (m - i) m (m + i) k := by
  intro k
  rw [hg]
  unfold swrF rotF
  by_cases c1 : m - i ≤ k ∧ k < m - i + i
  · rw [if_pos c1, if_pos (by omega)]
  · rw [if_neg c1, if_neg (show ¬ (m - i ≤ k ∧ k < m - i + (m + i - m)) by omega)]
    by_cases c2 : m ≤ k ∧ k < m + i
    · rw [if_pos c2, if_pos (show m - i + (m + i - m) ≤ k ∧ k < m + i by omega)]; congr 1; omega
    · rw [if_neg c2, if_neg (show ¬ (m - i + (m + i - m) ≤ k ∧ k < m + i) by omega)]
/-- Merged in place: [a, m) and [m, b) of a row; all else stays. -/
def MrgF (f g : Nat → α) (a m b : Nat) : Prop := (∀ k, k < a ∨ b ≤ k → g k = f k) ∧ seg g a (b - a) = mrg lt (seg f a (m - a)) (seg f m (b - m))
variable {lt}
/-- The elements that change places, and the two lesser merges. -/
theorem mrgF_parts {f f1 f2 f3 : Nat → α} {a m b s mid e : Nat} (h1 : a ≤ s) (h2 : s ≤ m) (h3 : m ≤ e) (h4 : e ≤ b) (h5 : s + e = mid + m) (h6 : s ≤ mid) (h7 : mid ≤ e)
    (hx : ∀ i j, a ≤ i → i < s → e ≤ j → j < b → lt (f j) (f i) = false) (hy : ∀ i j, s ≤ i → i < m → m ≤ j → j < e → lt (f j) (f i) = true)
    (hr : ∀ k, f1 k = rotF f s m e k) (g2 : (a < s ∧ s < mid ∧ MrgF lt f1 f2 a s mid) ∨ (¬ (a < s ∧ s < mid) ∧ f2 = f1)) (g3 : (mid < e ∧ e < b ∧ MrgF lt f2 f3 mid e b) ∨ (¬ (mid < e ∧ e < b) ∧ f3 = f2)) :
    MrgF lt f f3 a m b := by
  have k1 : seg f1 a (s - a) = seg f a (s - a) := seg_eq _ _ _ _ _ (fun t ht => by rw [hr, rotF_else _ h2 h3 (by omega)])
  have k2 : seg f1 s (mid - s) = seg f m (e - m) := by
    rw [show mid - s = e - m by omega]
    exact seg_eq _ _ _ _ _ (fun t ht => by rw [hr, rotF_left _ (by omega) (by omega)]; congr 1; omega)
  have k3 : seg f1 mid (e - mid) = seg f s (m - s) := by
    rw [show e - mid = m - s by omega]
    exact seg_eq _ _ _ _ _ (fun t ht => by rw [hr, rotF_right _ (by omega) (by omega)]; congr 1; omega)
  have k4 : seg f1 e (b - e) = seg f e (b - e) := seg_eq _ _ _ _ _ (fun t ht => by rw [hr, rotF_else _ h2 h3 (by omega)])
  have out1 : ∀ k, k < a ∨ b ≤ k → f1 k = f k := fun k hk => by rw [hr, rotF_else _ h2 h3 (by omega)]
  have l2 : seg f2 a (mid - a) = mrg lt (seg f a (s - a)) (seg f m (e - m)) ∧ (∀ k, k < a ∨ mid ≤ k → f2 k = f1 k) := by
    rcases g2 with ⟨_, _, g, g'⟩ | ⟨g, rfl⟩
    · exact ⟨by rw [g', k1, k2], g⟩
    · refine ⟨?_, fun _ _ => rfl⟩
      rw [seg_cut _ (m := s) (by omega) (by omega), k1, k2]
      by_cases c : a < s
      · have : s = mid := by omega
        rw [show e - m = 0 by omega, seg_zero, mrg_nil_right, List.append_nil]
      · rw [show s - a = 0 by omega, seg_zero, mrg_nil_left]; rfl
  have l3 : seg f3 mid (b - mid) = mrg lt (seg f s (m - s)) (seg f e (b - e)) ∧ (∀ k, k < mid ∨ b ≤ k → f3 k = f2 k) := by
    have q3 : seg f2 mid (e - mid) = seg f s (m - s) := by rw [← k3]; exact seg_eq _ _ _ _ _ (fun t ht => l2.2 _ (by omega))
    have q4 : seg f2 e (b - e) = seg f e (b - e) := by rw [← k4]; exact seg_eq _ _ _ _ _ (fun t ht => l2.2 _ (by omega))
    rcases g3 with ⟨_, _, g, g'⟩ | ⟨g, rfl⟩
    · exact ⟨by rw [g', q3, q4], g⟩
    · refine ⟨?_, fun _ _ => rfl⟩
      rw [seg_cut _ (m := e) (by omega) (by omega), q3, q4]
      by_cases c : mid < e
      · rw [show b - e = 0 by omega, seg_zero, mrg_nil_right, List.append_nil]
      · rw [show m - s = 0 by omega, seg_zero, mrg_nil_left]; rfl
  refine ⟨fun k hk => by rw [l3.2 k (by omega), l2.2 k (by omega), out1 k hk], ?_⟩
  have q5 : seg f3 a (mid - a) = seg f2 a (mid - a) := seg_eq _ _ _ _ _ (fun t ht => l3.2 _ (by omega))
  rw [seg_cut f3 (m := mid) (by omega) (by omega), q5, l2.1, l3.1, seg_cut f h1 h2, seg_cut f h3 h4]
  refine (mrg_split lt _ _ _ _ _ (Nat.le_refl _) (fun x hx' y hy' => ?_) (fun y hy' x hx' => ?_)).symm
  · obtain ⟨i, i1, i2, rfl⟩ := seg_mem.1 hx'
    obtain ⟨j, j1, j2, rfl⟩ := seg_mem.1 hy'
    exact hx i j (by omega) (by omega) (by omega) (by omega)
  · obtain ⟨i, i1, i2, rfl⟩ := seg_mem.1 hx'
    obtain ⟨j, j1, j2, rfl⟩ := seg_mem.1 hy'
    exact hy i j (by omega) (by omega) (by omega) (by omega)
/-- One element ahead of the others: where it belongs. -/
theorem mrgF_first {f g : Nat → α} {a b i : Nat} (h1 : a + 1 ≤ i) (h2 : i ≤ b) (hx : ∀ j, a + 1 ≤ j → j < i → lt (f j) (f a) = true) (hy : ∀ j, i ≤ j → j < b → lt (f j) (f a) = false) (hr : ∀ k, g k = rotF f a (a + 1) i k) : MrgF lt f g a (a + 1) b := by
  refine ⟨fun k hk => by rw [hr, rotF_else _ (by omega) h1 (by omega)], ?_⟩
  have k1 : seg g a (i - 1 - a) = seg f (a + 1) (i - (a + 1)) := by
    rw [show i - 1 - a = i - (a + 1) by omega]
    exact seg_eq _ _ _ _ _ (fun t ht => by rw [hr, rotF_left _ (by omega) (by omega)]; congr 1; omega)
  have k2 : seg g (i - 1) (i - (i - 1)) = [f a] := by
    rw [show i - (i - 1) = 1 by omega, seg_one, hr, rotF_right _ (by omega) (by omega)]
    congr 2; omega
  have k3 : seg g i (b - i) = seg f i (b - i) := seg_eq _ _ _ _ _ (fun t ht => by rw [hr, rotF_else _ (by omega) (by omega) (by omega)])
  rw [seg_cut g (m := i - 1) (by omega) (by omega), seg_cut g (a := i - 1) (m := i) (by omega) (by omega), k1, k2, k3, show a + 1 - a = 1 by omega, seg_one, seg_cut f (a := a + 1) (m := i) h1 h2]
  rw [mrg_front lt [f a] _ _ (fun y hy' x hx' => by
    obtain rfl := List.mem_singleton.1 hx'
    obtain ⟨j, j1, j2, rfl⟩ := seg_mem.1 hy'
    exact hx j (by omega) (by omega))]
  congr 1
  have := mrg_ahead lt [f a] [] (seg f i (b - i)) (fun x hx' y hy' => by
    obtain rfl := List.mem_singleton.1 hx'
    obtain ⟨j, j1, j2, rfl⟩ := seg_mem.1 hy'
    exact hy j (by omega) (by omega))
  rw [List.append_nil, mrg_nil_left] at this
  exact this.symm
/-- One element behind the others: where it belongs. -/
theorem mrgF_last {f g : Nat → α} {a m i : Nat} (h1 : a ≤ i) (h2 : i ≤ m) (hx : ∀ j, a ≤ j → j < i → lt (f m) (f j) = false) (hy : ∀ j, i ≤ j → j < m → lt (f m) (f j) = true) (hr : ∀ k, g k = rotF f i m (m + 1) k) : MrgF lt f g a m (m + 1) := by
  refine ⟨fun k hk => by rw [hr, rotF_else _ h2 (by omega) (by omega)], ?_⟩
  have k1 : seg g a (i - a) = seg f a (i - a) := seg_eq _ _ _ _ _ (fun t ht => by rw [hr, rotF_else _ (by omega) (by omega) (by omega)])
  have k2 : seg g i (i + 1 - i) = [f m] := by
    rw [show i + 1 - i = 1 by omega, seg_one, hr, rotF_left _ (by omega) (by omega)]
    congr 2; omega
  have k3 : seg g (i + 1) (m + 1 - (i + 1)) = seg f i (m - i) := by
    rw [show m + 1 - (i + 1) = m - i by omega]
    exact seg_eq _ _ _ _ _ (fun t ht => by rw [hr, rotF_right _ (by omega) (by omega)]; congr 1; omega)
  rw [seg_cut g (m := i) (by omega) (by omega), seg_cut g (a := i) (m := i + 1) (by omega) (by omega), k1, k2, k3, show m + 1 - m = 1 by omega, seg_one, seg_cut f h1 h2]
  rw [mrg_ahead lt _ _ [f m] (fun x hx' y hy' => by
    obtain rfl := List.mem_singleton.1 hy'
    obtain ⟨j, j1, j2, rfl⟩ := seg_mem.1 hx'
    exact hx j (by omega) (by omega))]
  congr 1
  have := mrg_front lt (seg f i (m - i)) [f m] [] (fun y hy' x hx' => by
    obtain rfl := List.mem_singleton.1 hy'
    obtain ⟨j, j1, j2, rfl⟩ := seg_mem.1 hx'
    exact hy j (by omega) (by omega))
  rw [List.append_nil, mrg_nil_right] at this
  exact this.symm
end
end Go.Proofs.Ytnlhpldjficecaa
