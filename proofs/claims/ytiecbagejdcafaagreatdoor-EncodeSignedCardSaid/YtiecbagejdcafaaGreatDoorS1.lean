/- The stable order of a list, in plain words: merged, the left one's elements first where neither comes first; sorted, one element behind the other; and what a merge in place does with a row. They hold of lists and of rows of any kind, under a strict weak order. -/
import Derived.Sort.LotA
import Derived.Shelf.GgSortMore.Stable
import Derived.Test.YtiecbagejdcafaaGreatDoorChecked
import Derived.Deep.LoopGhost
import Derived.Lib.Hide
import Derived.Handy
namespace Go.Proofs.YtiecbagejdcafaaGreatDoor
open Go.Sort
set_option linter.unusedVariables false
section
variable {α : Type} (lt : α → α → Bool)
def mrg : List α → List α → List α
 |[], ys => ys
 |x :: xs, [] => x :: xs
 |x :: xs, y :: ys => if lt y x = true then y :: mrg (x :: xs) ys else x :: mrg xs (y :: ys)
termination_by l m => l.length + m.length
theorem mrg_nil_left (ys : List α) : mrg lt [] ys = ys := by rw [mrg]
theorem mrg_nil_right (xs : List α) : mrg lt xs [] = xs := by cases xs <;> rw [mrg]
theorem mrg_lt {x y : α} (xs ys : List α) (h : lt y x = true) : mrg lt (x :: xs) (y :: ys) = y :: mrg lt (x :: xs) ys := by rw [mrg, if_pos h]
theorem mrg_ge {x y : α} (xs ys : List α) (h : lt y x = false) : mrg lt (x :: xs) (y :: ys) = x :: mrg lt xs (y :: ys) := by rw [mrg, if_neg (by rw [h]; exact Bool.false_ne_true)]
theorem mrg_front (A B1 B2 : List α) (h : ∀ y ∈ B1, ∀ x ∈ A, lt y x = true) : mrg lt A (B1 ++ B2) = B1 ++ mrg lt A B2 := by
 cases A with
 |nil => rw [mrg_nil_left, mrg_nil_left]
 |cons x xs =>
  induction B1 with
  |nil => rfl
  |cons y ys ih =>
   rw [List.cons_append, mrg_lt lt _ _ (h y (.head _) x (.head _)), ih (fun z hz => h z (.tail _ hz)), List.cons_append]
theorem mrg_ahead (A1 A2 B : List α) (h : ∀ x ∈ A1, ∀ y ∈ B, lt y x = false) : mrg lt (A1 ++ A2) B = A1 ++ mrg lt A2 B := by
 cases B with
 |nil => rw [mrg_nil_right, mrg_nil_right]
 |cons y ys =>
  induction A1 with
  |nil => rfl
  |cons x xs ih =>
   rw [List.cons_append, mrg_ge lt _ _ (h x (.head _) y (.head _)), ih (fun z hz => h z (.tail _ hz)), List.cons_append]
theorem mrg_split : ∀ (n : Nat) (A1 A2 B1 B2 : List α), A1.length + B1.length ≤ n → (∀ x ∈ A1, ∀ y ∈ B2, lt y x = false) → (∀ y ∈ B1, ∀ x ∈ A2, lt y x = true) →
  mrg lt (A1 ++ A2) (B1 ++ B2) = mrg lt A1 B1 ++ mrg lt A2 B2 := by
 intro n
 induction n with
 |zero =>
  intro A1 A2 B1 B2 hn _ _
  obtain rfl : A1 = [] := List.length_eq_zero_iff.1 (by omega)
  obtain rfl : B1 = [] := List.length_eq_zero_iff.1 (by omega)
  rw [mrg_nil_left]; rfl
 |succ n ih =>
  intro A1 A2 B1 B2 hn h1 h2
  cases A1 with
  |nil => rw [List.nil_append, mrg_nil_left, mrg_front lt _ _ _ h2]
  |cons x xs =>
   cases B1 with
   |nil => rw [List.nil_append, mrg_nil_right, mrg_ahead lt _ _ _ h1]
   |cons y ys =>
    rw [List.cons_append, List.cons_append]
    by_cases h : lt y x = true
    ·rw [mrg_lt lt _ _ h, mrg_lt lt _ _ h, List.cons_append, ← List.cons_append, ih (x :: xs) A2 ys B2 (by simp at hn ⊢; omega) h1 (fun z hz => h2 z (.tail _ hz))]
    ·have h : lt y x = false := by simpa using h
     rw [mrg_ge lt _ _ h, mrg_ge lt _ _ h, List.cons_append, ← List.cons_append, ih xs A2 (y :: ys) B2 (by simp at hn ⊢; omega) (fun z hz => h1 z (.tail _ hz)) h2]
variable {lt}
theorem lt_of_le_lt (h : SWO lt) {x y z : α} (h1 : lt y x = false) (h2 : lt y z = true) : lt x z = true := by
 cases h3 : lt x z with
 |true => rfl
 |false => have := h.ntrans y x z h1 h3; rw [this] at h2; cases h2
theorem lt_of_lt_le (h : SWO lt) {x y z : α} (h1 : lt x y = true) (h2 : lt z y = false) : lt x z = true := by
 cases h3 : lt x z with
 |true => rfl
 |false => have := h.ntrans x z y h3 h2; rw [this] at h1; cases h1
theorem mrg_assoc (h : SWO lt) : ∀ (n : Nat) (A B C : List α), A.length + B.length + C.length ≤ n → mrg lt (mrg lt A B) C = mrg lt A (mrg lt B C) := by
 intro n
 induction n with
 |zero =>
  intro A B C hn
  obtain rfl : A = [] := List.length_eq_zero_iff.1 (by omega)
  rw [mrg_nil_left, mrg_nil_left]
 |succ n ih =>
  intro A B C hn
  cases A with
  |nil => rw [mrg_nil_left, mrg_nil_left]
  |cons x a =>
   cases B with
   |nil => rw [mrg_nil_left, mrg_nil_right]
   |cons y b =>
    cases C with
    |nil => rw [mrg_nil_right, mrg_nil_right]
    |cons z c =>
     by_cases hyx : lt y x = true
     ·rw [mrg_lt lt _ _ hyx]
      by_cases hzy : lt z y = true
      ·have hzx := h.trans _ _ _ hzy hyx
       rw [mrg_lt lt _ _ hzy, mrg_lt lt _ _ hzy, mrg_lt lt _ _ hzx, ← ih (x :: a) (y :: b) c (by simp at hn ⊢; omega), mrg_lt lt _ _ hyx]
      ·have hzy : lt z y = false := by simpa using hzy
       rw [mrg_ge lt _ _ hzy, mrg_ge lt _ _ hzy, mrg_lt lt _ _ hyx, ← ih (x :: a) b (z :: c) (by simp at hn ⊢; omega)]
     ·have hyx : lt y x = false := by simpa using hyx
      rw [mrg_ge lt _ _ hyx]
      by_cases hzx : lt z x = true
      ·have hzy : lt z y = true := lt_of_lt_le h hzx hyx
       rw [mrg_lt lt _ _ hzx, mrg_lt lt _ _ hzy, mrg_lt lt _ _ hzx, ← ih (x :: a) (y :: b) c (by simp at hn ⊢; omega), mrg_ge lt _ _ hyx]
      ·have hzx : lt z x = false := by simpa using hzx
       rw [mrg_ge lt _ _ hzx, ih a (y :: b) (z :: c) (by simp at hn ⊢; omega)]
       by_cases hzy : lt z y = true
       ·rw [mrg_lt lt _ _ hzy, mrg_ge lt _ _ hzx]
       ·have hzy : lt z y = false := by simpa using hzy
        rw [mrg_ge lt _ _ hzy, mrg_ge lt _ _ hyx]
variable (lt)
def srt (l : List α) : List α := l.foldl (fun acc x => mrg lt acc [x]) []
def Asc (l : List α) : Prop := l.Pairwise (fun x y => lt y x = false)
theorem srt_snoc (l : List α) (x : α) : srt lt (l ++ [x]) = mrg lt (srt lt l) [x] := by unfold srt; rw [List.foldl_append]; rfl
theorem srt_one (x : α) : srt lt [x] = [x] := by show mrg lt [] [x] = [x]; rw [mrg_nil_left]
variable {lt}
theorem srt_append (h : SWO lt) (l : List α) : ∀ (n : Nat) (m : List α), m.length = n → srt lt (l ++ m) = mrg lt (srt lt l) (srt lt m) := by
 intro n
 induction n with
 |zero =>
  intro m hm
  obtain rfl : m = [] := List.length_eq_zero_iff.1 hm
  rw [List.append_nil]; show _ = mrg lt _ []; rw [mrg_nil_right]
 |succ n ih =>
  intro m hm
  obtain ⟨k, x, rfl⟩ : ∃ k x, m = k ++ [x] := ⟨m.dropLast, m.getLast (by intro e; rw [e] at hm; simp at hm), (List.dropLast_concat_getLast _).symm⟩
  have hk : k.length = n := by simp at hm; exact hm
  rw [← List.append_assoc, srt_snoc, ih k hk, srt_snoc, mrg_assoc h _ _ _ _ (Nat.le_refl _)]
theorem mem_mrg {z : α} : ∀ (n : Nat) (A B : List α), A.length + B.length ≤ n → (z ∈ mrg lt A B ↔ z ∈ A ∨ z ∈ B) := by
 intro n
 induction n with
 |zero =>
  intro A B hn
  obtain rfl : A = [] := List.length_eq_zero_iff.1 (by omega)
  rw [mrg_nil_left]; simp
 |succ n ih =>
  intro A B hn
  cases A with
  |nil => rw [mrg_nil_left]; simp
  |cons x a =>
   cases B with
   |nil => rw [mrg_nil_right]; simp
   |cons y b =>
    by_cases hyx : lt y x = true
    ·rw [mrg_lt lt _ _ hyx, List.mem_cons, ih (x :: a) b (by simp at hn ⊢; omega), List.mem_cons, List.mem_cons]
     grind
    ·have hyx : lt y x = false := by simpa using hyx
     rw [mrg_ge lt _ _ hyx, List.mem_cons, ih a (y :: b) (by simp at hn ⊢; omega), List.mem_cons, List.mem_cons]
     grind
theorem asc_mrg (h : SWO lt) : ∀ (n : Nat) (A B : List α), A.length + B.length ≤ n → Asc lt A → Asc lt B → Asc lt (mrg lt A B) := by
 intro n
 induction n with
 |zero =>
  intro A B hn hA hB
  obtain rfl : A = [] := List.length_eq_zero_iff.1 (by omega)
  rw [mrg_nil_left]; exact hB
 |succ n ih =>
  intro A B hn hA hB
  cases A with
  |nil => rw [mrg_nil_left]; exact hB
  |cons x a =>
   cases B with
   |nil => rw [mrg_nil_right]; exact hA
   |cons y b =>
    have hA' := List.pairwise_cons.1 hA
    have hB' := List.pairwise_cons.1 hB
    by_cases hyx : lt y x = true
    ·rw [mrg_lt lt _ _ hyx]
     refine List.pairwise_cons.2 ⟨fun z hz => ?_, ih (x :: a) b (by simp at hn ⊢; omega) hA hB'.2⟩
     have hxy : lt x y = false := SWO.asymmA h hyx
     rcases (mem_mrg _ _ _ (Nat.le_refl _)).1 hz with hz | hz
     ·rcases List.mem_cons.1 hz with rfl | hz
      ·exact hxy
      ·exact h.ntrans z x y (hA'.1 z hz) hxy
     ·exact hB'.1 z hz
    ·have hyx : lt y x = false := by simpa using hyx
     rw [mrg_ge lt _ _ hyx]
     refine List.pairwise_cons.2 ⟨fun z hz => ?_, ih a (y :: b) (by simp at hn ⊢; omega) hA'.2 hB⟩
     rcases (mem_mrg _ _ _ (Nat.le_refl _)).1 hz with hz | hz
     ·exact hA'.1 z hz
     ·rcases List.mem_cons.1 hz with rfl | hz
      ·exact hyx
      ·exact h.ntrans z y x (hB'.1 z hz) hyx
theorem asc_srt (h : SWO lt) : ∀ (n : Nat) (l : List α), l.length = n → Asc lt (srt lt l) := by
 intro n
 induction n with
 |zero =>
  intro l hl
  obtain rfl : l = [] := List.length_eq_zero_iff.1 hl
  exact List.Pairwise.nil
 |succ n ih =>
  intro l hl
  obtain ⟨k, x, rfl⟩ : ∃ k x, l = k ++ [x] := ⟨l.dropLast, l.getLast (by intro e; rw [e] at hl; simp at hl), (List.dropLast_concat_getLast _).symm⟩
  rw [srt_snoc]
  exact asc_mrg h _ _ _ (Nat.le_refl _) (ih k (by simpa using hl)) (List.pairwise_singleton _ _)
end
section
variable {α : Type}
def sgm (f : Nat → α) (a n : Nat) : List α := (List.range' a n).map f
theorem seg_zero (f : Nat → α) (a : Nat) : sgm f a 0 = [] := rfl
theorem seg_length (f : Nat → α) (a n : Nat) : (sgm f a n).length = n := by simp [sgm]
theorem seg_one (f : Nat → α) (a : Nat) : sgm f a 1 = [f a] := rfl
theorem sgm_succ (f : Nat → α) (a n : Nat) : sgm f a (n + 1) = f a :: sgm f (a + 1) n := by unfold sgm; rw [List.range'_succ, List.map_cons]
theorem seg_add (f : Nat → α) : ∀ (n a m : Nat), sgm f a (n + m) = sgm f a n ++ sgm f (a + n) m := by
 intro n
 induction n with
 |zero => intro a m; rw [seg_zero, Nat.zero_add]; rfl
 |succ n ih => intro a m; rw [show n + 1 + m = (n + m) + 1 by omega, sgm_succ, sgm_succ, ih, List.cons_append, show a + (n + 1) = a + 1 + n by omega]
theorem seg_cut (f : Nat → α) {a m b : Nat} (h1 : a ≤ m) (h2 : m ≤ b) : sgm f a (b - a) = sgm f a (m - a) ++ sgm f m (b - m) := by
 rw [show b - a = (m - a) + (b - m) by omega, seg_add, show a + (m - a) = m by omega]
theorem seg_eq (f g : Nat → α) : ∀ (n a b : Nat), (∀ t, t < n → f (a + t) = g (b + t)) → sgm f a n = sgm g b n := by
 intro n
 induction n with
 |zero => intro a b _; rfl
 |succ n ih =>
  intro a b h
  rw [sgm_succ, sgm_succ, show f a = g b from h 0 (by omega), ih (a + 1) (b + 1) (fun t ht => by
   have := h (t + 1) (by omega)
   rw [show a + 1 + t = a + (t + 1) by omega, show b + 1 + t = b + (t + 1) by omega]; exact this)]
theorem seg_mem {f : Nat → α} {x : α} : ∀ {n a : Nat}, x ∈ sgm f a n ↔ ∃ k, a ≤ k ∧ k < a + n ∧ x = f k := by
 intro n a
 unfold sgm
 rw [List.mem_map]
 constructor
 ·rintro ⟨k, hk, rfl⟩
  have := List.mem_range'_1.1 hk
  exact ⟨k, this.1, this.2, rfl⟩
 ·rintro ⟨k, h1, h2, rfl⟩
  exact ⟨k, List.mem_range'_1.2 ⟨h1, h2⟩, rfl⟩
variable (lt : α → α → Bool)
def AscF (f : Nat → α) (a b : Nat) : Prop := ∀ i j, a ≤ i → i < j → j < b → lt (f j) (f i) = false
theorem asc_seg (f : Nat → α) : ∀ (n a : Nat), Asc lt (sgm f a n) ↔ AscF lt f a (a + n) := by
 intro n
 induction n with
 |zero => intro a; exact ⟨fun _ i j h1 h2 h3 => by omega, fun _ => List.Pairwise.nil⟩
 |succ n ih =>
  intro a
  rw [sgm_succ]
  unfold Asc
  rw [List.pairwise_cons]
  constructor
  ·rintro ⟨h1, h2⟩ i j hi hij hj
   by_cases e : i = a
   ·subst e; exact h1 _ (seg_mem.2 ⟨j, by omega, by omega, rfl⟩)
   ·exact (ih (a + 1)).1 h2 i j (by omega) hij (by omega)
  ·intro h
   refine ⟨fun y hy => ?_, (ih (a + 1)).2 (fun i j h1 h2 h3 => h i j (by omega) h2 (by omega))⟩
   obtain ⟨k, h1, h2, rfl⟩ := seg_mem.1 hy
   exact h a k (by omega) (by omega) (by omega)
theorem AscF.of {lt : α → α → Bool} {f : Nat → α} {a b : Nat} (hab : a ≤ b) (h : Asc lt (sgm f a (b - a))) : AscF lt f a b := by
 have := (asc_seg lt f (b - a) a).1 h
 rwa [show a + (b - a) = b by omega] at this
def rotF (f : Nat → α) (a m b : Nat) : Nat → α := fun k => if a ≤ k ∧ k < a + (b - m) then f (k + m - a) else if a + (b - m) ≤ k ∧ k < b then f (k - (b - m)) else f k
theorem rotF_left (f : Nat → α) {a m b k : Nat} (h1 : a ≤ k) (h2 : k < a + (b - m)) : rotF f a m b k = f (k + m - a) := by unfold rotF; rw [if_pos ⟨h1, h2⟩]
theorem rotF_right (f : Nat → α) {a m b k : Nat} (h1 : a + (b - m) ≤ k) (h2 : k < b) : rotF f a m b k = f (k - (b - m)) := by unfold rotF; rw [if_neg (by omega), if_pos ⟨h1, h2⟩]
theorem rotF_else (f : Nat → α) {a m b k : Nat} (ham : a ≤ m) (hmb : m ≤ b) (h : k < a ∨ b ≤ k) : rotF f a m b k = f k := by unfold rotF; rw [if_neg (by omega), if_neg (by omega)]
theorem rotF_none (f : Nat → α) (a m b : Nat) (hmb : m ≤ b) (ham : a ≤ m) (h : a = m ∨ m = b) : ∀ k, rotF f a m b k = f k := by
 intro k
 rcases h with rfl | rfl
 ·unfold rotF
  by_cases h1 : a ≤ k ∧ k < a + (b - a)
  ·rw [if_pos h1]; congr 1; omega
  ·rw [if_neg h1]
   rw [if_neg (by omega)]
 ·unfold rotF
  rw [if_neg (by omega)]
  by_cases h1 : a + (m - m) ≤ k ∧ k < m
  ·rw [if_pos h1]; congr 1; omega
  ·rw [if_neg h1]
def swrF (f : Nat → α) (a b n : Nat) : Nat → α := fun k => if a ≤ k ∧ k < a + n then f (k + b - a) else if b ≤ k ∧ k < b + n then f (k + a - b) else f k
theorem rot_more (f g : Nat → α) {m i j : Nat} (hi : i ≤ m) (hji : j < i) (hg : ∀ k, g k = swrF f (m - i) m j k) : ∀ k, rotF g (m - (i - j)) m (m + j) k = rotF f (m - i) m (m + j) k := by
 intro k
 by_cases c1 : k < m - i
 ·rw [rotF_else _ (by omega) (by omega) (by omega), rotF_else _ (by omega) (by omega) (by omega), hg]
  unfold swrF; rw [if_neg (by omega), if_neg (by omega)]
 ·by_cases c2 : k < m - i + j
  ·rw [rotF_else _ (by omega) (by omega) (by omega), rotF_left _ (by omega) (by omega), hg]
   unfold swrF; rw [if_pos (by omega)]
  ·by_cases c3 : k < m + j
   ·rw [rotF_right f (by omega) (by omega)]
    by_cases c4 : k < m - (i - j) + j
    ·rw [rotF_left _ (by omega) (by omega), hg]
     unfold swrF
     rw [if_neg (by omega), if_pos (by omega)]
     congr 1; omega
    ·rw [rotF_right _ (by omega) (by omega), hg]
     unfold swrF
     rw [if_neg (by omega), if_neg (by omega)]
   ·rw [rotF_else _ (by omega) (by omega) (by omega), rotF_else _ (by omega) (by omega) (by omega), hg]
    unfold swrF; rw [if_neg (by omega), if_neg (by omega)]
theorem rot_less (f g : Nat → α) {m i j : Nat} (hi : i ≤ m) (hji : i < j) (hg : ∀ k, g k = swrF f (m - i) (m + j - i) i k) : ∀ k, rotF g (m - i) m (m + (j - i)) k = rotF f (m - i) m (m + j) k := by
 intro k
 by_cases c1 : k < m - i
 ·rw [rotF_else _ (by omega) (by omega) (by omega), rotF_else _ (by omega) (by omega) (by omega), hg]
  unfold swrF; rw [if_neg (by omega), if_neg (by omega)]
 ·by_cases c2 : k < m + (j - i)
  ·by_cases c3 : k < m - i + (j - i)
   ·rw [rotF_left _ (by omega) (by omega), rotF_left _ (by omega) (by omega), hg]
    unfold swrF; rw [if_neg (by omega), if_neg (by omega)]
   ·rw [rotF_right _ (by omega) (by omega), rotF_left _ (by omega) (by omega), hg]
    unfold swrF
    rw [if_pos (by omega)]
    congr 1; omega
  ·by_cases c3 : k < m + j
   ·rw [rotF_else _ (by omega) (by omega) (by omega), rotF_right _ (by omega) (by omega), hg]
    unfold swrF
    rw [if_neg (by omega), if_pos (by omega)]
    congr 1; omega
   ·rw [rotF_else _ (by omega) (by omega) (by omega), rotF_else _ (by omega) (by omega) (by omega), hg]
    unfold swrF; rw [if_neg (by omega), if_neg (by omega)]
theorem rot_same (f g : Nat → α) {m i : Nat} (hi : i ≤ m) (hg : ∀ k, g k = swrF f (m - i) m i k) : ∀ k, g k = rotF f (m - i) m (m + i) k := by
 intro k
 rw [hg]
 unfold swrF rotF
 by_cases c1 : m - i ≤ k ∧ k < m - i + i
 ·rw [if_pos c1, if_pos (by omega)]
 ·rw [if_neg c1, if_neg (show ¬ (m - i ≤ k ∧ k < m - i + (m + i - m)) by omega)]
  by_cases c2 : m ≤ k ∧ k < m + i
  ·rw [if_pos c2, if_pos (show m - i + (m + i - m) ≤ k ∧ k < m + i by omega)]; congr 1; omega
  ·rw [if_neg c2, if_neg (show ¬ (m - i + (m + i - m) ≤ k ∧ k < m + i) by omega)]
def MrgF (f g : Nat → α) (a m b : Nat) : Prop := (∀ k, k < a ∨ b ≤ k → g k = f k) ∧ sgm g a (b - a) = mrg lt (sgm f a (m - a)) (sgm f m (b - m))
variable {lt}
theorem mrgF_parts {f f1 f2 f3 : Nat → α} {a m b s mid e : Nat} (h1 : a ≤ s) (h2 : s ≤ m) (h3 : m ≤ e) (h4 : e ≤ b) (h5 : s + e = mid + m) (h6 : s ≤ mid) (h7 : mid ≤ e)
  (hx : ∀ i j, a ≤ i → i < s → e ≤ j → j < b → lt (f j) (f i) = false) (hy : ∀ i j, s ≤ i → i < m → m ≤ j → j < e → lt (f j) (f i) = true)
  (hr : ∀ k, f1 k = rotF f s m e k) (g2 : (a < s ∧ s < mid ∧ MrgF lt f1 f2 a s mid) ∨ (¬ (a < s ∧ s < mid) ∧ f2 = f1)) (g3 : (mid < e ∧ e < b ∧ MrgF lt f2 f3 mid e b) ∨ (¬ (mid < e ∧ e < b) ∧ f3 = f2)) :
  MrgF lt f f3 a m b := by
 have k1 : sgm f1 a (s - a) = sgm f a (s - a) := seg_eq _ _ _ _ _ (fun t ht => by rw [hr, rotF_else _ h2 h3 (by omega)])
 have k2 : sgm f1 s (mid - s) = sgm f m (e - m) := by
  rw [show mid - s = e - m by omega]
  exact seg_eq _ _ _ _ _ (fun t ht => by rw [hr, rotF_left _ (by omega) (by omega)]; congr 1; omega)
 have k3 : sgm f1 mid (e - mid) = sgm f s (m - s) := by
  rw [show e - mid = m - s by omega]
  exact seg_eq _ _ _ _ _ (fun t ht => by rw [hr, rotF_right _ (by omega) (by omega)]; congr 1; omega)
 have k4 : sgm f1 e (b - e) = sgm f e (b - e) := seg_eq _ _ _ _ _ (fun t ht => by rw [hr, rotF_else _ h2 h3 (by omega)])
 have out1 : ∀ k, k < a ∨ b ≤ k → f1 k = f k := fun k hk => by rw [hr, rotF_else _ h2 h3 (by omega)]
 have l2 : sgm f2 a (mid - a) = mrg lt (sgm f a (s - a)) (sgm f m (e - m)) ∧ (∀ k, k < a ∨ mid ≤ k → f2 k = f1 k) := by
  rcases g2 with ⟨_, _, g, g'⟩ | ⟨g, rfl⟩
  ·exact ⟨by rw [g', k1, k2], g⟩
  ·refine ⟨?_, fun _ _ => rfl⟩
   rw [seg_cut _ (m := s) (by omega) (by omega), k1, k2]
   by_cases c : a < s
   ·have : s = mid := by omega
    rw [show e - m = 0 by omega, seg_zero, mrg_nil_right, List.append_nil]
   ·rw [show s - a = 0 by omega, seg_zero, mrg_nil_left]; rfl
 have l3 : sgm f3 mid (b - mid) = mrg lt (sgm f s (m - s)) (sgm f e (b - e)) ∧ (∀ k, k < mid ∨ b ≤ k → f3 k = f2 k) := by
  have q3 : sgm f2 mid (e - mid) = sgm f s (m - s) := by rw [← k3]; exact seg_eq _ _ _ _ _ (fun t ht => l2.2 _ (by omega))
  have q4 : sgm f2 e (b - e) = sgm f e (b - e) := by rw [← k4]; exact seg_eq _ _ _ _ _ (fun t ht => l2.2 _ (by omega))
  rcases g3 with ⟨_, _, g, g'⟩ | ⟨g, rfl⟩
  ·exact ⟨by rw [g', q3, q4], g⟩
  ·refine ⟨?_, fun _ _ => rfl⟩
   rw [seg_cut _ (m := e) (by omega) (by omega), q3, q4]
   by_cases c : mid < e
   ·rw [show b - e = 0 by omega, seg_zero, mrg_nil_right, List.append_nil]
   ·rw [show m - s = 0 by omega, seg_zero, mrg_nil_left]; rfl
 refine ⟨fun k hk => by rw [l3.2 k (by omega), l2.2 k (by omega), out1 k hk], ?_⟩
 have q5 : sgm f3 a (mid - a) = sgm f2 a (mid - a) := seg_eq _ _ _ _ _ (fun t ht => l3.2 _ (by omega))
 rw [seg_cut f3 (m := mid) (by omega) (by omega), q5, l2.1, l3.1, seg_cut f h1 h2, seg_cut f h3 h4]
 refine (mrg_split lt _ _ _ _ _ (Nat.le_refl _) (fun x hx' y hy' => ?_) (fun y hy' x hx' => ?_)).symm
 ·obtain ⟨i, i1, i2, rfl⟩ := seg_mem.1 hx'
  obtain ⟨j, j1, j2, rfl⟩ := seg_mem.1 hy'
  exact hx i j (by omega) (by omega) (by omega) (by omega)
 ·obtain ⟨i, i1, i2, rfl⟩ := seg_mem.1 hx'
  obtain ⟨j, j1, j2, rfl⟩ := seg_mem.1 hy'
  exact hy i j (by omega) (by omega) (by omega) (by omega)
theorem mrgF_first {f g : Nat → α} {a b i : Nat} (h1 : a + 1 ≤ i) (h2 : i ≤ b) (hx : ∀ j, a + 1 ≤ j → j < i → lt (f j) (f a) = true) (hy : ∀ j, i ≤ j → j < b → lt (f j) (f a) = false) (hr : ∀ k, g k = rotF f a (a + 1) i k) : MrgF lt f g a (a + 1) b := by
 refine ⟨fun k hk => by rw [hr, rotF_else _ (by omega) h1 (by omega)], ?_⟩
 have k1 : sgm g a (i - 1 - a) = sgm f (a + 1) (i - (a + 1)) := by
  rw [show i - 1 - a = i - (a + 1) by omega]
  exact seg_eq _ _ _ _ _ (fun t ht => by rw [hr, rotF_left _ (by omega) (by omega)]; congr 1; omega)
 have k2 : sgm g (i - 1) (i - (i - 1)) = [f a] := by
  rw [show i - (i - 1) = 1 by omega, seg_one, hr, rotF_right _ (by omega) (by omega)]
  congr 2; omega
 have k3 : sgm g i (b - i) = sgm f i (b - i) := seg_eq _ _ _ _ _ (fun t ht => by rw [hr, rotF_else _ (by omega) (by omega) (by omega)])
 rw [seg_cut g (m := i - 1) (by omega) (by omega), seg_cut g (a := i - 1) (m := i) (by omega) (by omega), k1, k2, k3, show a + 1 - a = 1 by omega, seg_one, seg_cut f (a := a + 1) (m := i) h1 h2]
 rw [mrg_front lt [f a] _ _ (fun y hy' x hx' => by
  obtain rfl := List.mem_singleton.1 hx'
  obtain ⟨j, j1, j2, rfl⟩ := seg_mem.1 hy'
  exact hx j (by omega) (by omega))]
 congr 1
 have := mrg_ahead lt [f a] [] (sgm f i (b - i)) (fun x hx' y hy' => by
  obtain rfl := List.mem_singleton.1 hx'
  obtain ⟨j, j1, j2, rfl⟩ := seg_mem.1 hy'
  exact hy j (by omega) (by omega))
 rw [List.append_nil, mrg_nil_left] at this
 exact this.symm
theorem mrgF_last {f g : Nat → α} {a m i : Nat} (h1 : a ≤ i) (h2 : i ≤ m) (hx : ∀ j, a ≤ j → j < i → lt (f m) (f j) = false) (hy : ∀ j, i ≤ j → j < m → lt (f m) (f j) = true) (hr : ∀ k, g k = rotF f i m (m + 1) k) : MrgF lt f g a m (m + 1) := by
 refine ⟨fun k hk => by rw [hr, rotF_else _ h2 (by omega) (by omega)], ?_⟩
 have k1 : sgm g a (i - a) = sgm f a (i - a) := seg_eq _ _ _ _ _ (fun t ht => by rw [hr, rotF_else _ (by omega) (by omega) (by omega)])
 have k2 : sgm g i (i + 1 - i) = [f m] := by
  rw [show i + 1 - i = 1 by omega, seg_one, hr, rotF_left _ (by omega) (by omega)]
  congr 2; omega
 have k3 : sgm g (i + 1) (m + 1 - (i + 1)) = sgm f i (m - i) := by
  rw [show m + 1 - (i + 1) = m - i by omega]
  exact seg_eq _ _ _ _ _ (fun t ht => by rw [hr, rotF_right _ (by omega) (by omega)]; congr 1; omega)
 rw [seg_cut g (m := i) (by omega) (by omega), seg_cut g (a := i) (m := i + 1) (by omega) (by omega), k1, k2, k3, show m + 1 - m = 1 by omega, seg_one, seg_cut f h1 h2]
 rw [mrg_ahead lt _ _ [f m] (fun x hx' y hy' => by
  obtain rfl := List.mem_singleton.1 hy'
  obtain ⟨j, j1, j2, rfl⟩ := seg_mem.1 hx'
  exact hx j (by omega) (by omega))]
 congr 1
 have := mrg_front lt (sgm f i (m - i)) [f m] [] (fun y hy' x hx' => by
  obtain rfl := List.mem_singleton.1 hy'
  obtain ⟨j, j1, j2, rfl⟩ := seg_mem.1 hx'
  exact hy j (by omega) (by omega))
 rw [List.append_nil, mrg_nil_right] at this
 exact this.symm
end
end Go.Proofs.YtiecbagejdcafaaGreatDoor
/- The library's stable sort over a row: what is asked of its two functions, in one form; elements that change places. Of rows of any elements of one cell. -/
namespace Go.Proofs.YtiecbagejdcafaaGreatDoor
open Go.Shelf Go.RowKit Go.Lib Go.Sort
set_option linter.unusedVariables false
structure SF where
 g : Nat
 lb : Array Value
 sf : Nat
 sb : Array Value
 blk : Nat
 off : Nat
def SF.data (s : SF) : Value := .agg #[.func (.func s.g) #[] s.lb, .func (.func s.sf) #[] s.sb]
def SF.box (s : SF) : Obj := .cells #[.func (.func s.g) #[] s.lb, .func (.func s.sf) #[] s.sb] 174
section
variable {α : Type} [Inhabited α]
structure Can (enc : α → Value) (lt : α → α → Bool) (s : SF) (d : Array α) (w : World) : Prop where
 enter : ∀ args w, (callFunc s.g args).run Tryz.prog w = .ok (.enter s.g args) w
 less : LessReads Tryz.prog s.g s.lb enc lt s.blk s.off d.size w
 swap : SwapSwaps Tryz.prog s.sf s.sb enc s.blk s.off d.size
 holds : Holds enc w s.blk s.off d
 blk : s.blk < w.heap.size
 size : d.size ≤ 1000000
variable {enc : α → Value} {lt : α → α → Bool} {s : SF} {d d' : Array α} {w W : World}
theorem Can.on (h : Can enc lt s d w) (hW : SW enc w s.blk s.off d' W) (hs : d'.size = d.size) : Can enc lt s d' W :=
 ⟨h.enter, by rw [hs]; exact hW.lessReads h.less h.blk hs, by rw [hs]; exact h.swap, hW.holds h.blk h.holds hs, hW.lt h.blk, by rw [hs]; exact h.size⟩
theorem sw_trans {enc : α → Value} {blk off : Nat} {d1 d2 : Array α} {w0 w1 w2 : World} (h : SW enc w0 blk off d1 w1) (hb : blk < w0.heap.size) (k : SW enc w1 blk off d2 w2) (hs : d2.size = d1.size) : SW enc w0 blk off d2 w2 := by
 obtain ⟨m, os, rfl⟩ := k
 exact h.on hb m d2 os hs
theorem sw_old {enc : α → Value} {blk off : Nat} {d1 : Array α} {w0 w1 : World} (h : SW enc w0 blk off d1 w1) {a : Addr} (ha : a.block < w0.heap.size) (hb : a.block ≠ blk) : w1.cell? a = w0.cell? a := by
 obtain ⟨m, os, rfl⟩ := h
 unfold sortWorld
 rw [cell?_grow _ _ _ (by rw [size_putRow]; exact ha), cell?_putRow_other enc _ blk off _ _ (Or.inl hb)]
 rfl
theorem Can.box (h : Can enc lt s d w) : SW enc w s.blk s.off d (w.alloc s.box) ∧ Can enc lt s d (w.alloc s.box) := by
 have h1 := (SW.start h.holds).alloc s.box
 exact ⟨h1, h.on h1 rfl⟩
theorem Can.cells (h : Can enc lt s d w) {d1 : Array α} {w1 : World} (k : SW enc (w.alloc s.box) s.blk s.off d1 w1) :
  w1.cell? ⟨w.heap.size, 0, none⟩ = some (.func (.func s.g) #[] s.lb) ∧ w1.cell? ⟨w.heap.size, 1, none⟩ = some (.func (.func s.sf) #[] s.sb) := by
 have hb := h.blk
 constructor
 ·rw [sw_old k (a := ⟨w.heap.size, 0, none⟩) (by show w.heap.size < (w.alloc s.box).heap.size; simp) (by show w.heap.size ≠ s.blk; omega)]
  unfold SF.box; simp
 ·rw [sw_old k (a := ⟨w.heap.size, 1, none⟩) (by show w.heap.size < (w.alloc s.box).heap.size; simp) (by show w.heap.size ≠ s.blk; omega)]
  unfold SF.box; simp
theorem Can.swaps (h : Can enc lt s d w) {d1 : Array α} {w1 : World} (k : SW enc w s.blk s.off d1 w1) (hs : d1.size = d.size) {i j : Nat} (hi : i < d.size) (hj : j < d.size) :
  ∃ w2, (callFunc s.sf (#[.int .i64 i, .int .i64 j] ++ s.sb)).run Tryz.prog w1 = .ok (.value (.tuple #[])) w2 ∧ SW enc w s.blk s.off (swp d1 i j) w2 :=
 ⟨_, h.swap w1 d1 (k.holds h.blk h.holds hs) hs i j hi hj, k.swap h.blk i j (by omega) (by omega)⟩
end
section
variable {α : Type} [Inhabited α]
theorem swp_at (d : Array α) {i j : Nat} (hi : i < d.size) (hj : j < d.size) (k : Nat) : (swp d i j)[k]! = if k = j then d[i]! else if k = i then d[j]! else d[k]! := by
 by_cases h1 : k = j
 ·subst h1; rw [if_pos rfl]; exact swp_right d i k hj
 ·rw [if_neg h1]
  by_cases h2 : k = i
  ·subst h2; rw [if_pos rfl]; exact swp_left d k j hi h1
  ·rw [if_neg h2]; exact swp_other d i j k h2 h1
end
end Go.Proofs.YtiecbagejdcafaaGreatDoor
/- The library's stable sort over a row: two ranges that change places, and a rotation. Of rows of any elements of one cell. -/
namespace Go.Proofs.YtiecbagejdcafaaGreatDoor
open Go.Shelf Go.RowKit Go.Lib Go.Sort
set_option linter.unusedVariables false
set_option linter.unusedSectionVars false
variable {α : Type} [Inhabited α] {enc : α → Value} {lt : α → α → Bool} {s : SF} {d : Array α} {w : World}
def Left (enc : α → Value) (s : SF) (d : Array α) (w : World) (p : (Nat → α) → Prop) (w' : World) : Prop := ∃ d' : Array α, d'.size = d.size ∧ SW enc w s.blk s.off d' w' ∧ p (fun k => d'[k]!)
theorem swrF_next (f : Nat → α) {a b i : Nat} (hab : a + i < b) (k : Nat) : swrF f a b (i + 1) k = if k = b + i then swrF f a b i (a + i) else if k = a + i then swrF f a b i (b + i) else swrF f a b i k := by
 unfold swrF
 by_cases h1 : k = b + i
 ·subst h1
  rw [if_pos rfl, if_neg (show ¬ (a ≤ b + i ∧ b + i < a + (i + 1)) by omega), if_pos (show b ≤ b + i ∧ b + i < b + (i + 1) by omega), if_neg (show ¬ (a ≤ a + i ∧ a + i < a + i) by omega), if_neg (show ¬ (b ≤ a + i ∧ a + i < b + i) by omega)]
  congr 1; omega
 ·rw [if_neg h1]
  by_cases h2 : k = a + i
  ·subst h2
   rw [if_pos rfl, if_pos (show a ≤ a + i ∧ a + i < a + (i + 1) by omega), if_neg (show ¬ (a ≤ b + i ∧ b + i < a + i) by omega), if_neg (show ¬ (b ≤ b + i ∧ b + i < b + i) by omega)]
   congr 1; omega
  ·rw [if_neg h2]
   by_cases h3 : a ≤ k ∧ k < a + i
   ·rw [if_pos h3, if_pos (show a ≤ k ∧ k < a + (i + 1) by omega)]
   ·rw [if_neg h3, if_neg (show ¬ (a ≤ k ∧ k < a + (i + 1)) by omega)]
    by_cases h4 : b ≤ k ∧ k < b + i
    ·rw [if_pos h4, if_pos (show b ≤ k ∧ k < b + (i + 1) by omega)]
    ·rw [if_neg h4, if_neg (show ¬ (b ≤ k ∧ k < b + (i + 1)) by omega)]
theorem swrF_zero (f : Nat → α) (a b k : Nat) : swrF f a b 0 k = f k := by unfold swrF; rw [if_neg (by omega), if_neg (by omega)]
set_option maxRecDepth 100000 in
set_option maxHeartbeats 8000000 in
theorem swapRange_any (h : Can enc lt s d w) (a b n : Nat) (hab : a + n ≤ b) (hbn : b + n ≤ d.size) :
  Calls Tryz.prog 180 #[s.data, .int .i64 (a : Int), .int .i64 (b : Int), .int .i64 (n : Int)] w fun e w' => e = .returned (.tuple #[]) ∧ Left enc s d w (fun f => ∀ k, f k = swrF (fun k => d[k]!) a b n k) w' := by
 have hsz := h.size
 obtain ⟨hb1, hb2⟩ := h.box
 have HB1 := Lib.hid hb1
 have HB2 := Lib.hid hb2
 have HC := Lib.hid (fun (d1 : Array α) (w1 : World) (k : SW enc (w.alloc s.box) s.blk s.off d1 w1) => h.cells k)
 have HW := Lib.hid h.blk
 clear hb1 hb2 h
 unfold SF.data
 go_enter Tryz.func180, Tryz.ntmps180
 go_wp2_with fail
 have hX : w.alloc (.cells #[.func (.func s.g) #[] s.lb, .func (.func s.sf) #[] s.sb] 174) = w.alloc s.box := rfl
 rw [hX]
 clear hX
 go_loopg [8] n (fun gk iv wr => ∃ (i : Nat) (dk : Array α), iv = .int .i64 (i : Int) ∧ i ≤ n ∧ n - i ≤ gk ∧ dk.size = d.size ∧ Hid (SW enc (w.alloc s.box) s.blk s.off dk wr) ∧ Hid (∀ k, dk[k]! = swrF (fun k => d[k]!) a b i k))
 case atStart => exact ⟨0, d, rfl, by omega, by omega, rfl, Lib.hid (SW.start HB2.out.holds), Lib.hid (fun k => (swrF_zero _ a b k).symm)⟩
 case round =>
  obtain ⟨i, dk, rfl, hi, hgk, hs, HS, HK⟩ := hrel
  by_cases hlt : i < n
  ·have hlt2 : (i : Int) < (n : Int) := by omega
   obtain ⟨c0, c1⟩ := HC.out _ _ HS.out
   obtain ⟨w2, hrun, hS2⟩ := HB2.out.swaps HS.out hs (i := a + i) (j := b + i) (by omega) (by omega)
   have HS2 := Lib.hid hS2
   rw [show (((a + i : Nat)) : Int) = (a : Int) + (i : Int) by omega, show (((b + i : Nat)) : Int) = (b : Int) + (i : Int) by omega] at hrun
   have HK2 : Hid (∀ k, (swp dk (a + i) (b + i))[k]! = swrF (fun k => d[k]!) a b (i + 1) k) := Lib.hid (fun k => by
    rw [swp_at dk (by omega) (by omega), swrF_next _ (by omega), HK.out, HK.out, HK.out])
   clear hS2 HS
   go_wp2_with fail
   go_roundg (n - (i + 1))
   case measure => omega
   case rel => exact ⟨i + 1, _, by simp, by omega, by omega, by rw [size_swp]; exact hs, HS2, HK2⟩
  ·have hlt2 : ¬ (i : Int) < (n : Int) := by omega
   obtain rfl : i = n := by omega
   have hD : Left enc s d w (fun f => ∀ k, f k = swrF (fun k => d[k]!) a b i k) wr := ⟨dk, hs, sw_trans HB1.out HW.out HS.out hs, HK.out⟩
   have HD := Lib.hid hD
   clear hD HS HK HB1 HB2 HC
   go_wp2_with fail
   go_end0
   exact ⟨rfl, HD.out⟩
set_option maxRecDepth 100000 in
set_option maxHeartbeats 8000000 in
theorem rotate_any (h : Can enc lt s d w) (a m b : Nat) (ham : a < m) (hmb : m < b) (hb : b ≤ d.size) :
  Calls Tryz.prog 173 #[s.data, .int .i64 (a : Int), .int .i64 (m : Int), .int .i64 (b : Int)] w fun e w' => e = .returned (.tuple #[]) ∧ Left enc s d w (fun f => ∀ k, f k = rotF (fun k => d[k]!) a m b k) w' := by
 have hsz := h.size
 obtain ⟨hb1, hb2⟩ := h.box
 have HB1 := Lib.hid hb1
 have HB2 := Lib.hid hb2
 have HC := Lib.hid (fun (d1 : Array α) (w1 : World) (k : SW enc (w.alloc s.box) s.blk s.off d1 w1) => h.cells k)
 have HW := Lib.hid h.blk
 clear hb1 hb2 h
 unfold SF.data
 go_enter Tryz.func173, Tryz.ntmps173
 go_wp2_with fail
 have hX : w.alloc (.cells #[.func (.func s.g) #[] s.lb, .func (.func s.sf) #[] s.sb] 174) = w.alloc s.box := rfl
 rw [hX]
 clear hX
 go_loopg [8, 9] (b - a) (fun gk iv jv wr => ∃ (i j : Nat) (dk : Array α), iv = .int .i64 (i : Int) ∧ jv = .int .i64 (j : Int) ∧ 1 ≤ i ∧ 1 ≤ j ∧ i + a ≤ m ∧ m + j ≤ b ∧ i + j ≤ gk ∧ dk.size = d.size ∧ Hid (SW enc (w.alloc s.box) s.blk s.off dk wr) ∧ Hid (∀ k, rotF (fun k => dk[k]!) (m - i) m (m + j) k = rotF (fun k => d[k]!) a m b k))
 case atStart => exact ⟨m - a, b - m, d, by go_num, by go_num, by omega, by omega, by omega, by omega, by omega, rfl, Lib.hid (SW.start HB2.out.holds), Lib.hid (fun k => by rw [show m - (m - a) = a by omega, show m + (b - m) = b by omega])⟩
 case round =>
  obtain ⟨i, j, dk, rfl, rfl, hi, hj, hia, hjb, hgk, hs, HS, HK⟩ := hrel
  obtain ⟨c0, c1⟩ := HC.out _ _ HS.out
  by_cases hij : i = j
  ·subst hij
   have hq : ((i : Int) != (i : Int)) = false := by simp
   have hC := swapRange_any (HB2.out.on HS.out hs) (m - i) m i (by omega) (by omega)
   rw [show ((m - i : Nat) : Int) = (m : Int) - (i : Int) by omega] at hC
   have HCC := Lib.hid hC
   clear hC
   unfold SF.data at HCC
   go_wp2_with fail
   refine HCC.out.mono ?_
   rintro e w3 ⟨rfl, d3, hs3, hS3, hK3⟩
   have hD : Left enc s d w (fun f => ∀ k, f k = rotF (fun k => d[k]!) a m b k) w3 :=
    ⟨d3, by omega, sw_trans HB1.out HW.out (sw_trans HS.out (by exact (HB2.out).blk) hS3 hs3) (by omega), fun k => by rw [← HK.out]; exact rot_same (fun k => dk[k]!) (fun k => d3[k]!) (by omega) hK3 k⟩
   have HD := Lib.hid hD
   clear hD hS3 hK3 HS HK HB1 HB2 HC HCC
   go_wp2_with fail
   go_end0
   exact ⟨rfl, HD.out⟩
  ·have hq : ((i : Int) != (j : Int)) = true := by simp; omega
   by_cases hlt : j < i
   ·have hlt2 : (j : Int) < (i : Int) := by omega
    have hC := swapRange_any (HB2.out.on HS.out hs) (m - i) m j (by omega) (by omega)
    rw [show ((m - i : Nat) : Int) = (m : Int) - (i : Int) by omega] at hC
    have HCC := Lib.hid hC
    clear hC
    unfold SF.data at HCC
    go_wp2_with fail
    refine HCC.out.mono ?_
    rintro e w3 ⟨rfl, d3, hs3, hS3, hK3⟩
    have HS3 := Lib.hid (sw_trans HS.out (HB2.out).blk hS3 hs3)
    have HK3 : Hid (∀ k, rotF (fun k => d3[k]!) (m - (i - j)) m (m + j) k = rotF (fun k => d[k]!) a m b k) := Lib.hid (fun k => by rw [← HK.out]; exact rot_more (fun k => dk[k]!) (fun k => d3[k]!) (by omega) hlt hK3 k)
    clear hS3 hK3 HS HK HCC c0 c1
    go_wp2_with fail
    go_roundg (i - j + j)
    case measure => omega
    case rel => exact ⟨i - j, j, d3, by go_num, rfl, by omega, hj, by omega, hjb, by omega, by omega, HS3, HK3⟩
   ·have hlt2 : ¬ (j : Int) < (i : Int) := by omega
    have hC := swapRange_any (HB2.out.on HS.out hs) (m - i) (m + j - i) i (by omega) (by omega)
    rw [show ((m - i : Nat) : Int) = (m : Int) - (i : Int) by omega, show ((m + j - i : Nat) : Int) = (m : Int) + (j : Int) - (i : Int) by omega] at hC
    have HCC := Lib.hid hC
    clear hC
    unfold SF.data at HCC
    go_wp2_with fail
    refine HCC.out.mono ?_
    rintro e w3 ⟨rfl, d3, hs3, hS3, hK3⟩
    have HS3 := Lib.hid (sw_trans HS.out (HB2.out).blk hS3 hs3)
    have HK3 : Hid (∀ k, rotF (fun k => d3[k]!) (m - i) m (m + (j - i)) k = rotF (fun k => d[k]!) a m b k) := Lib.hid (fun k => by rw [← HK.out]; exact rot_less (fun k => dk[k]!) (fun k => d3[k]!) (by omega) (by omega) hK3 k)
    clear hS3 hK3 HS HK HCC c0 c1
    go_wp2_with fail
    go_roundg (i + (j - i))
    case measure => omega
    case rel => exact ⟨i, j - i, d3, rfl, by go_num, hi, by omega, hia, by omega, by omega, by omega, HS3, HK3⟩
end Go.Proofs.YtiecbagejdcafaaGreatDoor
/- The library's stable sort over a row: two ascending ranges merged in place. Of rows of any elements of one cell. -/
namespace Go.Proofs.YtiecbagejdcafaaGreatDoor
open Go.Shelf Go.RowKit Go.Lib Go.Sort
set_option linter.unusedVariables false
set_option linter.unusedSectionVars false
variable {α : Type} [Inhabited α] {enc : α → Value} {lt : α → α → Bool} {s : SF}
theorem rot_right (f : Nat → α) {a k : Nat} (hk : a ≤ k) (t : Nat) : rotF f a (a + 1) (k + 2) t = if t = k + 1 then rotF f a (a + 1) (k + 1) k else if t = k then rotF f a (a + 1) (k + 1) (k + 1) else rotF f a (a + 1) (k + 1) t := by
 by_cases h1 : t = k + 1
 ·subst h1
  rw [if_pos rfl, rotF_right _ (by omega) (by omega), rotF_right _ (by omega) (by omega)]
  congr 1; omega
 ·rw [if_neg h1]
  by_cases h2 : t = k
  ·subst h2
   rw [if_pos rfl, rotF_left _ (by omega) (by omega), rotF_else _ (by omega) (by omega) (by omega)]
   congr 1; omega
  ·rw [if_neg h2]
   by_cases h3 : t < a
   ·rw [rotF_else _ (by omega) (by omega) (by omega), rotF_else _ (by omega) (by omega) (by omega)]
   ·by_cases h4 : t < k
    ·rw [rotF_left _ (by omega) (by omega), rotF_left _ (by omega) (by omega)]
    ·rw [rotF_else _ (by omega) (by omega) (by omega), rotF_else _ (by omega) (by omega) (by omega)]
theorem rot_down (f : Nat → α) {k m : Nat} (hk : k + 1 ≤ m) (t : Nat) : rotF f k m (m + 1) t = if t = k then rotF f (k + 1) m (m + 1) (k + 1) else if t = k + 1 then rotF f (k + 1) m (m + 1) k else rotF f (k + 1) m (m + 1) t := by
 by_cases h1 : t = k
 ·subst h1
  rw [if_pos rfl, rotF_left _ (by omega) (by omega), rotF_left _ (by omega) (by omega)]
  congr 1; omega
 ·rw [if_neg h1]
  by_cases h2 : t = k + 1
  ·subst h2
   rw [if_pos rfl, rotF_right _ (by omega) (by omega), rotF_else _ (by omega) (by omega) (by omega)]
   congr 1; omega
  ·rw [if_neg h2]
   by_cases h3 : t < k ∨ m + 1 ≤ t
   ·rw [rotF_else _ (by omega) (by omega) (by omega), rotF_else _ (by omega) (by omega) (by omega)]
   ·rw [rotF_right _ (by omega) (by omega), rotF_right _ (by omega) (by omega)]
theorem half_of (x y : Nat) : (((x : Int) + (y : Int)) / 2) = (((x + y) / 2 : Nat) : Int) := by omega
set_option maxRecDepth 100000 in
set_option maxHeartbeats 8000000 in
theorem merge_first (hO : SWO lt) {d : Array α} {w : World} (h : Can enc lt s d w) (a b : Nat) (hmb : a + 1 < b) (hb : b ≤ d.size) (h2 : AscF lt (fun k => d[k]!) (a + 1) b) :
  Calls Tryz.prog 155 #[s.data, .int .i64 (a : Int), .int .i64 ((a + 1 : Nat) : Int), .int .i64 (b : Int)] w fun e w' => e = .returned (.tuple #[]) ∧ Left enc s d w (fun f => MrgF lt (fun k => d[k]!) f a (a + 1) b) w' := by
 have hsz := h.size
 have eg := h.enter
 obtain ⟨hb1, hb2⟩ := h.box
 have HB1 := Lib.hid hb1
 have HB2 := Lib.hid hb2
 have HA := Lib.hid h2
 have HC := Lib.hid (fun (d1 : Array α) (w1 : World) (k : SW enc (w.alloc s.box) s.blk s.off d1 w1) => h.cells k)
 have HW := Lib.hid h.blk
 clear hb1 hb2 h h2
 obtain ⟨m, hm⟩ : ∃ m, a + 1 = m := ⟨_, rfl⟩
 rw [hm]
 have hm1 : ((m : Int) - (a : Int) == 1) = true := by simp; omega
 unfold SF.data
 go_enter Tryz.func155, Tryz.ntmps155
 go_wp2_with fail
 have hX : w.alloc (.cells #[.func (.func s.g) #[] s.lb, .func (.func s.sf) #[] s.sb] 174) = w.alloc s.box := rfl
 rw [hX]
 clear hX
 go_loopg [8, 9] (b - a) (fun gk iv jv wr => ∃ (i j : Nat), iv = .int .i64 (i : Int) ∧ jv = .int .i64 (j : Int) ∧ m ≤ i ∧ i ≤ j ∧ j ≤ b ∧ j - i ≤ gk ∧ Hid (SW enc (w.alloc s.box) s.blk s.off d wr) ∧ Hid (i = m ∨ lt d[i - 1]! d[a]! = true) ∧ Hid (j = b ∨ lt d[j]! d[a]! = false))
 case atStart => exact ⟨m, b, rfl, rfl, by omega, by omega, by omega, by omega, Lib.hid (SW.start HB2.out.holds), Lib.hid (.inl rfl), Lib.hid (.inl rfl)⟩
 case round =>
  obtain ⟨i, j, rfl, rfl, hi, hij, hj, hgk, HS, HI, HJ⟩ := hrel
  obtain ⟨c0, c1⟩ := HC.out _ _ HS.out
  by_cases hlt : i < j
  ·have hlt2 : (i : Int) < (j : Int) := by omega
   have hhalf := half_of i j
   obtain ⟨p, hp⟩ : ∃ p, (i + j) / 2 = p := ⟨_, rfl⟩
   have hpi : i ≤ p := by omega
   have hpj : p < j := by omega
   rw [hp] at hhalf
   have hl := HS.out.less HB2.out.less rfl p a (by omega) (by omega)
   have HL := Lib.hid hl
   clear hl hp
   cases hv : lt d[p]! d[a]! with
   |true =>
    rw [hv] at HL
    have HS2 := Lib.hid (fun q => HS.out.drewN q)
    have HI2 : Hid (p + 1 = m ∨ lt d[p + 1 - 1]! d[a]! = true) := Lib.hid (.inr (by rw [Nat.add_sub_cancel]; exact hv))
    clear hv HS HI
    go_wp2_with fail
    refine HL.out.mono ?_
    rintro e w3 ⟨rfl, q, rfl⟩
    go_wp2_with fail
    go_roundg (j - (p + 1))
    case measure => omega
    case rel => exact ⟨p + 1, j, by simp, rfl, by omega, by omega, hj, by omega, Lib.hid (HS2.out q), HI2, HJ⟩
   |false =>
    rw [hv] at HL
    have HS2 := Lib.hid (fun q => HS.out.drewN q)
    have HJ2 : Hid (p = b ∨ lt d[p]! d[a]! = false) := Lib.hid (.inr hv)
    clear hv HS HJ
    go_wp2_with fail
    refine HL.out.mono ?_
    rintro e w3 ⟨rfl, q, rfl⟩
    go_wp2_with fail
    go_roundg (p - i)
    case measure => omega
    case rel => exact ⟨i, p, rfl, rfl, hi, hpi, by omega, by omega, Lib.hid (HS2.out q), HI, HJ2⟩
  ·have hlt2 : ¬ (i : Int) < (j : Int) := by omega
   obtain rfl : i = j := by omega
   have HL1 : Hid (∀ t, m ≤ t → t < i → lt d[t]! d[a]! = true) := Lib.hid (fun t h1 h2 => by
    rcases HI.out with h | h
    ·omega
    ·by_cases e : t = i - 1
     ·subst e; exact h
     ·exact lt_of_le_lt hO (HA.out t (i - 1) (by omega) (by omega) (by omega)) h)
   have HL2 : Hid (∀ t, i ≤ t → t < b → lt d[t]! d[a]! = false) := Lib.hid (fun t h1 h2 => by
    rcases HJ.out with h | h
    ·omega
    ·by_cases e : t = i
     ·subst e; exact h
     ·exact hO.ntrans _ _ _ (HA.out i t (by omega) (by omega) h2) h)
   clear HI HJ c0 c1 hlt
   obtain ⟨W1, rfl⟩ : ∃ W1, W1 = wr := ⟨_, rfl⟩
   go_wp2_with fail
   go_loopg [11] (i - 1 - a) (fun gk kv wr2 => ∃ (k : Nat) (dk : Array α), kv = .int .i64 (k : Int) ∧ a ≤ k ∧ k + 1 ≤ i ∧ i - 1 - k ≤ gk ∧ dk.size = d.size ∧ Hid (SW enc (w.alloc s.box) s.blk s.off dk wr2) ∧ Hid (∀ t, dk[t]! = rotF (fun k => d[k]!) a (a + 1) (k + 1) t))
   case atStart => exact ⟨a, d, rfl, by omega, by omega, by omega, rfl, HS, Lib.hid (fun t => (rotF_none _ a (a + 1) (a + 1) (by omega) (by omega) (.inr rfl) t).symm)⟩
   case round =>
    obtain ⟨k, dk, rfl, hk, hki, hgk2, hs, HSk, HK⟩ := hrel
    by_cases hlt : k < i - 1
    ·have hlt3 : (k : Int) < (i : Int) - 1 := by omega
     obtain ⟨c0, c1⟩ := HC.out _ _ HSk.out
     obtain ⟨w2, hrun, hS2⟩ := HB2.out.swaps HSk.out hs (i := k) (j := k + 1) (by omega) (by omega)
     have HS2 := Lib.hid hS2
     rw [show (((k + 1 : Nat)) : Int) = (k : Int) + 1 by omega] at hrun
     have HK2 : Hid (∀ t, (swp dk k (k + 1))[t]! = rotF (fun k => d[k]!) a (a + 1) (k + 1 + 1) t) := Lib.hid (fun t => by
      rw [swp_at dk (by omega) (by omega), rot_right _ hk, HK.out, HK.out, HK.out])
     clear hS2 HSk
     go_wp2_with fail
     go_roundg (i - 1 - (k + 1))
     case measure => omega
     case rel => exact ⟨k + 1, _, by simp, by omega, by omega, by omega, by rw [size_swp]; exact hs, HS2, HK2⟩
    ·have hlt3 : ¬ (k : Int) < (i : Int) - 1 := by omega
     obtain rfl : i = k + 1 := by omega
     have hD : Left enc s d w (fun f => MrgF lt (fun k => d[k]!) f a (a + 1) b) wr := ⟨dk, hs, sw_trans HB1.out HW.out HSk.out hs, mrgF_first (by omega) (by omega) (fun j h1 h2 => HL1.out j (by omega) h2) HL2.out HK.out⟩
     have HD : Hid (Left enc s d w (fun f => MrgF lt (fun k => d[k]!) f a m b) wr) := Lib.hid (by rw [← hm]; exact hD)
     clear hD HSk HK HB1 HB2 HC HL1 HL2 HS HA
     go_wp2_with fail
     first | go_returns | go_ret | go_end0
     exact ⟨rfl, HD.out⟩
set_option maxRecDepth 100000 in
set_option maxHeartbeats 8000000 in
theorem merge_last (hO : SWO lt) {d : Array α} {w : World} (h : Can enc lt s d w) (a m : Nat) (ham : a + 1 < m) (hb : m + 1 ≤ d.size) (h2 : AscF lt (fun k => d[k]!) a m) :
  Calls Tryz.prog 155 #[s.data, .int .i64 (a : Int), .int .i64 (m : Int), .int .i64 ((m + 1 : Nat) : Int)] w fun e w' => e = .returned (.tuple #[]) ∧ Left enc s d w (fun f => MrgF lt (fun k => d[k]!) f a m (m + 1)) w' := by
 have hsz := h.size
 have eg := h.enter
 obtain ⟨hb1, hb2⟩ := h.box
 have HB1 := Lib.hid hb1
 have HB2 := Lib.hid hb2
 have HA := Lib.hid h2
 have HC := Lib.hid (fun (d1 : Array α) (w1 : World) (k : SW enc (w.alloc s.box) s.blk s.off d1 w1) => h.cells k)
 have HW := Lib.hid h.blk
 clear hb1 hb2 h h2
 obtain ⟨b, hm⟩ : ∃ b, m + 1 = b := ⟨_, rfl⟩
 rw [hm]
 have hm0 : ((m : Int) - (a : Int) == 1) = false := by simp; omega
 have hm1 : ((b : Int) - (m : Int) == 1) = true := by simp; omega
 unfold SF.data
 go_enter Tryz.func155, Tryz.ntmps155
 go_wp2_with fail
 have hX : w.alloc (.cells #[.func (.func s.g) #[] s.lb, .func (.func s.sf) #[] s.sb] 174) = w.alloc s.box := rfl
 rw [hX]
 clear hX
 go_loopg [12, 13] (m - a) (fun gk iv jv wr => ∃ (i j : Nat), iv = .int .i64 (i : Int) ∧ jv = .int .i64 (j : Int) ∧ a ≤ i ∧ i ≤ j ∧ j ≤ m ∧ j - i ≤ gk ∧ Hid (SW enc (w.alloc s.box) s.blk s.off d wr) ∧ Hid (i = a ∨ lt d[m]! d[i - 1]! = false) ∧ Hid (j = m ∨ lt d[m]! d[j]! = true))
 case atStart => exact ⟨a, m, rfl, rfl, by omega, by omega, by omega, by omega, Lib.hid (SW.start HB2.out.holds), Lib.hid (.inl rfl), Lib.hid (.inl rfl)⟩
 case round =>
  obtain ⟨i, j, rfl, rfl, hi, hij, hj, hgk, HS, HI, HJ⟩ := hrel
  obtain ⟨c0, c1⟩ := HC.out _ _ HS.out
  by_cases hlt : i < j
  ·have hlt2 : (i : Int) < (j : Int) := by omega
   have hhalf := half_of i j
   obtain ⟨p, hp⟩ : ∃ p, (i + j) / 2 = p := ⟨_, rfl⟩
   have hpi : i ≤ p := by omega
   have hpj : p < j := by omega
   rw [hp] at hhalf
   have hl := HS.out.less HB2.out.less rfl m p (by omega) (by omega)
   have HL := Lib.hid hl
   clear hl hp
   cases hv : lt d[m]! d[p]! with
   |false =>
    rw [hv] at HL
    have HS2 := Lib.hid (fun q => HS.out.drewN q)
    have HI2 : Hid (p + 1 = a ∨ lt d[m]! d[p + 1 - 1]! = false) := Lib.hid (.inr (by rw [Nat.add_sub_cancel]; exact hv))
    clear hv HS HI
    go_wp2_with fail
    refine HL.out.mono ?_
    rintro e w3 ⟨rfl, q, rfl⟩
    go_wp2_with fail
    go_roundg (j - (p + 1))
    case measure => omega
    case rel => exact ⟨p + 1, j, by simp, rfl, by omega, by omega, hj, by omega, Lib.hid (HS2.out q), HI2, HJ⟩
   |true =>
    rw [hv] at HL
    have HS2 := Lib.hid (fun q => HS.out.drewN q)
    have HJ2 : Hid (p = m ∨ lt d[m]! d[p]! = true) := Lib.hid (.inr hv)
    clear hv HS HJ
    go_wp2_with fail
    refine HL.out.mono ?_
    rintro e w3 ⟨rfl, q, rfl⟩
    go_wp2_with fail
    go_roundg (p - i)
    case measure => omega
    case rel => exact ⟨i, p, rfl, rfl, hi, hpi, by omega, by omega, Lib.hid (HS2.out q), HI, HJ2⟩
  ·have hlt2 : ¬ (i : Int) < (j : Int) := by omega
   obtain rfl : i = j := by omega
   have HL1 : Hid (∀ t, a ≤ t → t < i → lt d[m]! d[t]! = false) := Lib.hid (fun t h1 h2 => by
    rcases HI.out with h | h
    ·omega
    ·by_cases e : t = i - 1
     ·subst e; exact h
     ·exact hO.ntrans _ _ _ h (HA.out t (i - 1) (by omega) (by omega) (by omega)))
   have HL2 : Hid (∀ t, i ≤ t → t < m → lt d[m]! d[t]! = true) := Lib.hid (fun t h1 h2 => by
    rcases HJ.out with h | h
    ·omega
    ·by_cases e : t = i
     ·subst e; exact h
     ·exact lt_of_lt_le hO h (HA.out i t (by omega) (by omega) h2))
   clear HI HJ c0 c1 hlt
   obtain ⟨W1, rfl⟩ : ∃ W1, W1 = wr := ⟨_, rfl⟩
   go_wp2_with fail
   go_loopg [15] (m - i) (fun gk kv wr2 => ∃ (k : Nat) (dk : Array α), kv = .int .i64 (k : Int) ∧ i ≤ k ∧ k ≤ m ∧ k - i ≤ gk ∧ dk.size = d.size ∧ Hid (SW enc (w.alloc s.box) s.blk s.off dk wr2) ∧ Hid (∀ t, dk[t]! = rotF (fun k => d[k]!) k m (m + 1) t))
   case atStart => exact ⟨m, d, rfl, by omega, by omega, by omega, rfl, HS, Lib.hid (fun t => (rotF_none _ m m (m + 1) (by omega) (by omega) (.inl rfl) t).symm)⟩
   case round =>
    obtain ⟨k, dk, rfl, hk, hki, hgk2, hs, HSk, HK⟩ := hrel
    by_cases hlt : i < k
    ·have hlt3 : (i : Int) < (k : Int) := by omega
     obtain ⟨k', rfl⟩ : ∃ k', k = k' + 1 := ⟨k - 1, by omega⟩
     obtain ⟨c0, c1⟩ := HC.out _ _ HSk.out
     obtain ⟨w2, hrun, hS2⟩ := HB2.out.swaps HSk.out hs (i := k' + 1) (j := k') (by omega) (by omega)
     have HS2 := Lib.hid hS2
     rw [show (((k' + 1 : Nat)) : Int) = (k' : Int) + 1 by omega] at hrun
     have hk1 : (k' : Int) + 1 - 1 = (k' : Int) := by omega
     have HK2 : Hid (∀ t, (swp dk (k' + 1) k')[t]! = rotF (fun k => d[k]!) k' m (m + 1) t) := Lib.hid (fun t => by
      rw [swp_at dk (by omega) (by omega), rot_down _ hki, HK.out, HK.out, HK.out])
     clear hS2 HSk
     go_wp2_with fail
     go_roundg (k' - i)
     case measure => omega
     case rel => exact ⟨k', _, by simp, by omega, by omega, by omega, by rw [size_swp]; exact hs, HS2, HK2⟩
    ·have hlt3 : ¬ (i : Int) < (k : Int) := by omega
     obtain rfl : i = k := by omega
     have hD : Left enc s d w (fun f => MrgF lt (fun k => d[k]!) f a m (m + 1)) wr := ⟨dk, hs, sw_trans HB1.out HW.out HSk.out hs, mrgF_last (by omega) (by omega) HL1.out HL2.out HK.out⟩
     have HD : Hid (Left enc s d w (fun f => MrgF lt (fun k => d[k]!) f a m b) wr) := Lib.hid (by rw [← hm]; exact hD)
     clear hD HSk HK HB1 HB2 HC HL1 HL2 HS HA
     go_wp2_with fail
     first | go_returns | go_ret | go_end0
     exact ⟨rfl, HD.out⟩
end Go.Proofs.YtiecbagejdcafaaGreatDoor
/- The library's insertion sort over a row, in plain words: it is the stable order. Of rows of any elements, under a strict weak order. -/
namespace Go.Proofs.YtiecbagejdcafaaGreatDoor
open Go.Sort
set_option linter.unusedVariables false
set_option linter.unusedSectionVars false
variable {α : Type} [Inhabited α] {lt : α → α → Bool}
theorem insInner_is (hO : SWO lt) (f : Nat → α) {a j : Nat} (hA : AscF lt f a j) : ∀ (c : Nat) (dk : Array α), a ≤ c → c ≤ j → j < dk.size → (∀ t, dk[t]! = rotF f c j (j + 1) t) → (∀ t, c ≤ t → t < j → lt (f j) (f t) = true) →
  (insInner lt a c dk).size = dk.size ∧ MrgF lt f (fun k => (insInner lt a c dk)[k]!) a j (j + 1) := by
 intro c
 induction c with
 |zero =>
  intro dk hac hcj hsz hk ht
  rw [insInner_stop lt a 0 dk (.inl (Nat.zero_le _))]
  exact ⟨rfl, mrgF_last hac (Nat.zero_le _) (fun t h1 h2 => by omega) ht hk⟩
 |succ c ih =>
  intro dk hac hcj hsz hk ht
  have e1 : dk[c + 1]! = f j := by rw [hk, rotF_left _ (by omega) (by omega)]; congr 1; omega
  have e2 : dk[c]! = f c := by rw [hk, rotF_else _ (by omega) (by omega) (by omega)]
  by_cases hs : a < c + 1 ∧ lt (f j) (f c) = true
  ·rw [insInner_go lt a (c + 1) dk hs.1 (by rw [Nat.add_sub_cancel, e1, e2]; exact hs.2), Nat.add_sub_cancel]
   have hsw : ∀ t, (swp dk (c + 1) c)[t]! = rotF f c j (j + 1) t := fun t => by
    rw [swp_at dk (by omega) (by omega), rot_down f hcj, hk, hk, hk]
   have := ih (swp dk (c + 1) c) (by omega) (by omega) (by rw [size_swp]; exact hsz) hsw (fun t h1 h2 => by
    by_cases e : t = c
    ·subst e; exact hs.2
    ·exact ht t (by omega) h2)
   rw [size_swp] at this
   exact this
  ·rw [insInner_stop lt a (c + 1) dk (by
    rw [Nat.add_sub_cancel, e1, e2]
    by_cases h : a < c + 1
    ·right
     cases hv : lt (f j) (f c) with
     |true => exact absurd ⟨h, hv⟩ hs
     |false => rfl
    ·left; omega)]
   refine ⟨rfl, mrgF_last hac hcj (fun t h1 h2 => ?_) ht hk⟩
   have hlt : lt (f j) (f c) = false := by
    cases hv : lt (f j) (f c) with
    |true => exact absurd ⟨by omega, hv⟩ hs
    |false => rfl
   by_cases e : t = c
   ·subst e; exact hlt
   ·exact hO.ntrans _ _ _ hlt (hA t c h1 (by omega) (by omega))
structure SrtF (lt : α → α → Bool) (f g : Nat → α) (a b : Nat) : Prop where
 out : ∀ k, k < a ∨ b ≤ k → g k = f k
 sgm : sgm g a (b - a) = srt lt (sgm f a (b - a))
theorem insOuter_is (hO : SWO lt) (f : Nat → α) (a b : Nat) : ∀ (N i : Nat) (dk : Array α), b - i ≤ N → a < i → b ≤ dk.size → (i ≤ b → SrtF lt f (fun k => dk[k]!) a i) → (b < i → SrtF lt f (fun k => dk[k]!) a b) →
  (insOuter lt a b i dk).size = dk.size ∧ SrtF lt f (fun k => (insOuter lt a b i dk)[k]!) a b := by
 intro N
 induction N with
 |zero =>
  intro i dk hN hai hb h1 h2
  rw [insOuter_stop lt a b i dk (by omega)]
  refine ⟨rfl, ?_⟩
  by_cases e : b < i
  ·exact h2 e
  ·obtain rfl : i = b := by omega
   exact h1 (Nat.le_refl _)
 |succ N ih =>
  intro i dk hN hai hb h1 h2
  by_cases hlt : i < b
  ·rw [insOuter_go lt a b i dk hlt]
   have hs := h1 (by omega)
   have hA : AscF lt (fun k => dk[k]!) a i := AscF.of (by omega) (by rw [hs.sgm]; exact asc_srt hO _ _ rfl)
   obtain ⟨q1, q2⟩ := insInner_is hO (fun k => dk[k]!) hA i dk (by omega) (Nat.le_refl _) (by omega) (fun t => (rotF_none _ i i (i + 1) (by omega) (by omega) (.inl rfl) t).symm) (fun t h1 h2 => by omega)
   have hn : SrtF lt f (fun k => (insInner lt a i dk)[k]!) a (i + 1) := by
    refine ⟨fun k hk => (q2.1 k hk).trans (hs.out k (by omega)), ?_⟩
    rw [q2.2, hs.sgm, show i + 1 - i = 1 by omega, seg_one, show i + 1 - a = (i - a) + 1 by omega, seg_add f (i - a) a 1, seg_one, show a + (i - a) = i by omega, srt_snoc]
    exact congrArg (fun z => mrg lt (srt lt (sgm f a (i - a))) [z]) (hs.out i (.inr (Nat.le_refl _)))
   have := ih (i + 1) (insInner lt a i dk) (by omega) (by omega) (by rw [q1]; exact hb) (fun _ => hn) (fun h => by omega)
   rw [q1] at this
   exact this
  ·rw [insOuter_stop lt a b i dk hlt]
   refine ⟨rfl, ?_⟩
   by_cases e : b < i
   ·exact h2 e
   ·obtain rfl : i = b := by omega
    exact h1 (Nat.le_refl _)
theorem insertion_is (hO : SWO lt) (d : Array α) (a b : Nat) (hab : a ≤ b) (hb : b ≤ d.size) : (Sort.insertionSort lt d a b).size = d.size ∧ SrtF lt (fun k => d[k]!) (fun k => (Sort.insertionSort lt d a b)[k]!) a b := by
 unfold Sort.insertionSort
 refine insOuter_is hO (fun k => d[k]!) a b _ (a + 1) d (Nat.le_refl _) (by omega) hb (fun h => ⟨fun _ _ => rfl, ?_⟩) (fun h => ⟨fun _ _ => rfl, ?_⟩)
 ·rw [show a + 1 - a = 1 by omega, seg_one, srt_one]
 ·rw [show b - a = 0 by omega, seg_zero]; rfl
end Go.Proofs.YtiecbagejdcafaaGreatDoor
