/- Elements in order, in plain words: which of two lists of numbers comes first, the shorter one with 0 behind it. They hold of lists of numbers alone, under no condition on the program. -/
import Derived.Test.YtiiimhamfibdbaaGreatP0
namespace Go.Proofs.YtiiimhamfibdbaaGreat
open Go.PlainAid
set_option linter.unusedVariables false
def cmp1 (x y : Int) : Int := if x < y then -1 else if y < x then 1 else 0
def cmpL : List Int → List Int → Int
 |[], [] => 0
 |[], y :: r => if cmp1 0 y ≠ 0 then cmp1 0 y else cmpL [] r
 |x :: r, [] => if cmp1 x 0 ≠ 0 then cmp1 x 0 else cmpL r []
 |x :: r, y :: q => if cmp1 x y ≠ 0 then cmp1 x y else cmpL r q
def hd0 (l : List Int) : Int := l.headD 0
theorem cmpL_step (a b : List Int) : cmpL a b = if cmp1 (hd0 a) (hd0 b) ≠ 0 then cmp1 (hd0 a) (hd0 b) else cmpL a.tail b.tail := by
 cases a with
 |nil =>
  cases b with
  |nil => rfl
  |cons y r => rw [cmpL]; rfl
 |cons x r =>
  cases b with
  |nil => rw [cmpL]; rfl
  |cons y q => rw [cmpL]; rfl
theorem cmp1_neg (x y : Int) : cmp1 y x = -cmp1 x y := by unfold cmp1; repeat' split; all_goals omega
theorem cmp1_zero {x y : Int} : cmp1 x y = 0 ↔ x = y := by unfold cmp1; repeat' split; all_goals omega
theorem cmp1_cases (x y : Int) : (cmp1 x y = -1 ∧ x < y) ∨ (cmp1 x y = 1 ∧ y < x) ∨ (cmp1 x y = 0 ∧ x = y) := by unfold cmp1; repeat' split; all_goals omega
theorem cmpL_range (a b : List Int) : cmpL a b = -1 ∨ cmpL a b = 0 ∨ cmpL a b = 1 := by
 induction a, b using cmpL.induct with
 |case1 => simp [cmpL]
 |case2 y r h => rw [cmpL, if_pos h]; have := cmp1_cases 0 y; omega
 |case3 y r h ih => rw [cmpL, if_neg h]; exact ih
 |case4 x r h => rw [cmpL, if_pos h]; have := cmp1_cases x 0; omega
 |case5 x r h ih => rw [cmpL, if_neg h]; exact ih
 |case6 x r y q h => rw [cmpL, if_pos h]; have := cmp1_cases x y; omega
 |case7 x r y q h ih => rw [cmpL, if_neg h]; exact ih
theorem tail_len {a : List Int} {n : Nat} (h : a.length ≤ n + 1) : a.tail.length ≤ n := by rw [List.length_tail]; omega
theorem nil_of_len {a : List Int} (h : a.length ≤ 0) : a = [] := List.length_eq_zero_iff.1 (by omega)
theorem cmpL_negF : ∀ (n : Nat) (a b : List Int), a.length ≤ n → b.length ≤ n → cmpL b a = -cmpL a b := by
 intro n
 induction n with
 |zero => intro a b ha hb; rw [nil_of_len ha, nil_of_len hb]; simp [cmpL]
 |succ n ih =>
  intro a b ha hb
  rw [cmpL_step b a, cmpL_step a b, cmp1_neg (hd0 a) (hd0 b), ih _ _ (tail_len ha) (tail_len hb)]
  by_cases h : cmp1 (hd0 a) (hd0 b) = 0
  ·rw [if_neg (by omega), if_neg (by omega)]
  ·rw [if_pos (by omega), if_pos (by omega)]
theorem cmpL_neg (a b : List Int) : cmpL b a = -cmpL a b := cmpL_negF (max a.length b.length) a b (by omega) (by omega)
theorem cmpL_transF : ∀ (n : Nat) (a b c : List Int), a.length ≤ n → b.length ≤ n → c.length ≤ n → (cmpL a b ≤ 0 → cmpL b c ≤ 0 → cmpL a c ≤ 0) ∧ (cmpL a b = 0 → cmpL b c = cmpL a c) := by
 intro n
 induction n with
 |zero => intro a b c ha hb hc; rw [nil_of_len ha, nil_of_len hb, nil_of_len hc]; exact ⟨fun _ _ => by simp [cmpL], fun _ => rfl⟩
 |succ n ih =>
  intro a b c ha hb hc
  obtain ⟨i1, i2⟩ := ih a.tail b.tail c.tail (tail_len ha) (tail_len hb) (tail_len hc)
  rw [cmpL_step a b, cmpL_step b c, cmpL_step a c]
  generalize hd0 a = x
  generalize hd0 b = y
  generalize hd0 c = z
  have h1 := cmp1_cases x y
  have h2 := cmp1_cases y z
  have h3 := cmp1_cases x z
  by_cases e1 : cmp1 x y = 0
  ·rw [if_neg (by omega)]
   by_cases e2 : cmp1 y z = 0
   ·rw [if_neg (by omega), if_neg (by omega)]
    exact ⟨i1, i2⟩
   ·rw [if_pos e2, if_pos (by omega)]
    exact ⟨fun _ _ => by omega, fun _ => by omega⟩
  ·rw [if_pos e1]
   refine ⟨fun g1 g2 => ?_, fun g => absurd g e1⟩
   by_cases e2 : cmp1 y z = 0
   ·rw [if_pos (by omega)]; omega
   ·rw [if_pos e2] at g2
    rw [if_pos (by omega)]; omega
theorem cmpL_trans {a b c : List Int} (h1 : cmpL a b ≤ 0) (h2 : cmpL b c ≤ 0) : cmpL a c ≤ 0 := (cmpL_transF (max a.length (max b.length c.length)) a b c (by omega) (by omega) (by omega)).1 h1 h2
theorem cmpL_same {a b : List Int} (c : List Int) (h : cmpL a b = 0) : cmpL b c = cmpL a c := (cmpL_transF (max a.length (max b.length c.length)) a b c (by omega) (by omega) (by omega)).2 h
theorem cmpL_pad (a : List Int) : cmpL a (a ++ [0]) = 0 := by
 induction a with
 |nil => simp [cmpL, cmp1]
 |cons x r ih =>
  rw [List.cons_append, cmpL, cmp1_zero.2 rfl]
  simpa using ih
theorem cmpL_zero (a b : List Int) : cmpL (a ++ [0]) b = cmpL a b := cmpL_same b (cmpL_pad a)
theorem cmpL_zeros (a b : List Int) : ∀ k, cmpL (a ++ List.replicate k 0) b = cmpL a b := by
 intro k
 induction k with
 |zero => simp
 |succ k ih => rw [List.replicate_succ', ← List.append_assoc, cmpL_zero, ih]
theorem less_cmp : ∀ (a b : List UInt8), a.length = b.length →
  Op.bytesLess a b = decide (cmpL (a.map fun u => (u.toNat : Int)) (b.map fun u => (u.toNat : Int)) = -1) ∧ (a == b) = decide (cmpL (a.map fun u => (u.toNat : Int)) (b.map fun u => (u.toNat : Int)) = 0) := by
 intro a
 induction a with
 |nil =>
  intro b h
  obtain rfl : b = [] := List.length_eq_zero_iff.1 h.symm
  exact ⟨by simp [Op.bytesLess, cmpL], by simp [cmpL]⟩
 |cons x r ih =>
  intro b h
  cases b with
  |nil => simp at h
  |cons y q =>
   obtain ⟨i1, i2⟩ := ih q (by simpa using h)
   rw [List.map_cons, List.map_cons, cmpL]
   have hlt : (x < y) ↔ ((x.toNat : Int) < (y.toNat : Int)) := by rw [UInt8.lt_iff_toNat_lt]; omega
   have heq : (x = y) ↔ ((x.toNat : Int) = (y.toNat : Int)) := by rw [← UInt8.toNat_inj]; omega
   have hc := cmp1_cases (x.toNat : Int) (y.toNat : Int)
   show (decide (x < y) || (x == y && Op.bytesLess r q)) = _ ∧ _
   rcases hc with ⟨c1, c2⟩ | ⟨c1, c2⟩ | ⟨c1, c2⟩
   ·have h1 : x < y := hlt.2 c2
    have h2 : ¬ x = y := fun e => by have := heq.1 e; omega
    rw [if_pos (by omega), c1]
    refine ⟨by simp [h1], ?_⟩
    simp [h2]
   ·have h1 : ¬ x < y := fun e => by have := hlt.1 e; omega
    have h2 : ¬ x = y := fun e => by have := heq.1 e; omega
    rw [if_pos (by omega), c1]
    refine ⟨by simp [h1, h2], ?_⟩
    simp [h2]
   ·have h1 : ¬ x < y := fun e => by have := hlt.1 e; omega
    have h2 : x = y := heq.2 c2
    rw [if_neg (by omega)]
    refine ⟨by simp [h2, i1], ?_⟩
    rw [← i2]
    simp [h2]
end Go.Proofs.YtiiimhamfibdbaaGreat
