/- What the reference's Days, two, plain and year of times give. Of every number, and every text of at most a million bytes. -/
import Derived.Test.YtiiimhamfibdbaaB0
import Derived.Test.YtiiimhamfibdbaaP0
import Derived.Lib.Strings
import Derived.Laws.Cover1
import Derived.Handy
import Derived.Laws.BytesArg
namespace Go.Proofs.Ytiiimhamfibdbaa
open Go.RowKit Go.PlainAid
set_option linter.unusedVariables false
def leapI (y : Int) : Bool := decide (y % 400 = 0 ∨ (y % 4 = 0 ∧ y % 100 ≠ 0))
end Go.Proofs.Ytiiimhamfibdbaa
/- What the reference's plain, year, Date, Full and Right of times give. Of every text of at most a million bytes. -/
namespace Go.Proofs.Ytiiimhamfibdbaa
open Go.RowKit Go.PlainAid
set_option linter.unusedVariables false
def plainP (l : List Int) : Prop := ∀ i, i < l.length → isD (g l i)
instance (l : List Int) : Decidable (plainP l) := by unfold plainP; infer_instance
end Go.Proofs.Ytiiimhamfibdbaa
/- What the reference's Date, Full and Right of times give. Of every text of at most a million bytes. -/
namespace Go.Proofs.Ytiiimhamfibdbaa
open Go.RowKit Go.PlainAid
set_option linter.unusedVariables false
end Go.Proofs.Ytiiimhamfibdbaa
/- What the reference's Full and Right of times give. Of every tag, and every text of at most a million bytes. -/
namespace Go.Proofs.Ytiiimhamfibdbaa
open Go.RowKit Go.PlainAid
set_option linter.unusedVariables false
end Go.Proofs.Ytiiimhamfibdbaa
/- What the reference's grow gives. Of every text of at most a million bytes that has the whole year. -/
namespace Go.Proofs.Ytiiimhamfibdbaa
open Go.RowKit Go.PlainAid
set_option linter.unusedVariables false
end Go.Proofs.Ytiiimhamfibdbaa
/- What the reference's Can and Wrong of times give. Of every tag and length, and every text of at most a million bytes. -/
namespace Go.Proofs.Ytiiimhamfibdbaa
open Go.RowKit Go.PlainAid
set_option linter.unusedVariables false
/-! ### With which byte -/
def whF (tag n : Int) (l : List Int) : Nat → Nat → Int
 |0, _ => -1
 |k + 1, i => if canP tag n (l.take i) then whF tag n l k (i + 1) else i
def whW (tag n : Int) (l : List Int) : Int := whF tag n l (l.length + 1) 0
theorem whF_spec (tag n : Int) (l : List Int) : ∀ k i, (whF tag n l k i = -1 ∧ ∀ j, i ≤ j → j < i + k → canP tag n (l.take j)) ∨ (∃ m : Nat, i ≤ m ∧ m < i + k ∧ whF tag n l k i = (m : Int) ∧ ¬ canP tag n (l.take m) ∧ ∀ j, i ≤ j → j < m → canP tag n (l.take j)) := by
 intro k
 induction k with
 |zero => intro i; exact .inl ⟨rfl, fun j h1 h2 => by omega⟩
 |succ k ih =>
  intro i
  by_cases h : canP tag n (l.take i)
  ·have e : whF tag n l (k + 1) i = whF tag n l k (i + 1) := by rw [whF, if_pos h]
   rw [e]
   rcases ih (i + 1) with ⟨h1, h2⟩ | ⟨m, h1, h2, h3, h4, h5⟩
   ·refine .inl ⟨h1, fun j hj hk => ?_⟩
    by_cases hji : j = i
    ·rw [hji]; exact h
    ·exact h2 j (by omega) (by omega)
   ·refine .inr ⟨m, by omega, by omega, h3, h4, fun j hj hk => ?_⟩
    by_cases hji : j = i
    ·rw [hji]; exact h
    ·exact h5 j (by omega) hk
  ·exact .inr ⟨i, Nat.le_refl _, by omega, by rw [whF, if_neg h], h, fun j h1 h2 => by omega⟩
theorem wh_range (tag n : Int) (l : List Int) : -1 ≤ whW tag n l ∧ whW tag n l ≤ l.length := by
 unfold whW
 rcases whF_spec tag n l (l.length + 1) 0 with ⟨h, _⟩ | ⟨m, _, h2, h3, _⟩
 ·rw [h]; omega
 ·rw [h3]; omega
theorem can_nil {tag n : Int} : canP tag n [] ↔ typ tag n := by
 refine ⟨fun h => h.1, fun h => ⟨h, ?_, fun i hi => by simp at hi⟩⟩
 rcases h with ⟨_, h⟩ | ⟨_, h⟩ <;> rw [h] <;> decide
theorem wh_zero (tag n : Int) (l : List Int) : whW tag n l = 0 ↔ ¬ typ tag n := by
 unfold whW
 rcases whF_spec tag n l (l.length + 1) 0 with ⟨h, h2⟩ | ⟨m, _, h2, h3, h4, h5⟩
 ·rw [h]
  refine ⟨fun e => by omega, fun e => ?_⟩
  have := h2 0 (Nat.le_refl _) (by omega)
  exact absurd (can_nil.1 this) e
 ·rw [h3]
  refine ⟨fun e => ?_, fun e => ?_⟩
  ·have : m = 0 := by omega
   rw [this] at h4
   exact fun ht => h4 (can_nil.2 ht)
  ·by_cases hm : m = 0
   ·rw [hm]; rfl
   ·exact absurd (can_nil.1 (h5 0 (Nat.le_refl _) (by omega))) e
end Go.Proofs.Ytiiimhamfibdbaa
