/- What pushes tell of a content that is right, and of its beginnings. Of every list of numbers. -/
import Derived.Test.YtjdkpdaekmogkaaOidStep
namespace Go.Proofs.Ytjdkpdaekmogkaa
set_option linter.unusedVariables false
/-- Of a content that is right: what a push tells, of a beginning that is to be as long as one likes. -/
theorem oid_part (n : Int) (l : List Int) (hr : oW l.length true 0 l = -1) (i : Nat) (hi : i < l.length) (hn : (i : Int) < n) :
    oPush (n - i) (!oFresh l i) l[i] = if (i : Int) = n - 1 ∧ 127 < l[i] then (0, false, false) else (n - ((i + 1 : Nat) : Int), !oFresh l (i + 1), true) := by
  have hs := oW_step l.length l i hi (by omega)
  rw [hr] at hs
  have h1 : ¬ (l[i] = 128 ∧ oFresh l i = true) := fun h => by have := hs.2 (.inl h); omega
  have hf : oFresh l (i + 1) = decide (l[i] < 128) := by unfold oFresh; rw [if_neg (by omega), Nat.add_sub_cancel, List.getD_eq_getElem?_getD, List.getElem?_eq_getElem hi]; rfl
  unfold oPush
  by_cases hw : (i : Int) = n - 1 ∧ 127 < l[i]
  · rw [if_pos hw, if_pos (.inr (.inl ⟨by omega, by omega⟩))]
  · rw [if_neg hw, if_neg, hf]
    · congr 1
      · omega
      · congr 1
        by_cases h3 : l[i] < 128
        · rw [decide_eq_false (show ¬ 128 ≤ l[i] by omega), decide_eq_true h3]; rfl
        · rw [decide_eq_true (show 128 ≤ l[i] by omega), decide_eq_false h3]; rfl
    · rintro (h3 | h3 | ⟨h3, h4⟩)
      · omega
      · exact hw ⟨by omega, by omega⟩
      · exact h1 ⟨h3, by simpa using h4⟩
/-- And of the whole. -/
theorem oid_right (l : List Int) (hr : oW l.length true 0 l = -1) (i : Nat) (hi : i < l.length) :
    oPush ((l.length : Int) - i) (!oFresh l i) l[i] = ((l.length : Int) - ((i + 1 : Nat) : Int), !oFresh l (i + 1), true) := by
  have hs := oW_step l.length l i hi (by omega)
  rw [hr] at hs
  rw [oid_part l.length l hr i hi (by omega), if_neg]
  intro h
  have := hs.2 (.inr h)
  omega
end Go.Proofs.Ytjdkpdaekmogkaa
