/- The library's insertion sort over a row, in plain words: it is the stable order. Of rows of any elements, under a strict weak order. -/
import Derived.Test.YtnlhpldjficecaaSortMerge
namespace Go.Proofs.Ytnlhpldjficecaa
open Go.Sort
set_option linter.unusedVariables false
set_option linter.unusedSectionVars false
variable {α : Type} [Inhabited α] {lt : α → α → Bool}
theorem insInner_is (hO : SWO lt) (f : Nat → α) {a j : Nat} (hA : AscF lt f a j) : ∀ (c : Nat) (dk : Array α), a ≤ c → c ≤ j → j < dk.size → (∀ t, dk[t]! = rotF f c j (j + 1) t) → (∀ t, c ≤ t → t < j → lt (f j) (f t) = true) →
    (insInner lt a c dk).size = dk.size ∧ MrgF lt f (fun k => (insInner lt a c dk)[k]!) a j (j + 1) := by
  intro c
  induction c with
  | zero =>
    intro dk hac hcj hsz hk ht
    rw [insInner_stop lt a 0 dk (.inl (Nat.zero_le _))]
    exact ⟨rfl, mrgF_last hac (Nat.zero_le _) (fun t h1 h2 => by omega) ht hk⟩
  | succ c ih =>
    intro dk hac hcj hsz hk ht
    have e1 : dk[c + 1]! = f j := by rw [hk, rotF_left _ (by omega) (by omega)]; congr 1; omega
    have e2 : dk[c]! = f c := by rw [hk, rotF_else _ (by omega) (by omega) (by omega)]
    by_cases hs : a < c + 1 ∧ lt (f j) (f c) = true
    · rw [insInner_go lt a (c + 1) dk hs.1 (by rw [Nat.add_sub_cancel, e1, e2]; exact hs.2), Nat.add_sub_cancel]
      have hsw : ∀ t, (swp dk (c + 1) c)[t]! = rotF f c j (j + 1) t := fun t => by
        rw [swp_at dk (by omega) (by omega), rot_down f hcj, hk, hk, hk]
      have := ih (swp dk (c + 1) c) (by omega) (by omega) (by rw [size_swp]; exact hsz) hsw (fun t h1 h2 => by
        by_cases e : t = c
        · subst e; exact hs.2
        · exact ht t (by omega) h2)
      rw [size_swp] at this
      exact this
    · rw [insInner_stop lt a (c + 1) dk (by
        rw [Nat.add_sub_cancel, e1, e2]
        by_cases h : a < c + 1
        · right
          cases hv : lt (f j) (f c) with
          | true => exact absurd ⟨h, hv⟩ hs
          | false => rfl
        · left; omega)]
      refine ⟨rfl, mrgF_last hac hcj (fun t h1 h2 => ?_) ht hk⟩
      have hlt : lt (f j) (f c) = false := by
        cases hv : lt (f j) (f c) with
        | true => exact absurd ⟨by omega, hv⟩ hs
        | false => rfl
      by_cases e : t = c
      · subst e; exact hlt
      · exact hO.ntrans _ _ _ hlt (hA t c h1 (by omega) (by omega))
/-- [a, i) of a row is sorted; all else stays. -/
structure SrtF (lt : α → α → Bool) (f g : Nat → α) (a b : Nat) : Prop where
  out : ∀ k, k < a ∨ b ≤ k → g k = f k
  seg : seg g a (b - a) = srt lt (seg f a (b - a))
theorem insOuter_is (hO : SWO lt) (f : Nat → α) (a b : Nat) : ∀ (N i : Nat) (dk : Array α), b - i ≤ N → a < i → b ≤ dk.size → (i ≤ b → SrtF lt f (fun k => dk[k]!) a i) → (b < i → SrtF lt f (fun k => dk[k]!) a b) →
    (insOuter lt a b i dk).size = dk.size ∧ SrtF lt f (fun k => (insOuter lt a b i dk)[k]!) a b := by
  intro N
  induction N with
  | zero =>
    intro i dk hN hai hb h1 h2
    rw [insOuter_stop lt a b i dk (by omega)]
    refine ⟨rfl, ?_⟩
    by_cases e : b < i
    · exact h2 e
    · obtain rfl : i = b := by omega
      exact h1 (Nat.le_refl _)
  | succ N ih =>
    intro i dk hN hai hb h1 h2
    by_cases hlt : i < b
    · rw [insOuter_go lt a b i dk hlt]
      have hs := h1 (by omega)
      have hA : AscF lt (fun k => dk[k]!) a i := AscF.of (by omega) (by rw [hs.seg]; exact asc_srt hO _ _ rfl)
      obtain ⟨q1, q2⟩ := insInner_is hO (fun k => dk[k]!) hA i dk (by omega) (Nat.le_refl _) (by omega) (fun t => (rotF_none _ i i (i + 1) (by omega) (by omega) (.inl rfl) t).symm) (fun t h1 h2 => by omega)
      have hn : SrtF lt f (fun k => (insInner lt a i dk)[k]!) a (i + 1) := by
        refine ⟨fun k hk => (q2.1 k hk).trans (hs.out k (by omega)), ?_⟩
        rw [q2.2, hs.seg, show i + 1 - i = 1 by omega, seg_one, show i + 1 - a = (i - a) + 1 by omega, seg_add f (i - a) a 1, seg_one, show a + (i - a) = i by omega, srt_snoc]
        exact congrArg (fun z => mrg lt (srt lt (seg f a (i - a))) [z]) (hs.out i (.inr (Nat.le_refl _)))
      have := ih (i + 1) (insInner lt a i dk) (by omega) (by omega) (by rw [q1]; exact hb) (fun _ => hn) (fun h => by omega)
      rw [q1] at this
      exact this
    · rw [insOuter_stop lt a b i dk hlt]
      refine ⟨rfl, ?_⟩
      by_cases e : b < i
      · exact h2 e
      · obtain rfl : i = b := by omega
        exact h1 (Nat.le_refl _)
/-- The insertion sort is the stable order. -/
theorem insertion_is (hO : SWO lt) (d : Array α) (a b : Nat) (hab : a ≤ b) (hb : b ≤ d.size) : (Sort.insertionSort lt d a b).size = d.size ∧ SrtF lt (fun k => d[k]!) (fun k => (Sort.insertionSort lt d a b)[k]!) a b := by
  unfold Sort.insertionSort
  refine insOuter_is hO (fun k => d[k]!) a b _ (a + 1) d (Nat.le_refl _) (by omega) hb (fun h => ⟨fun _ _ => rfl, ?_⟩) (fun h => ⟨fun _ _ => rfl, ?_⟩)
  · rw [show a + 1 - a = 1 by omega, seg_one, srt_one]
  · rw [show b - a = 0 by omega, seg_zero]; rfl
end Go.Proofs.Ytnlhpldjficecaa
