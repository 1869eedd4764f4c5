/- Along a content of a time: each byte's step tells just whether it is the wrong one. It holds of lists of numbers alone, under no condition on the program. -/
import Derived.Test.YthjncfpgmfbehaaDoorRefWhen6
import Derived.Test.YthjncfpgmfbehaaDoorWhenRead
namespace Go.Proofs.YthjncfpgmfbehaaDoor
open Go.PlainAid
set_option linter.unusedVariables false
theorem chk_step {tag n : Int} {l : List Int} {i : Nat} (hc : canP tag n (l.take i)) (hi : i < l.length) (hn : (l.length : Int) ≤ n) (h : ¬ (0 ≤ whW tag n l ∧ whW tag n l ≤ i)) :
    (whW tag n l = (i : Int) + 1 → wPush (wSt tag (l.take i)) l[i] = (WS.no, false)) ∧
    (whW tag n l ≠ (i : Int) + 1 → wPush (wSt tag (l.take i)) l[i] = (wSt tag (l.take (i + 1)), true) ∧ canP tag n (l.take (i + 1)) ∧ ¬ (0 ≤ whW tag n l ∧ whW tag n l ≤ ((i + 1 : Nat) : Int))) := by
  have hs := wh_step tag n l i hi hn h
  have key : canP tag n (l.take (i + 1)) ↔ stepC tag n l i := by
    obtain ⟨h1, h2, h3⟩ := hc
    unfold canP
    rw [okC_take _ _ _ _ (by omega)] at h3 ⊢
    rw [List.length_take]
    refine ⟨fun hh => hh.2.2 i (by omega), fun hh => ⟨h1, by omega, fun j hj => ?_⟩⟩
    by_cases hji : j = i
    · rw [hji]; exact hh
    · exact h3 j (by omega)
  rw [w_push hc, ← take_more hi]
  refine ⟨fun e => if_neg (fun hcc => hs.1 e (key.1 hcc)), fun e => ?_⟩
  have hcc : canP tag n (l.take (i + 1)) := key.2 (Decidable.byContradiction fun hh => e (hs.2 hh))
  exact ⟨if_pos hcc, hcc, by omega⟩
end Go.Proofs.YthjncfpgmfbehaaDoor
