/- Layer 8: what the laws need beside the contracts. -/
import Derived.Test.YtlfmcgkkfbhifaaStack
import Derived.Deep.LoopGhost
namespace Go.Proofs.Ytlfmcgkkfbhifaa
set_option linter.unusedVariables false
theorem zeros_enter {m i : Nat} (h : i < m) : (⟨m, List.replicate i 0⟩ : SS).enterE 0 = 0 ∧ (⟨m, List.replicate i 0⟩ : SS).enter 0 = ⟨m, List.replicate (i + 1) 0⟩ := by
  have hl : ¬ (0 ≤ (⟨m, List.replicate i 0⟩ : SS).last ∧ (⟨m, List.replicate i 0⟩ : SS).last < 0) := by omega
  have e : (⟨m, List.replicate i 0⟩ : SS).enterE 0 = 0 := by
    unfold SS.enterE
    rw [if_neg (by decide), if_neg hl, if_neg (by simp; omega)]
  refine ⟨e, ?_⟩
  unfold SS.enter
  rw [if_pos e]
  congr 1
  rw [List.replicate_succ]
  congr 1
  cases i with
  | zero => rfl
  | succ i => rw [List.replicate_succ]; rfl
theorem zeros_full (m : Nat) : (⟨m, List.replicate m 0⟩ : SS).enterE 0 = 10 ∧ (⟨m, List.replicate m 0⟩ : SS).enter 0 = ⟨m, List.replicate m 0⟩ := by
  have hl : ¬ (0 ≤ (⟨m, List.replicate m 0⟩ : SS).last ∧ (⟨m, List.replicate m 0⟩ : SS).last < 0) := by omega
  have e : (⟨m, List.replicate m 0⟩ : SS).enterE 0 = 10 := by
    unfold SS.enterE
    rw [if_neg (by decide), if_neg hl, if_pos (by simp)]
  exact ⟨e, by unfold SS.enter; rw [if_neg (by rw [e]; decide)]⟩
theorem zeros_leave (m i : Nat) : (⟨m, List.replicate (i + 1) 0⟩ : SS).leaveB = true ∧ (⟨m, List.replicate (i + 1) 0⟩ : SS).leave = ⟨m, List.replicate i 0⟩ := by
  rw [List.replicate_succ]
  exact ⟨rfl, rfl⟩
theorem zeros_depth (m i : Nat) : (⟨m, List.replicate i 0⟩ : SS).depth = (i : Int) := by unfold SS.depth; simp
theorem none_leave (m : Nat) : (⟨m, []⟩ : SS).leaveB = false ∧ (⟨m, []⟩ : SS).leave = ⟨m, []⟩ := ⟨rfl, rfl⟩
theorem new_most (d : Int) : ∃ m : Nat, min (max d 0) 64 = (m : Int) ∧ m ≤ 64 ∧ SS.new d = ⟨m, []⟩ := ⟨(max 0 (min d 64)).toNat, by omega, by omega, rfl⟩
/-- Elements within each other, each of as many bytes as its outer one has left. -/
def nest (n : Int) : Nat → List Int
  | 0 => []
  | i + 1 => n :: List.replicate i 0
theorem nest_enter {m i : Nat} {n : Int} (h0 : 0 ≤ n) (h : i < m) : (⟨m, nest n i⟩ : SS).enterE n = 0 ∧ (⟨m, nest n i⟩ : SS).enter n = ⟨m, nest n (i + 1)⟩ := by
  have hl : ¬ (0 ≤ (⟨m, nest n i⟩ : SS).last ∧ (⟨m, nest n i⟩ : SS).last < n) := by
    cases i with
    | zero => show ¬ (0 ≤ (-1 : Int) ∧ _); omega
    | succ i => show ¬ (0 ≤ n ∧ n < n); omega
  have hlen : (nest n i).length = i := by cases i with
    | zero => rfl
    | succ i => simp [nest]
  have e : (⟨m, nest n i⟩ : SS).enterE n = 0 := by
    unfold SS.enterE
    rw [if_neg (by omega), if_neg hl, if_neg (by show ¬ m ≤ (nest n i).length; omega)]
  refine ⟨e, ?_⟩
  unfold SS.enter
  rw [if_pos e]
  congr 1
  cases i with
  | zero => rfl
  | succ i => show n :: (n - n) :: List.replicate i 0 = n :: List.replicate (i + 1) 0; rw [Int.sub_self, List.replicate_succ]
theorem nest_last (m i : Nat) (n : Int) : (⟨m, nest n (i + 1)⟩ : SS).last = n := rfl
theorem nest_full {m i : Nat} {x : Int} (h : 0 < x) : (⟨m, x :: List.replicate i 0⟩ : SS).leaveB = false ∧ (⟨m, x :: List.replicate i 0⟩ : SS).leave = ⟨m, x :: List.replicate i 0⟩ ∧ (⟨m, x :: List.replicate i 0⟩ : SS).takeE = 0 ∧ (⟨m, x :: List.replicate i 0⟩ : SS).take = ⟨m, (x - 1) :: List.replicate i 0⟩ := by
  have hne : ¬ (⟨m, x :: List.replicate i 0⟩ : SS).last = 0 := by show ¬ x = 0; omega
  refine ⟨by unfold SS.leaveB; simpa using hne, by unfold SS.leave; rw [if_neg hne], by unfold SS.takeE; rw [if_neg hne], ?_⟩
  show (if x = 0 then _ else _) = _
  rw [if_neg (by omega)]
theorem new_in {d : Nat} (h : d ≤ 64) : SS.new (d : Int) = ⟨d, []⟩ := by unfold SS.new; congr 1; omega
/-! ### One element, and one within it -/
theorem sum_far {p y : Int} (h0 : 0 ≤ p) (hy : 0 ≤ y) (h : y < p) : (⟨2, [y]⟩ : SS).enterE p = 5 ∧ (⟨2, [y]⟩ : SS).enter p = ⟨2, [y]⟩ := by
  have e : (⟨2, [y]⟩ : SS).enterE p = 5 := by unfold SS.enterE; rw [if_neg (by omega), if_pos ⟨hy, h⟩]
  exact ⟨e, by unfold SS.enter; rw [if_neg (by rw [e]; decide)]⟩
theorem sum_in {p y : Int} (h0 : 0 ≤ p) (h : p ≤ y) : (⟨2, [y]⟩ : SS).enterE p = 0 ∧ (⟨2, [y]⟩ : SS).enter p = ⟨2, [p, y - p]⟩ := by
  have hl : ¬ (0 ≤ (⟨2, [y]⟩ : SS).last ∧ (⟨2, [y]⟩ : SS).last < p) := by show ¬ (0 ≤ y ∧ y < p); omega
  have e : (⟨2, [y]⟩ : SS).enterE p = 0 := by unfold SS.enterE; rw [if_neg (by omega), if_neg hl, if_neg (by show ¬ 2 ≤ 1; decide)]
  exact ⟨e, by unfold SS.enter; rw [if_pos e]; rfl⟩
theorem sum_first {n : Int} (h0 : 0 ≤ n) : (⟨2, []⟩ : SS).enterE n = 0 ∧ (⟨2, []⟩ : SS).enter n = ⟨2, [n]⟩ := by
  have e : (⟨2, []⟩ : SS).enterE n = 0 := by unfold SS.enterE; rw [if_neg (by omega), if_neg (by show ¬ (0 ≤ (-1 : Int) ∧ _); omega), if_neg (by show ¬ 2 ≤ 0; decide)]
  exact ⟨e, by unfold SS.enter; rw [if_pos e]; rfl⟩
theorem sum_take {m : Nat} {x : Int} {l : List Int} (h : 0 < x) : (⟨m, x :: l⟩ : SS).takeE = 0 ∧ (⟨m, x :: l⟩ : SS).take = ⟨m, (x - 1) :: l⟩ := by
  refine ⟨by unfold SS.takeE; rw [if_neg (by show ¬ x = 0; omega)], ?_⟩
  show (if x = 0 then _ else _) = _
  rw [if_neg (by omega)]
theorem sum_none (m : Nat) (l : List Int) : (⟨m, 0 :: l⟩ : SS).takeE = 5 ∧ (⟨m, 0 :: l⟩ : SS).take = ⟨m, 0 :: l⟩ ∧ (⟨m, 0 :: l⟩ : SS).leaveB = true ∧ (⟨m, 0 :: l⟩ : SS).leave = ⟨m, l⟩ := ⟨rfl, rfl, rfl, rfl⟩
theorem sum_leave (m : Nat) (x : Int) (l : List Int) : (⟨m, x :: l⟩ : SS).leaveB = decide (x = 0) := rfl
end Go.Proofs.Ytlfmcgkkfbhifaa
