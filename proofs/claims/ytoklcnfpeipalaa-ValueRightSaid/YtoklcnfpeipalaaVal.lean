/- Contents of all elements in plain words: with which byte one is wrong, whatever its tag, and that this is the first of its beginnings that is. It holds of lists of numbers alone, under no condition on the program. -/
import Derived.Test.YtoklcnfpeipalaaP0
import Derived.Test.YtoklcnfpeipalaaW3
namespace Go.Proofs.Ytoklcnfpeipalaa
open Go.PlainAid
set_option linter.unusedVariables false
def nWl (tag n : Int) (l : List Int) : Int := nW tag n l.length (g l 0) (g l 1)
def bWl (n : Int) (l : List Int) : Int :=
  if n < 1 then 0 else if 0 < l.length ∧ cB (g l 0) n = false then 1 else if 1 < n ∧ (l.length : Int) = n ∧ cE (g l 0) (g l (l.length - 1)) = false then n else -1
/-- With which byte a content of n bytes is wrong, of which these came; 0: it can't be so long; -1: with none. -/
def vW (tag n : Int) (l : List Int) : Int :=
  if tag = 1 ∨ tag = 2 ∨ tag = 5 ∨ tag = 10 then nWl tag n l else if tag = 6 then oidWrong n l else if tag = 3 then bWl n l else if tag = 23 ∨ tag = 24 then whW tag n l else txW tag n l
/-- What 'the first of its beginnings' says of a function of lists. -/
def FirstAt (W : List Int → Int) (l : List Int) : Prop := (-1 ≤ W l ∧ W l ≤ l.length) ∧ ∀ i, i ≤ l.length → W (l.take i) = if 0 ≤ W l ∧ W l ≤ i then W l else -1
theorem first_of_can {W : List Int → Int} {can : List Int → Prop}
    (h : ∀ l, (W l = -1 ∧ ∀ j, j ≤ l.length → can (l.take j)) ∨ (∃ m : Nat, m ≤ l.length ∧ W l = (m : Int) ∧ ¬ can (l.take m) ∧ ∀ j, j < m → can (l.take j))) (l : List Int) : FirstAt W l := by
  refine ⟨?_, fun i hi => ?_⟩
  · rcases h l with ⟨h1, _⟩ | ⟨m, h1, h2, _⟩
    · rw [h1]; omega
    · rw [h2]; omega
  · have hlen : (l.take i).length = i := by rw [List.length_take]; omega
    have ht : ∀ j, j ≤ i → (l.take i).take j = l.take j := fun j hj => by rw [List.take_take, Nat.min_eq_left hj]
    rcases h l with ⟨h1, h2⟩ | ⟨m, h1, h2, h3, h4⟩
    · rw [h1, if_neg (by omega)]
      rcases h (l.take i) with ⟨k1, _⟩ | ⟨k, k1, k2, k3, _⟩
      · exact k1
      · rw [hlen] at k1
        rw [ht k k1] at k3
        exact absurd (h2 k (by omega)) k3
    · rw [h2]
      by_cases hm : m ≤ i
      · rw [if_pos (by omega)]
        rcases h (l.take i) with ⟨k1, k2⟩ | ⟨k, k1, k2, k3, k4⟩
        · have := k2 m (by omega)
          rw [ht m hm] at this
          exact absurd this h3
        · rw [hlen] at k1
          rw [ht k k1] at k3
          rw [k2]
          have : ¬ k < m := fun hk => k3 (h4 k hk)
          have : ¬ m < k := fun hk => by
            have := k4 m hk
            rw [ht m hm] at this
            exact h3 this
          omega
      · rw [if_neg (by omega)]
        rcases h (l.take i) with ⟨k1, _⟩ | ⟨k, k1, k2, k3, _⟩
        · exact k1
        · rw [hlen] at k1
          rw [ht k k1] at k3
          exact absurd (h4 k (by omega)) k3
theorem tx_first (tag n : Int) (l : List Int) : FirstAt (txW tag n) l := by
  refine first_of_can (can := canT tag n) (fun l => ?_) l
  unfold txW
  rcases wrF_spec (fun i => decide (canT tag n (l.take i))) (l.length + 1) 0 with ⟨h1, h2⟩ | ⟨m, _, h2, h3, h4, h5⟩
  · exact .inl ⟨h1, fun j hj => of_decide_eq_true (h2 j (by omega) (by omega))⟩
  · exact .inr ⟨m, by omega, h3, fun hc => h4 (decide_eq_true hc), fun j hj => of_decide_eq_true (h5 j (by omega) hj)⟩
theorem wh_first (tag n : Int) (l : List Int) : FirstAt (whW tag n) l := by
  refine first_of_can (can := canP tag n) (fun l => ?_) l
  unfold whW
  rcases whF_spec tag n l (l.length + 1) 0 with ⟨h1, h2⟩ | ⟨m, _, h2, h3, h4, h5⟩
  · exact .inl ⟨h1, fun j hj => h2 j (by omega) (by omega)⟩
  · exact .inr ⟨m, by omega, h3, h4, fun j hj => h5 j (by omega) hj⟩
theorem oW_take (n : Int) (l : List Int) : ∀ (f : Bool) (i k : Nat), k ≤ l.length → oW n f i (l.take k) = if 0 ≤ oW n f i l ∧ oW n f i l ≤ ((i + k : Nat) : Int) then oW n f i l else -1 := by
  induction l with
  | nil =>
    intro f i k hk
    have e : oW n f i [] = -1 := rfl
    rw [List.take_nil, e, if_neg (by omega)]
  | cons c r ih =>
    intro f i k hk
    have hr := oW_range n (c :: r) f i
    cases k with
    | zero =>
      rw [List.take_zero]
      show (-1 : Int) = _
      rw [if_neg (by omega)]
    | succ k =>
      rw [List.take_succ_cons, oW_cons, oW_cons]
      by_cases h : (c = 128 ∧ f = true) ∨ ((i : Int) = n - 1 ∧ 127 < c)
      · rw [if_pos h, if_pos h, if_pos (by omega)]
      · rw [if_neg h, if_neg h, ih _ _ _ (by simp at hk; omega), show i + 1 + k = i + (k + 1) by omega]
theorem oid_first (n : Int) (l : List Int) : FirstAt (oidWrong n) l := by
  unfold FirstAt oidWrong
  by_cases h : n < 1
  · rw [if_pos h]
    refine ⟨by omega, fun i hi => ?_⟩
    rw [if_pos h, if_pos (by omega)]
  · rw [if_neg h]
    have hr := oW_range n l true 0
    refine ⟨by omega, fun i hi => ?_⟩
    rw [if_neg h, oW_take n l true 0 i hi, Nat.zero_add]
theorem g_takeV {l : List Int} {i j : Nat} (h : j < i) : g (l.take i) j = g l j := g_take h
theorem num_first (tag n : Int) (l : List Int) : FirstAt (nWl tag n) l := by
  have hlen : ∀ i, i ≤ l.length → (l.take i).length = i := fun i hi => by rw [List.length_take]; omega
  refine ⟨⟨(nW_range _ _ _ _ _).1, nW_len _ _ _ _ _⟩, fun i hi => ?_⟩
  unfold nWl
  rw [hlen i hi]
  by_cases h2 : 2 ≤ i
  · rw [g_takeV (by omega), g_takeV (by omega)]
    generalize g l 0 = x
    generalize g l 1 = y
    unfold nW
    repeat' split
    all_goals omega
  · by_cases h1 : i = 1
    · subst h1
      rw [g_takeV (by omega)]
      generalize g (l.take 1) 1 = z
      generalize g l 0 = x
      generalize g l 1 = y
      unfold nW
      repeat' split
      all_goals omega
    · obtain rfl : i = 0 := by omega
      generalize g (l.take 0) 0 = u
      generalize g (l.take 0) 1 = z
      generalize g l 0 = x
      generalize g l 1 = y
      unfold nW
      repeat' split
      all_goals omega
theorem bits_first (n : Int) (l : List Int) (hn : (l.length : Int) ≤ n) : FirstAt (bWl n) l := by
  have hlen : ∀ i, i ≤ l.length → (l.take i).length = i := fun i hi => by rw [List.length_take]; omega
  have hrng : -1 ≤ bWl n l ∧ bWl n l ≤ l.length := by
    unfold bWl
    repeat' split
    all_goals omega
  refine ⟨hrng, fun i hi => ?_⟩
  by_cases hc : n < 1
  · have el : ∀ m, bWl n m = 0 := fun m => by unfold bWl; rw [if_pos hc]
    rw [el, el, if_pos (by omega)]
  · by_cases hi0 : i = 0
    · subst hi0
      have ei : bWl n (l.take 0) = -1 := by unfold bWl; rw [if_neg hc, hlen 0 (by omega), if_neg (by omega), if_neg (by omega)]
      have el : bWl n l ≠ 0 := by
        unfold bWl
        rw [if_neg hc]
        repeat' split
        all_goals omega
      rw [ei, if_neg (by omega)]
    · by_cases h1 : cB (g l 0) n = false
      · have el : bWl n l = 1 := by unfold bWl; rw [if_neg hc, if_pos ⟨by omega, h1⟩]
        have ei : bWl n (l.take i) = 1 := by unfold bWl; rw [if_neg hc, hlen i hi, g_takeV (by omega), if_pos ⟨by omega, h1⟩]
        rw [el, ei, if_pos (by omega)]
      · by_cases hil : i = l.length
        · rw [hil, List.take_length]
          split
          · rfl
          · omega
        · have ei : bWl n (l.take i) = -1 := by unfold bWl; rw [if_neg hc, hlen i hi, g_takeV (by omega), if_neg (fun h => h1 h.2), if_neg (by omega)]
          have el : bWl n l = -1 ∨ bWl n l = l.length := by
            unfold bWl
            rw [if_neg hc, if_neg (fun h => h1 h.2)]
            split
            · right; omega
            · left; rfl
          rw [ei, if_neg (by omega)]
/-- With which byte: the first of its beginnings that is wrong. -/
theorem v_first (tag n : Int) (l : List Int) (hn : (l.length : Int) ≤ max n 0) : FirstAt (vW tag n) l := by
  have key : ∀ W : List Int → Int, vW tag n = W → FirstAt W l → FirstAt (vW tag n) l := fun W h hf => by rw [h]; exact hf
  by_cases h1 : tag = 1 ∨ tag = 2 ∨ tag = 5 ∨ tag = 10
  · exact key (nWl tag n) (by funext l; unfold vW; rw [if_pos h1]) (num_first tag n l)
  · by_cases h2 : tag = 6
    · exact key (oidWrong n) (by funext l; unfold vW; rw [if_neg h1, if_pos h2]) (oid_first n l)
    · by_cases h3 : tag = 3
      · by_cases h0 : 0 ≤ n
        · exact key (bWl n) (by funext l; unfold vW; rw [if_neg h1, if_neg h2, if_pos h3]) (bits_first n l (by omega))
        · refine key (bWl n) (by funext l; unfold vW; rw [if_neg h1, if_neg h2, if_pos h3]) ?_
          obtain rfl : l = [] := List.length_eq_zero_iff.1 (by omega)
          unfold FirstAt bWl
          rw [if_pos (by omega)]
          refine ⟨by omega, fun i hi => ?_⟩
          rw [if_pos (by omega), if_pos (by omega)]
      · by_cases h4 : tag = 23 ∨ tag = 24
        · exact key (whW tag n) (by funext l; unfold vW; rw [if_neg h1, if_neg h2, if_neg h3, if_pos h4]) (wh_first tag n l)
        · exact key (txW tag n) (by funext l; unfold vW; rw [if_neg h1, if_neg h2, if_neg h3, if_neg h4]) (tx_first tag n l)
/-- One byte more behind what isn't wrong: it is the wrong one, or nothing is. -/
theorem v_snoc (tag n : Int) (l : List Int) (x : Int) (hn : (l.length : Int) + 1 ≤ max n 0) (h : vW tag n l = -1) : vW tag n (l ++ [x]) = -1 ∨ vW tag n (l ++ [x]) = (l.length : Int) + 1 := by
  obtain ⟨⟨f1, f2⟩, f3⟩ := v_first tag n (l ++ [x]) (by rw [List.length_append, List.length_singleton]; omega)
  have := f3 l.length (by rw [List.length_append]; omega)
  rw [List.take_left, h] at this
  rw [List.length_append, List.length_singleton] at f2
  split at this
  · omega
  · omega
end Go.Proofs.Ytoklcnfpeipalaa
