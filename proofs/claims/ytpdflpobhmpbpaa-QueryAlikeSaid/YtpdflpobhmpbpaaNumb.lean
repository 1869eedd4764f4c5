/- Contents of numbers, in plain words: with which byte one is wrong, what a state asks, a value's bytes and bytes' value. They hold of numbers alone, under no condition on the program. -/
import Derived.Test.YtpdflpobhmpbpaaLen
import Derived.Lib.Strings
import Derived.Laws.Cover1
namespace Go.Proofs.Ytpdflpobhmpbpaa
open Go.PlainAid
set_option linter.unusedVariables false
/-! ### With which byte -/
/-- With which byte a content of n bytes is wrong, of which k came, the first two x and y. -/
def nW (tag n : Int) (k : Nat) (x y : Int) : Int :=
  if n < 0 then 0 else if tag = 5 then (if n = 0 then -1 else 0)
  else if tag = 1 then (if n = 1 then (if 0 < k ∧ x ≠ 0 ∧ x ≠ 255 then 1 else -1) else 0)
  else if tag = 2 ∨ tag = 10 then (if n = 0 then 0 else if 1 < k ∧ (x = 0 ∧ y < 128 ∨ x = 255 ∧ 127 < y) then 2 else -1)
  else -1
def nmWrong (tag n : Int) (s : ByteArray) : Int := nW tag n s.size (bt s 0) (bt s 1)
def nmOk (tag n : Int) : Bool := if tag = 2 ∨ tag = 10 then decide (1 ≤ n) else if tag = 1 then decide (n = 1) else if tag = 5 then decide (n = 0) else decide (0 ≤ n)
def nmFirst (tag : Int) : Int := if tag = 2 ∨ tag = 10 then 3 else if tag = 1 then 2 else if tag = 5 then 0 else 1
def nmSecond (b : Int) : Int := if b = 0 then 4 else if b = 255 then 5 else 1
/-- A byte more: the state behind, and whether it can be. -/
def nmPush (s b : Int) : Int × Bool :=
  if s = 1 then (1, true) else if s = 2 then (0, decide (b = 0 ∨ b = 255)) else if s = 3 then (nmSecond b, true)
  else if s = 4 then (if 128 ≤ b then (1, true) else (0, false)) else if s = 5 then (if b < 128 then (1, true) else (0, false)) else (0, false)
/-- The state behind so many bytes, the first of which is x. -/
def nmAt (tag x : Int) (i : Nat) : Int := if i = 0 then nmFirst tag else if tag = 2 ∨ tag = 10 then (if i = 1 then nmSecond x else 1) else if tag = 1 ∨ tag = 5 then 0 else 1
theorem nmOk_iff (tag n : Int) (k : Nat) (x y : Int) : nmOk tag n = true ↔ nW tag n k x y ≠ 0 := by
  unfold nmOk nW
  by_cases h1 : tag = 2 ∨ tag = 10
  · have h2 : ¬ tag = 5 := by omega
    have h3 : ¬ tag = 1 := by omega
    rw [if_pos h1, if_neg h2, if_neg h3, if_pos h1]
    simp only [decide_eq_true_eq]
    repeat' split
    all_goals omega
  · rw [if_neg h1]
    by_cases h3 : tag = 1
    · have h2 : ¬ tag = 5 := by omega
      rw [if_pos h3, if_neg h2, if_pos h3]
      simp only [decide_eq_true_eq]
      repeat' split
      all_goals omega
    · rw [if_neg h3, if_neg h3, if_neg h1]
      by_cases h2 : tag = 5
      · rw [if_pos h2, if_pos h2]
        simp only [decide_eq_true_eq]
        repeat' split
        all_goals omega
      · rw [if_neg h2, if_neg h2]
        simp only [decide_eq_true_eq]
        repeat' split
        all_goals omega
theorem nW_range (tag n : Int) (k : Nat) (x y : Int) : -1 ≤ nW tag n k x y ∧ nW tag n k x y ≤ 2 := by
  unfold nW
  repeat' split
  all_goals omega
theorem nW_len (tag n : Int) (k : Nat) (x y : Int) : nW tag n k x y ≤ k := by
  unfold nW
  repeat' split
  all_goals omega
theorem nmSecond_range (b : Int) : 0 ≤ nmSecond b ∧ nmSecond b ≤ 5 := by unfold nmSecond; repeat' split <;> omega
theorem nmFirst_range (t : Int) : 0 ≤ nmFirst t ∧ nmFirst t ≤ 5 := by unfold nmFirst; repeat' split <;> omega
theorem nmAt_range (t x : Int) (i : Nat) : 0 ≤ nmAt t x i ∧ nmAt t x i ≤ 5 := by
  have := nmSecond_range x
  have := nmFirst_range t
  unfold nmAt; repeat' split <;> omega
/-- The step: of a content of n bytes, k of which are to be seen; none of the first i is wrong. -/
theorem nm_step (tag n : Int) (k i : Nat) (x y z : Int) (hok : nmOk tag n = true) (hi : i < k) (hk : (k : Int) ≤ n)
    (hx : i = 0 → z = x) (hy : i = 1 → z = y) (h0 : ¬ (0 ≤ nW tag n k x y ∧ nW tag n k x y ≤ i)) :
    nmPush (nmAt tag x i) z = if nW tag n k x y = (i : Int) + 1 then (0, false) else (nmAt tag x (i + 1), true) := by
  unfold nmOk at hok
  by_cases h1 : tag = 2 ∨ tag = 10
  · have h2 : ¬ tag = 5 := by omega
    have h3 : ¬ tag = 1 := by omega
    rw [if_pos h1] at hok
    have hok := of_decide_eq_true hok
    have hA : nmAt tag x (i + 1) = if i = 0 then nmSecond x else 1 := by
      unfold nmAt; rw [if_neg (by omega), if_pos h1]; by_cases h : i = 0 <;> simp [h]
    have hW : nW tag n k x y = if 1 < k ∧ (x = 0 ∧ y < 128 ∨ x = 255 ∧ 127 < y) then 2 else -1 := by
      unfold nW; rw [if_neg (by omega), if_neg h2, if_neg h3, if_pos h1, if_neg (by omega)]
    rw [hW] at h0 ⊢
    rw [hA]
    by_cases i0 : i = 0
    · subst i0
      have hz := hx rfl
      subst hz
      have hB : nmAt tag z 0 = 3 := by unfold nmAt nmFirst; rw [if_pos rfl, if_pos h1]
      rw [hB, if_neg (by split <;> omega)]; rfl
    · by_cases i1 : i = 1
      · subst i1
        have hz := hy rfl
        subst hz
        have hB : nmAt tag x 1 = nmSecond x := by unfold nmAt; rw [if_neg (by decide), if_pos h1, if_pos rfl]
        rw [hB]
        unfold nmSecond nmPush
        by_cases x0 : x = 0
        · rw [if_pos x0]
          simp
          by_cases hz : z < 128
          · rw [if_neg (by omega), if_pos ⟨hi, by omega⟩]
          · rw [if_pos (by omega), if_neg (by omega)]
        · rw [if_neg x0]
          by_cases x5 : x = 255
          · rw [if_pos x5]
            simp
            by_cases hz : z < 128
            · rw [if_pos hz, if_neg (by omega)]
            · rw [if_neg hz, if_pos ⟨hi, by omega⟩]
          · rw [if_neg x5]
            simp
            omega
      · have hB : nmAt tag x i = 1 := by unfold nmAt; rw [if_neg i0, if_pos h1, if_neg i1]
        rw [hB, if_neg i0, if_neg (by split <;> omega)]; rfl
  · by_cases h3 : tag = 1
    · have h2 : ¬ tag = 5 := by omega
      rw [if_neg h1, if_pos h3] at hok
      have hok := of_decide_eq_true hok
      have i0 : i = 0 := by omega
      subst i0
      have hz := hx rfl
      subst hz
      have hA : nmAt tag z 1 = 0 := by unfold nmAt; rw [if_neg (by decide), if_neg h1, if_pos (.inl h3)]
      have hB : nmAt tag z 0 = 2 := by unfold nmAt nmFirst; rw [if_pos rfl, if_neg h1, if_pos h3]
      have hW : nW tag n k z y = if 0 < k ∧ z ≠ 0 ∧ z ≠ 255 then 1 else -1 := by
        unfold nW; rw [if_neg (by omega), if_neg h2, if_pos h3, if_pos hok]
      rw [hW, hA, hB]
      unfold nmPush
      by_cases hz : z = 0 ∨ z = 255
      · rw [if_neg (show ¬ (0 < k ∧ z ≠ 0 ∧ z ≠ 255) by omega)]
        simp [hz]
      · rw [if_pos (show 0 < k ∧ z ≠ 0 ∧ z ≠ 255 by omega)]
        simp [hz]
    · by_cases h2 : tag = 5
      · rw [if_neg h1, if_neg h3, if_pos h2] at hok
        have hok := of_decide_eq_true hok
        omega
      · have hA : ∀ j, nmAt tag x j = 1 := by
          intro j; unfold nmAt nmFirst; simp [h1, h2, h3]
        have hW : nW tag n k x y = -1 := by
          unfold nW; rw [if_neg (by omega), if_neg h2, if_neg h3, if_neg h1]
        rw [hA, hA, hW, if_neg (by omega)]; rfl
/-- Of a text's beginning. -/
theorem nmWrong_front (tag n : Int) (s : ByteArray) (i : Nat) (hi : i < s.size) : nmWrong tag n (s.extract 0 (i + 1)) = nW tag n (i + 1) (bt s 0) (bt s 1) := by
  have h1 : (s.extract 0 (i + 1)).size = i + 1 := by rw [ByteArray.size_extract]; omega
  have h2 : bt (s.extract 0 (i + 1)) 0 = bt s 0 := by rw [bt_extract (by omega) (by omega)]
  unfold nmWrong
  rw [h1, h2]
  by_cases h : i = 0
  · subst h
    unfold nW; simp
  · rw [bt_extract (by omega) (by omega)]
/-- A beginning is wrong with its last byte just if the whole is, unless an earlier one is. -/
theorem nW_front (tag n : Int) (k i : Nat) (x y : Int) (hi : i < k) : (nW tag n (i + 1) x y = (i : Int) + 1) ↔ (nW tag n k x y = (i : Int) + 1) := by
  unfold nW
  repeat' split
  all_goals omega

/-! ### Values -/
/-- A value's bytes, the lowest first, as few as it takes. -/
def loI (n : Int) : List Int := if -128 ≤ n ∧ n ≤ 127 then [n % 256] else (n % 256) :: loI (n / 256)
  termination_by n.natAbs
  decreasing_by omega
theorem loI_small {n : Int} (h : -128 ≤ n ∧ n ≤ 127) : loI n = [n % 256] := by rw [loI, if_pos h]
theorem loI_big {n : Int} (h : ¬ (-128 ≤ n ∧ n ≤ 127)) : loI n = (n % 256) :: loI (n / 256) := by rw [loI, if_neg h]
def hiI (n : Int) : List Int := (loI n).reverse
theorem hiI_small {n : Int} (h : -128 ≤ n ∧ n ≤ 127) : hiI n = [n % 256] := by rw [hiI, loI_small h]; rfl
theorem hiI_big {n : Int} (h : ¬ (-128 ≤ n ∧ n ≤ 127)) : hiI n = hiI (n / 256) ++ [n % 256] := by rw [hiI, loI_big h, List.reverse_cons]; rfl
theorem hiI_len (n : Int) : (hiI n).length = (loI n).length := by simp [hiI]
theorem loI_le (k : Nat) : ∀ n : Int, -(128 * 256 ^ k) ≤ n → n < 128 * 256 ^ k → (loI n).length ≤ k + 1 := by
  induction k with
  | zero => intro n h0 h1; rw [loI_small (by simp at h0 h1; omega)]; simp
  | succ k ih =>
    intro n h0 h1
    by_cases hs : -128 ≤ n ∧ n ≤ 127
    · rw [loI_small hs]; simp
    · rw [loI_big hs, List.length_cons]
      have e : (128 : Int) * 256 ^ (k + 1) = 256 * (128 * 256 ^ k) := by rw [Int.pow_succ]; omega
      rw [e] at h0 h1
      have := ih (n / 256) (by omega) (by omega)
      omega
theorem loI_le8 {n : Int} (h : -9223372036854775808 ≤ n ∧ n ≤ 9223372036854775807) : (loI n).length ≤ 8 := loI_le 7 n (by simp; omega) (by simp; omega)
theorem loI_ge1 (n : Int) : 1 ≤ (loI n).length := by
  rw [loI]; split <;> simp
theorem loI_isB (m : Nat) : ∀ n : Int, n.natAbs ≤ m → IsB (loI n) := by
  induction m using Nat.strongRecOn with
  | ind m ih =>
    intro n hn
    by_cases hs : -128 ≤ n ∧ n ≤ 127
    · rw [loI_small hs]; exact IsB.cons (by omega) (by omega) IsB.nil
    · rw [loI_big hs]; exact IsB.cons (by omega) (by omega) (ih (n / 256).natAbs (by omega) _ (Nat.le_refl _))
theorem hiI_isB (n : Int) : IsB (hiI n) := by intro x hx; exact loI_isB _ n (Nat.le_refl _) x (by simpa [hiI] using hx)
/-- The value that bytes are. -/
def sval : List Int → Int
  | [] => 0
  | x :: r => val r (if 127 < x then x - 256 else x)
theorem sval_snoc (l : List Int) (b : Int) (h : l ≠ []) : sval (l ++ [b]) = sval l * 256 + b := by
  cases l with
  | nil => exact absurd rfl h
  | cons x r => show val (r ++ [b]) _ = _; rw [val_append]; rfl
theorem hiI_ne (n : Int) : hiI n ≠ [] := by
  intro h; have := hiI_len n; rw [h] at this; have := loI_ge1 n; simp at *; omega
theorem sval_hiI (m : Nat) : ∀ n : Int, n.natAbs ≤ m → sval (hiI n) = n := by
  induction m using Nat.strongRecOn with
  | ind m ih =>
    intro n hn
    by_cases hs : -128 ≤ n ∧ n ≤ 127
    · rw [hiI_small hs]; show (if 127 < n % 256 then n % 256 - 256 else n % 256) = n; split <;> omega
    · rw [hiI_big hs, sval_snoc _ _ (hiI_ne _), ih (n / 256).natAbs (by omega) _ (Nat.le_refl _)]; omega
/-- Right as an integer's. -/
def numOk (l : List Int) : Bool := decide (1 ≤ l.length ∧ ¬ (1 < l.length ∧ (l.getD 0 0 = 0 ∧ l.getD 1 0 < 128 ∨ l.getD 0 0 = 255 ∧ 127 < l.getD 1 0)))
theorem numOk_iff {l : List Int} : numOk l = true ↔ (1 ≤ l.length ∧ ¬ (1 < l.length ∧ (l.getD 0 0 = 0 ∧ l.getD 1 0 < 128 ∨ l.getD 0 0 = 255 ∧ 127 < l.getD 1 0))) := by unfold numOk; exact decide_eq_true_iff
/-- The first two bytes of a value's content. -/
theorem hiI_two (m : Nat) : ∀ n : Int, n.natAbs ≤ m → ¬ (-128 ≤ n ∧ n ≤ 127) → ∃ x y r, hiI n = x :: y :: r ∧ ¬ (x = 0 ∧ y < 128 ∨ x = 255 ∧ 127 < y) := by
  induction m using Nat.strongRecOn with
  | ind m ih =>
    intro n hn hs
    rw [hiI_big hs]
    by_cases h2 : -128 ≤ n / 256 ∧ n / 256 ≤ 127
    · rw [hiI_small h2]; exact ⟨_, _, [], rfl, by omega⟩
    · obtain ⟨x, y, r, e, h⟩ := ih (n / 256).natAbs (by omega) _ (Nat.le_refl _) h2
      exact ⟨x, y, r ++ [n % 256], by rw [e]; rfl, h⟩
theorem numOk_hiI (n : Int) : numOk (hiI n) = true := by
  rw [numOk_iff]
  have h1 := loI_ge1 n
  rw [← hiI_len] at h1
  refine ⟨h1, ?_⟩
  by_cases hs : -128 ≤ n ∧ n ≤ 127
  · rw [hiI_small hs]; simp
  · obtain ⟨x, y, r, e, h⟩ := hiI_two _ n (Nat.le_refl _) hs
    rw [e]
    rintro ⟨_, h2⟩
    exact h (by simpa using h2)
/-- Bytes that are right are their value's. -/
theorem hiI_sval (l : List Int) (hl : IsB l) (h : numOk l = true) : hiI (sval l) = l ∧ ((-128 ≤ sval l ∧ sval l ≤ 127) ↔ l.length = 1) := by
  rw [numOk_iff] at h
  obtain ⟨h1, h2⟩ := h
  match l, hl, h1, h2 with
  | [x], hl, _, _ =>
    have hx := hl.head
    have e : sval [x] = if 127 < x then x - 256 else x := rfl
    have hs : -128 ≤ sval [x] ∧ sval [x] ≤ 127 := by rw [e]; split <;> omega
    refine ⟨?_, by simp [hs]⟩
    rw [hiI_small hs, e]
    congr 1
    split <;> omega
  | x :: y :: r, hl, _, h2 =>
    have h2' : ¬ (x = 0 ∧ y < 128 ∨ x = 255 ∧ 127 < y) := by intro h; exact h2 ⟨by simp, by simpa using h⟩
    have hx := hl.head
    have hy := hl.tail.head
    have key : ∀ (q : List Int), IsB q → hiI (sval (x :: y :: q)) = x :: y :: q ∧ ¬ (-128 ≤ sval (x :: y :: q) ∧ sval (x :: y :: q) ≤ 127) := by
      intro q
      induction hq : q.length generalizing q with
      | zero =>
        intro _
        have : q = [] := List.length_eq_zero_iff.1 hq
        subst this
        have e : sval [x, y] = (if 127 < x then x - 256 else x) * 256 + y := rfl
        have hns : ¬ (-128 ≤ sval [x, y] ∧ sval [x, y] ≤ 127) := by rw [e]; split <;> omega
        refine ⟨?_, hns⟩
        have e2 : sval [x, y] / 256 = if 127 < x then x - 256 else x := by rw [e]; split <;> omega
        have e3 : sval [x, y] % 256 = y := by rw [e]; split <;> omega
        rw [hiI_big hns, e2, e3, hiI_small (by split <;> omega)]
        show [_, y] = [x, y]
        congr 1
        split <;> omega
      | succ k ih =>
        intro hB
        rcases List.eq_nil_or_concat q with h | ⟨p, b, h⟩
        · subst h; simp at hq
        · rw [List.concat_eq_append] at h
          subst h
          have hp : p.length = k := by simpa using hq
          obtain ⟨i1, i2⟩ := ih p hp (fun z hz => hB z (List.mem_append_left _ hz))
          have hb := hB b (by simp)
          have e : sval (x :: y :: (p ++ [b])) = sval (x :: y :: p) * 256 + b := sval_snoc (x :: y :: p) b (by simp)
          have hns : ¬ (-128 ≤ sval (x :: y :: (p ++ [b])) ∧ sval (x :: y :: (p ++ [b])) ≤ 127) := by rw [e]; omega
          refine ⟨?_, hns⟩
          rw [hiI_big hns, e, show (sval (x :: y :: p) * 256 + b) / 256 = sval (x :: y :: p) by omega, show (sval (x :: y :: p) * 256 + b) % 256 = b by omega, i1]
          rfl
    obtain ⟨k1, k2⟩ := key r hl.tail.tail
    exact ⟨k1, by simp; omega⟩
/-- How great it can be. -/
theorem sval_range (l : List Int) (hl : IsB l) (h1 : 1 ≤ l.length) : -(128 * 256 ^ (l.length - 1)) ≤ sval l ∧ sval l < 128 * 256 ^ (l.length - 1) := by
  match l, hl, h1 with
  | x :: r, hl, _ =>
    have hx := hl.head
    have hv := val_small r hl.tail
    show _ ≤ val r _ ∧ val r _ < _
    rw [val_acc, List.length_cons, Nat.add_sub_cancel]
    have hp : (0 : Int) < 256 ^ r.length := Int.pow_pos (by decide)
    generalize (256 : Int) ^ r.length = P at *
    generalize hs : (if 127 < x then x - 256 else x) = s
    have s0 : -128 ≤ s := by rw [← hs]; split <;> omega
    have s1 : s ≤ 127 := by rw [← hs]; split <;> omega
    have b1 : -128 * P ≤ s * P := Int.mul_le_mul_of_nonneg_right s0 (by omega)
    have b2 : s * P ≤ 127 * P := Int.mul_le_mul_of_nonneg_right s1 (by omega)
    omega
theorem sval_i64 (l : List Int) (hl : IsB l) (h1 : 1 ≤ l.length) (h8 : l.length ≤ 8) : -9223372036854775808 ≤ sval l ∧ sval l ≤ 9223372036854775807 := by
  have := sval_range l hl h1
  have hp : (256 : Nat) ^ (l.length - 1) ≤ 256 ^ 7 := Nat.pow_le_pow_right (by decide) (by omega)
  have hq : ((256 : Int) ^ (l.length - 1)) = ((256 ^ (l.length - 1) : Nat) : Int) := by simp
  rw [hq] at this
  have h3 : (256 : Nat) ^ 7 = 72057594037927936 := by decide
  omega
/-- What Get tells. -/
def ngV (s : ByteArray) : Int := if numOk (bl s) = true ∧ s.size ≤ 8 then sval (bl s) else 0
def ngB (s : ByteArray) : Bool := decide (numOk (bl s) = true ∧ s.size ≤ 8)
theorem bl_getD (s : ByteArray) (i : Nat) : (bl s).getD i 0 = bt s i := by
  by_cases h : i < s.size
  · rw [List.getD_eq_getElem?_getD, bl_at s i h]; rfl
  · rw [List.getD_eq_getElem?_getD, List.getElem?_eq_none (by rw [bl_length]; omega), bt_end _ (by omega)]; rfl
theorem numOk_wrong (s : ByteArray) : numOk (bl s) = true ↔ nmWrong 2 s.size s = -1 := by
  rw [numOk_iff, bl_length, bl_getD, bl_getD]
  unfold nmWrong nW
  rw [if_neg (by omega), if_neg (by omega), if_neg (by omega), if_pos (.inl rfl)]
  repeat' split
  all_goals omega
/-! ### What the laws want -/
theorem put_size (n : Int) : (strOfNums (hiI n)).size = (loI n).length := by rw [strOfNums_size, hiI_len]
theorem put_back {n : Int} (h : -9223372036854775808 ≤ n ∧ n ≤ 9223372036854775807) : ngV (strOfNums (hiI n)) = n ∧ ngB (strOfNums (hiI n)) = true ∧ nmWrong 2 (strOfNums (hiI n)).size (strOfNums (hiI n)) = -1 := by
  have hb := bl_str (hiI_isB n)
  have hs : (strOfNums (hiI n)).size ≤ 8 := by rw [put_size]; exact loI_le8 h
  have hok : numOk (bl (strOfNums (hiI n))) = true := by rw [hb]; exact numOk_hiI n
  refine ⟨?_, ?_, (numOk_wrong _).1 hok⟩
  · unfold ngV; rw [if_pos ⟨hok, hs⟩, hb]; exact sval_hiI _ n (Nat.le_refl _)
  · unfold ngB; exact decide_eq_true ⟨hok, hs⟩
theorem got_put (s : ByteArray) (h : ngB s = true) : strOfNums (hiI (ngV s)) = s := by
  have h := of_decide_eq_true h
  unfold ngV
  rw [if_pos h, (hiI_sval _ (bl_isB s) h.1).1, str_bl]
theorem ngV_i64 (s : ByteArray) : -9223372036854775808 ≤ ngV s ∧ ngV s ≤ 9223372036854775807 := by
  unfold ngV
  split
  · rename_i h
    exact sval_i64 _ (bl_isB s) (numOk_iff.1 h.1).1 (by rw [bl_length]; exact h.2)
  · omega
theorem ngV_bad (s : ByteArray) (h : ngB s = false) : ngV s = 0 := by
  have h := of_decide_eq_false h
  unfold ngV; rw [if_neg h]
theorem loI_mono (k : Nat) : ∀ n m : Int, m.natAbs ≤ k → 0 ≤ n → n ≤ m → (loI n).length ≤ (loI m).length := by
  induction k using Nat.strongRecOn with
  | ind k ih =>
    intro n m hk h0 h1
    by_cases hn : n ≤ 127
    · rw [loI_small (by omega)]; exact loI_ge1 m
    · rw [loI_big (by omega), loI_big (show ¬ (-128 ≤ m ∧ m ≤ 127) by omega), List.length_cons, List.length_cons]
      have := ih (m / 256).natAbs (by omega) (n / 256) (m / 256) (Nat.le_refl _) (by omega) (by omega)
      omega
theorem val_hiI (k : Nat) : ∀ n : Int, n.natAbs ≤ k → 0 ≤ n → val (hiI n) 0 = n := by
  induction k using Nat.strongRecOn with
  | ind k ih =>
    intro n hk h0
    by_cases hn : n ≤ 127
    · rw [hiI_small (by omega)]; show 0 * 256 + n % 256 = n; omega
    · rw [hiI_big (by omega), val_append, ih (n / 256).natAbs (by omega) _ (Nat.le_refl _) (by omega)]; show n / 256 * 256 + n % 256 = n; omega
theorem bl_put (n : Int) : bl (strOfNums (hiI n)) = hiI n := bl_str (hiI_isB n)
theorem num_rise {n m : Int} (h0 : 0 ≤ n) (h1 : n ≤ m) (hs : (strOfNums (hiI n)).size = (strOfNums (hiI m)).size) : (Op.bytesLess (strOfNums (hiI n)).toList (strOfNums (hiI m)).toList || (strOfNums (hiI n)).toList == (strOfNums (hiI m)).toList) = true := by
  rw [Lib.toList_data, Lib.toList_data]
  have key : val (bl (strOfNums (hiI n))) 0 ≤ val (bl (strOfNums (hiI m))) 0 := by
    rw [bl_put, bl_put, val_hiI _ n (Nat.le_refl _) h0, val_hiI _ m (Nat.le_refl _) (by omega)]; exact h1
  rcases less_of _ _ (by have e : ∀ s : ByteArray, s.data.toList.length = s.size := fun s => rfl
                         rw [e, e]; exact hs) key with hk | hk
  · rw [hk]; rfl
  · rw [hk]; simp
end Go.Proofs.Ytpdflpobhmpbpaa
