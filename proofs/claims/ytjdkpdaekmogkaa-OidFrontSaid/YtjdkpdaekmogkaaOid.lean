/- Contents of object identifiers, in plain words: with which byte one is wrong, arcs' bytes and bytes' arcs. They hold of numbers alone, under no condition on the program. -/
import Derived.Test.YtjdkpdaekmogkaaIdent
namespace Go.Proofs.Ytjdkpdaekmogkaa
open Go.PlainAid
set_option linter.unusedVariables false

/-! ### With which byte -/
/-- From a byte on: fresh: a number begins there. -/
def oW (n : Int) : Bool → Nat → List Int → Int
  | _, _, [] => -1
  | fresh, i, c :: r => if (c = 128 ∧ fresh = true) ∨ ((i : Int) = n - 1 ∧ 127 < c) then (i : Int) + 1 else oW n (decide (c < 128)) (i + 1) r
def oidWrong (n : Int) (l : List Int) : Int := if n < 1 then 0 else oW n true 0 l
theorem oW_cons (n : Int) (f : Bool) (i : Nat) (c : Int) (r : List Int) : oW n f i (c :: r) = if (c = 128 ∧ f = true) ∨ ((i : Int) = n - 1 ∧ 127 < c) then (i : Int) + 1 else oW n (decide (c < 128)) (i + 1) r := rfl
theorem oW_range (n : Int) (l : List Int) : ∀ (f : Bool) (i : Nat), oW n f i l = -1 ∨ ((i : Int) < oW n f i l ∧ oW n f i l ≤ i + l.length) := by
  induction l with
  | nil => intro f i; left; rfl
  | cons c r ih =>
    intro f i
    rw [oW_cons]
    split
    · right; simp <;> omega
    · rcases ih (decide (c < 128)) (i + 1) with h | ⟨h1, h2⟩
      · left; exact h
      · right; rw [List.length_cons]; omega
/-- Whether a number begins behind so many bytes. -/
def oFresh (l : List Int) (i : Nat) : Bool := if i = 0 then true else decide (l.getD (i - 1) 0 < 128)
/-- What is told of the whole, from a place on that is reached. -/
theorem oW_drop (n : Int) (l : List Int) (i : Nat) (hi : i ≤ l.length) (h : ¬ (0 ≤ oW n true 0 l ∧ oW n true 0 l ≤ i)) : oW n true 0 l = oW n (oFresh l i) i (l.drop i) := by
  induction i with
  | zero => rfl
  | succ i ih =>
    have hi' : i < l.length := by omega
    have e := ih (by omega) (by omega)
    rw [List.drop_eq_getElem_cons hi', oW_cons] at e
    have hf : oFresh l (i + 1) = decide (l[i] < 128) := by unfold oFresh; rw [if_neg (by omega), Nat.add_sub_cancel, List.getD_eq_getElem?_getD, List.getElem?_eq_getElem hi']; rfl
    rw [hf]
    split at e
    · omega
    · exact e
/-- The step. -/
theorem oW_step (n : Int) (l : List Int) (i : Nat) (hi : i < l.length) (h : ¬ (0 ≤ oW n true 0 l ∧ oW n true 0 l ≤ i)) :
    (oW n true 0 l = (i : Int) + 1) ↔ ((l[i] = 128 ∧ oFresh l i = true) ∨ ((i : Int) = n - 1 ∧ 127 < l[i])) := by
  have e := oW_drop n l i (by omega) h
  rw [List.drop_eq_getElem_cons hi, oW_cons] at e
  constructor
  · intro h2
    rw [h2] at e
    split at e
    · assumption
    · have := oW_range n (l.drop (i + 1)) (decide (l[i] < 128)) (i + 1)
      omega
  · intro h2
    rw [if_pos h2] at e
    exact e

/-! ### Arcs and bytes -/
def oB (x : Int) : List Int := gB x.toNat
theorem oB_isB (x : Int) : IsB (oB x) := gB_isB _
def arcsOk : List Int → Bool
  | a :: b :: _ => decide (0 ≤ a ∧ a ≤ 2 ∧ (a < 2 → b ≤ 39) ∧ (a = 2 → b ≤ 18446744073709551535))
  | _ => false
theorem arcsOk_iff (a b : Int) (r : List Int) : arcsOk (a :: b :: r) = true ↔ (0 ≤ a ∧ a ≤ 2 ∧ (a < 2 → b ≤ 39) ∧ (a = 2 → b ≤ 18446744073709551535)) := by
  show decide _ = true ↔ _
  exact decide_eq_true_iff
theorem arcsOk_two {l : List Int} (h : arcsOk l = true) : ∃ a b r, l = a :: b :: r := by
  match l with
  | [] => cases h
  | [a] => cases h
  | a :: b :: r => exact ⟨a, b, r, rfl⟩
def oL : List Int → List Int
  | a :: b :: r => oB (40 * a + b) ++ r.flatMap oB
  | _ => []
theorem flat_isB (l : List Int) : IsB (l.flatMap oB) := by
  intro x hx
  obtain ⟨y, _, hy⟩ := List.mem_flatMap.1 hx
  exact oB_isB y x hy
theorem oL_isB (l : List Int) : IsB (oL l) := by
  match l with
  | [] => exact IsB.nil
  | [a] => exact IsB.nil
  | a :: b :: r => exact (oB_isB _).append (flat_isB r)
/-- The numbers that bytes are, from a number's beginning on, or from within one. -/
def oN : Int → List Int → Option (List Int)
  | _, [] => some []
  | acc, c :: r => if 144115188075855871 < acc then none else if c < 128 then (oN 0 r).map (fun l => (128 * acc + c % 128) :: l) else oN (128 * acc + c % 128) r
theorem oN_cons (acc c : Int) (r : List Int) : oN acc (c :: r) = if 144115188075855871 < acc then none else if c < 128 then (oN 0 r).map (fun l => (128 * acc + c % 128) :: l) else oN (128 * acc + c % 128) r := rfl
def oFirst (f : Int) : Int := if f < 80 then f / 40 else 2
def oTwo : List Int → List Int
  | [] => []
  | f :: r => oFirst f :: (f - 40 * oFirst f) :: r
/-- What Get tells. -/
def oGet (l : List Int) : Option (List Int) := if 1 ≤ l.length ∧ oidWrong l.length l = -1 then (oN 0 l).map oTwo else none
theorem oN_len (l : List Int) : ∀ (acc : Int) (ns : List Int), oN acc l = some ns → ns.length ≤ l.length := by
  induction l with
  | nil => intro acc ns h; cases h; simp
  | cons c r ih =>
    intro acc ns h
    rw [oN_cons] at h
    split at h
    · cases h
    · split at h
      · obtain ⟨q, hq, rfl⟩ := Option.map_eq_some_iff.1 h
        have := ih 0 q hq
        simp; exact this
      · have := ih _ ns h
        rw [List.length_cons]; omega
theorem oGet_len (l as : List Int) (h : oGet l = some as) : as.length ≤ l.length + 1 := by
  unfold oGet at h
  split at h
  · obtain ⟨ns, hn, rfl⟩ := Option.map_eq_some_iff.1 h
    have := oN_len l 0 ns hn
    cases ns with
    | nil => simp [oTwo]
    | cons f r => simp [oTwo] at *; omega
  · cases h
theorem gB_ge (k : Nat) : ∀ c ∈ hiG k, 128 ≤ c := by
  induction k using Nat.strongRecOn with
  | ind k ih =>
    intro c hc
    by_cases h : k = 0
    · subst h; rw [hiG_zero] at hc; cases hc
    · rw [hiG_pos h, List.mem_append] at hc
      rcases hc with hc | hc
      · exact ih (k / 128) (by omega) c hc
      · simp at hc; omega
theorem hiG_head {k : Nat} (h : k ≠ 0) : ∃ c r, hiG k = c :: r ∧ 128 < c := by
  induction k using Nat.strongRecOn with
  | ind k ih =>
    rw [hiG_pos h]
    by_cases h0 : k / 128 = 0
    · rw [h0, hiG_zero]; exact ⟨_, [], rfl, by omega⟩
    · obtain ⟨c, r, e, hc⟩ := ih (k / 128) (by omega) h0
      exact ⟨c, r ++ [((128 + k % 128 : Nat) : Int)], by rw [e]; rfl, hc⟩
theorem oN_hiG (k : Nat) (hk : k ≤ 18446744073709551615 / 128) (m : List Int) : oN 0 (hiG k ++ m) = oN k m := by
  induction k using Nat.strongRecOn generalizing m with
  | ind k ih =>
    by_cases h : k = 0
    · subst h; rw [hiG_zero]; rfl
    · rw [hiG_pos h, List.append_assoc, ih (k / 128) (by omega) (by omega), List.singleton_append, oN_cons, if_neg (by omega), if_neg (by omega)]
      congr 1; omega
theorem oN_oB (x : Int) (h0 : 0 ≤ x) (h1 : x ≤ 18446744073709551615) (m : List Int) : oN 0 (oB x ++ m) = (oN 0 m).map (fun l => x :: l) := by
  unfold oB gB
  rw [List.append_assoc, oN_hiG _ (by omega), List.singleton_append, oN_cons, if_neg (by omega), if_pos (by omega)]
  congr 1
  funext l
  congr 1
  omega
theorem oN_flat (r : List Int) (h : ∀ x ∈ r, 0 ≤ x ∧ x ≤ 18446744073709551615) : oN 0 (r.flatMap oB) = some r := by
  induction r with
  | nil => rfl
  | cons x q ih =>
    have hx := h x (List.mem_cons_self ..)
    rw [List.flatMap_cons, oN_oB x hx.1 hx.2, ih (fun y hy => h y (List.mem_cons_of_mem _ hy))]; rfl
/-- Whole numbers are passed without a fault. -/
theorem oW_within (n : Int) (l m : List Int) (hl : ∀ c ∈ l, 128 ≤ c) : ∀ i : Nat, ((i + l.length : Nat) : Int) < n → oW n false i (l ++ m) = oW n false (i + l.length) m := by
  induction l with
  | nil => intro i _; rfl
  | cons c r ih =>
    intro i hi
    have hc := hl c (List.mem_cons_self ..)
    rw [List.length_cons] at hi
    rw [List.cons_append, oW_cons, if_neg (by simp; omega), decide_eq_false (by omega), ih (fun y hy => hl y (List.mem_cons_of_mem _ hy)) (i + 1) (by omega), List.length_cons]
    congr 1; omega
theorem oW_oB (n : Int) (x : Int) (m : List Int) (i : Nat) (h : ((i + (oB x).length : Nat) : Int) ≤ n) : oW n true i (oB x ++ m) = oW n true (i + (oB x).length) m := by
  unfold oB at h ⊢
  generalize x.toNat = k at *
  have hlen : (gB k).length = (hiG (k / 128)).length + 1 := by simp [gB]
  rw [hlen] at h
  have hlast : ∀ (f : Bool) (j : Nat), oW n f j (((k % 128 : Nat) : Int) :: m) = oW n true (j + 1) m := by
    intro f j
    rw [oW_cons, if_neg (by omega), decide_eq_true (by omega)]
  rw [hlen]
  unfold gB
  rw [List.append_assoc, List.singleton_append]
  by_cases h0 : k / 128 = 0
  · rw [h0, hiG_zero, List.nil_append, hlast]; rfl
  · obtain ⟨c, r, e, hc⟩ := hiG_head h0
    have hr : ∀ y ∈ r, 128 ≤ y := fun y hy => gB_ge (k / 128) y (by rw [e]; exact List.mem_cons_of_mem _ hy)
    rw [e, List.length_cons] at h
    rw [e, List.cons_append, oW_cons, if_neg (by omega), decide_eq_false (by omega), oW_within n r _ hr (i + 1) (by omega), hlast, List.length_cons]
    congr 1; omega
theorem oW_flat (n : Int) (r : List Int) : ∀ i : Nat, ((i + (r.flatMap oB).length : Nat) : Int) ≤ n → oW n true i (r.flatMap oB) = -1 := by
  induction r with
  | nil => intro i _; rfl
  | cons x q ih =>
    intro i h
    rw [List.flatMap_cons, List.length_append] at h
    rw [List.flatMap_cons, oW_oB n x _ i (by omega)]
    exact ih _ (by omega)
theorem oB_pos (x : Int) : 1 ≤ (oB x).length := by unfold oB; rw [gB_length]; omega
theorem oB_le (x : Int) (h : x ≤ 18446744073709551615) : (oB x).length ≤ 10 := by
  unfold oB; rw [gB_length]
  have := loG_le (x.toNat / 128) 9 (by simp; omega)
  omega
theorem oL_eq (a b : Int) (r : List Int) : oL (a :: b :: r) = ((40 * a + b) :: r).flatMap oB := by rw [List.flatMap_cons]; rfl
/-- What is put is right. -/
theorem oL_right (l : List Int) (h : arcsOk l = true) : 1 ≤ (oL l).length ∧ oidWrong (oL l).length (oL l) = -1 := by
  obtain ⟨a, b, r, rfl⟩ := arcsOk_two h
  have h1 : 1 ≤ (oL (a :: b :: r)).length := by have := oB_pos (40 * a + b); show 1 ≤ (oB (40 * a + b) ++ _).length; rw [List.length_append]; omega
  refine ⟨h1, ?_⟩
  unfold oidWrong
  rw [if_neg (by omega), oL_eq]
  exact oW_flat _ _ 0 (by omega)
/-- What is put is got. -/
theorem oGet_put (l : List Int) (h : arcsOk l = true) (hb : ∀ x ∈ l, 0 ≤ x ∧ x ≤ 18446744073709551615) : oGet (oL l) = some l := by
  obtain ⟨h1, h2⟩ := oL_right l h
  obtain ⟨a, b, r, rfl⟩ := arcsOk_two h
  obtain ⟨ha0, ha2, hlt, heq⟩ := (arcsOk_iff a b r).1 h
  have hbb := hb b (by simp)
  unfold oGet
  rw [if_pos ⟨h1, h2⟩, oL_eq, oN_flat]
  · show some (oFirst _ :: _ :: r) = _
    have hf : oFirst (40 * a + b) = a := by
      unfold oFirst
      by_cases c : a < 2
      · have := hlt c
        rw [if_pos (by omega)]; omega
      · rw [if_neg (by omega)]; omega
    rw [hf]
    congr 2
    congr 1
    omega
  · intro x hx
    rcases List.mem_cons.1 hx with rfl | hx
    · by_cases c : a < 2
      · have := hlt c; omega
      · have := heq (by omega); omega
    · exact hb x (List.mem_cons_of_mem _ (List.mem_cons_of_mem _ hx))
/-- What is right, and has numbers, is their bytes. -/
theorem oN_one (n : Int) (l : List Int) (hl : IsB l) : ∀ (f : Bool) (i : Nat) (acc : Nat) (ns : List Int), oW n f i l = -1 → n = ((i + l.length : Nat) : Int) → (f = true ↔ acc = 0) → (f = false → l ≠ []) → oN acc l = some ns →
    ns.flatMap oB = hiG acc ++ l ∧ (∀ x ∈ ns, 0 ≤ x ∧ x ≤ 18446744073709551615) := by
  induction l with
  | nil =>
    intro f i acc ns _ _ hf hne hn
    cases hn
    cases f
    · exact absurd rfl (hne rfl)
    · have := hf.1 rfl
      subst this
      rw [hiG_zero]; exact ⟨rfl, by intro x hx; cases hx⟩
  | cons c r ih =>
    intro f i acc ns hw hn hf hne he
    have hc := hl.head
    rw [oW_cons] at hw
    split at hw
    · omega
    · rename_i hnw
      rw [oN_cons] at he
      rw [List.length_cons] at hn
      split at he
      · cases he
      · split at he
        · rename_i hM hlt
          rw [decide_eq_true hlt] at hw
          obtain ⟨q, hq, rfl⟩ := Option.map_eq_some_iff.1 he
          obtain ⟨e1, e2⟩ := ih hl.tail true (i + 1) 0 q hw (by omega) (by simp) (by intro h; cases h) (by simpa using hq)
          refine ⟨?_, ?_⟩
          · rw [List.flatMap_cons, e1, hiG_zero, List.nil_append]
            unfold oB gB
            rw [show (128 * (acc : Int) + c % 128).toNat = 128 * acc + c.toNat by omega, show (128 * acc + c.toNat) / 128 = acc by omega, show (((128 * acc + c.toNat) % 128 : Nat) : Int) = c by omega]
            simp
          · intro x hx
            rcases List.mem_cons.1 hx with rfl | hx
            · omega
            · exact e2 x hx
        · rename_i hM hge
          rw [decide_eq_false hge] at hw
          have hacc : 128 * acc + (c.toNat - 128) ≠ 0 := by
            by_cases h0 : acc = 0
            · have hft := hf.2 h0
              have : c ≠ 128 := fun h => hnw (.inl ⟨h, hft⟩)
              omega
            · omega
          have hr : r ≠ [] := by
            intro h
            subst h
            exact hnw (.inr ⟨by simp at hn; omega, by omega⟩)
          have he2 : oN ((128 * acc + (c.toNat - 128) : Nat) : Int) r = some ns := by rw [← he]; congr 1; omega
          obtain ⟨e1, e2⟩ := ih hl.tail false (i + 1) (128 * acc + (c.toNat - 128)) ns hw (by omega) (by simp; omega) (fun _ => hr) he2
          refine ⟨?_, e2⟩
          rw [e1, hiG_pos hacc, show (128 * acc + (c.toNat - 128)) / 128 = acc by omega, show ((128 + (128 * acc + (c.toNat - 128)) % 128 : Nat) : Int) = c by omega]
          simp
theorem oGet_one (l : List Int) (hl : IsB l) (as : List Int) (h : oGet l = some as) : arcsOk as = true ∧ oL as = l ∧ (∀ x ∈ as, 0 ≤ x ∧ x ≤ 18446744073709551615) ∧ 2 ≤ as.length := by
  unfold oGet at h
  split at h
  · rename_i hc
    obtain ⟨h1, h2⟩ := hc
    obtain ⟨ns, hn, rfl⟩ := Option.map_eq_some_iff.1 h
    unfold oidWrong at h2
    rw [if_neg (by omega)] at h2
    obtain ⟨e1, e2⟩ := oN_one _ l hl true 0 0 ns h2 (by simp) (by simp) (by intro h; cases h) (by simpa using hn)
    rw [hiG_zero, List.nil_append] at e1
    match ns, e1, e2 with
    | [], e1, _ => rw [← e1] at h1; simp at h1
    | f :: r, e1, e2 =>
      have hf := e2 f (List.mem_cons_self ..)
      have h40 : 40 * oFirst f + (f - 40 * oFirst f) = f := by omega
      have hfr : (f < 80 ∧ oFirst f = f / 40) ∨ (80 ≤ f ∧ oFirst f = 2) := by unfold oFirst; split <;> omega
      refine ⟨?_, ?_, ?_, by simp [oTwo]⟩
      · show arcsOk (oFirst f :: (f - 40 * oFirst f) :: r) = true
        rw [arcsOk_iff]
        refine ⟨by omega, by omega, by intro h; omega, by intro h; omega⟩
      · show oL (oFirst f :: (f - 40 * oFirst f) :: r) = l
        rw [oL_eq, h40, e1]
      · intro x hx
        rcases List.mem_cons.1 hx with rfl | hx
        · omega
        · rcases List.mem_cons.1 hx with rfl | hx
          · omega
          · exact e2 x (List.mem_cons_of_mem _ hx)
  · cases h
/-- One arc more. -/
theorem oL_more (l : List Int) (m : Int) (h : arcsOk l = true) : arcsOk (l ++ [m]) = true ∧ oL (l ++ [m]) = oL l ++ oB m := by
  obtain ⟨a, b, r, rfl⟩ := arcsOk_two h
  refine ⟨(arcsOk_iff a b (r ++ [m])).2 ((arcsOk_iff a b r).1 h), ?_⟩
  show oL (a :: b :: (r ++ [m])) = _
  rw [oL_eq, oL_eq]
  simp
theorem arcs_bad (l : List Int) (m : Int) (h : arcsOk l = false) : l.length < 2 ∨ arcsOk (l ++ [m]) = false := by
  match l with
  | [] => left; simp
  | [a] => left; simp
  | a :: b :: r =>
    right
    cases hk : arcsOk (a :: b :: r ++ [m]) with
    | false => rfl
    | true =>
      have := (arcsOk_iff a b r).2 ((arcsOk_iff a b (r ++ [m])).1 hk)
      rw [h] at this; cases this
end Go.Proofs.Ytjdkpdaekmogkaa
