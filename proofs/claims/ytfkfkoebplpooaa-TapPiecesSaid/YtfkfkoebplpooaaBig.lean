/- Numbers by bytes, the lowest first, as lists: their value, products, carries. Of numbers alone. -/
import Derived.Test.YtfkfkoebplpooaaNum
namespace Go.Proofs.Ytfkfkoebplpooaa
/-- What bytes come to, the lowest first (each may be above 255). -/
def num : List Nat → Nat
  | [] => 0
  | x :: l => x + 256 * num l
theorem num_append (a b : List Nat) : num (a ++ b) = num a + 256 ^ a.length * num b := by
  induction a with
  | nil => simp [num]
  | cons x a ih =>
    rw [List.cons_append, num, num, ih, List.length_cons, Nat.pow_succ, Nat.mul_add, Nat.mul_comm (256 ^ a.length) 256, Nat.mul_assoc]; omega
theorem num_replicate (n : Nat) : num (List.replicate n 0) = 0 := by
  induction n with
  | zero => rfl
  | succ n ih => rw [List.replicate_succ, num, ih]
theorem num_set {l : List Nat} {i x : Nat} (h : i < l.length) : num (l.set i x) + 256 ^ i * l[i] = num l + 256 ^ i * x := by
  induction l generalizing i with
  | nil => simp at h
  | cons y l ih =>
    cases i with
    | zero => simp only [List.set_cons_zero, num, Nat.pow_zero, List.getElem_cons_zero]; omega
    | succ i =>
      have := ih (i := i) (by simpa using h)
      simp only [List.set_cons_succ, num, List.getElem_cons_succ, Nat.pow_succ]
      have e1 : 256 ^ i * 256 * l[i]'(by simpa using h) = 256 * (256 ^ i * l[i]'(by simpa using h)) := by rw [Nat.mul_comm (256 ^ i) 256, Nat.mul_assoc]
      have e2 : 256 ^ i * 256 * x = 256 * (256 ^ i * x) := by rw [Nat.mul_comm (256 ^ i) 256, Nat.mul_assoc]
      rw [e1, e2]; omega
theorem num_le {l : List Nat} {i : Nat} (h : i < l.length) : 256 ^ i * l[i] ≤ num l := by
  have := num_set (x := 0) h
  omega
theorem num_lt {l : List Nat} (h : ∀ x ∈ l, x ≤ 255) : num l < 256 ^ l.length := by
  induction l with
  | nil => simp [num]
  | cons x l ih =>
    have h1 := h x (by simp)
    have h2 := ih fun y hy => h y (by simp [hy])
    rw [num, List.length_cons, Nat.pow_succ]; omega
theorem num_take_succ {l : List Nat} {i : Nat} (h : i < l.length) : num (l.take (i + 1)) = num (l.take i) + 256 ^ i * l[i] := by
  rw [List.take_succ_eq_append_getElem h, num_append, List.length_take, Nat.min_eq_left (by omega)]
  simp [num]
/-- A number's bytes, so many. -/
def dgl (x : Nat) : Nat → List Nat
  | 0 => []
  | k + 1 => dgl x k ++ [x / 256 ^ k % 256]
theorem dgl_length (x n : Nat) : (dgl x n).length = n := by
  induction n with
  | zero => rfl
  | succ n ih => rw [dgl, List.length_append, ih]; rfl
theorem dgl_bd (x : Nat) : ∀ n, ∀ b ∈ dgl x n, b ≤ 255
  | 0 => by intro b h; simp [dgl] at h
  | n + 1 => by
    intro b h
    rw [dgl] at h
    rcases List.mem_append.1 h with h | h
    · exact dgl_bd x n b h
    · simp at h; omega
theorem dgl_num (x : Nat) : ∀ n, num (dgl x n) = x % 256 ^ n
  | 0 => by simp [dgl, num, Nat.mod_one]
  | n + 1 => by
    rw [dgl, num_append, dgl_num x n, dgl_length, Nat.pow_succ, Nat.mod_mul]
    simp [num]
theorem num_eq_of {a b : List Nat} (he : ∀ j, a.getD j 0 = b.getD j 0) : num a = num b := by
  induction a generalizing b with
  | nil =>
    induction b with
    | nil => rfl
    | cons y b ih =>
      have h0 : 0 = y := by have := he 0; simpa using this
      have h1 : num [] = num b := ih fun j => by have := he (j + 1); simpa using this
      have h2 : num ([] : List Nat) = 0 := rfl
      rw [num, num]; omega
  | cons x a ih =>
    cases b with
    | nil =>
      have h0 : x = 0 := by have := he 0; simpa using this
      have h1 : num a = num [] := ih (b := []) fun j => by have := he (j + 1); simpa using this
      have h2 : num ([] : List Nat) = 0 := rfl
      rw [num, num]; omega
    | cons y b =>
      have h0 : x = y := by have := he 0; simpa using this
      have h1 : num a = num b := ih (b := b) fun j => by have := he (j + 1); simpa using this
      rw [num, num]; omega
/-- Numbers of bytes are held against each other from the highest one down. -/
theorem num_lt_of {a b : List Nat} (ha : ∀ x ∈ a, x ≤ 255) (hb : ∀ x ∈ b, x ≤ 255) {i : Nat} (h : a.getD i 0 < b.getD i 0) (he : ∀ j, i < j → a.getD j 0 = b.getD j 0) : num a < num b := by
  induction i generalizing a b with
  | zero =>
    cases b with
    | nil => simp at h
    | cons y b =>
      cases a with
      | nil =>
        have h0 : 0 < y := by simpa using h
        rw [num, num]; omega
      | cons x a =>
        have h0 : x < y := by simpa using h
        have h1 : num a = num b := num_eq_of fun j => by have := he (j + 1) (by omega); simpa using this
        rw [num, num]; omega
  | succ i ih =>
    cases b with
    | nil => simp at h
    | cons y b =>
      cases a with
      | nil =>
        have h1 : num [] < num b := ih (a := []) (b := b) (by simp) (fun z hz => hb z (by simp [hz])) (by simpa using h) (fun j hj => by have := he (j + 1) (by omega); simpa using this)
        have h2 : num ([] : List Nat) = 0 := rfl
        rw [num, num]; omega
      | cons x a =>
        have hx := ha x (by simp)
        have h1 : num a < num b := ih (a := a) (b := b) (fun z hz => ha z (by simp [hz])) (fun z hz => hb z (by simp [hz])) (by simpa using h) (fun j hj => by have := he (j + 1) (by omega); simpa using this)
        rw [num, num]; omega

/-! ### a product, digit by digit, with carries -/
theorem getD_at {l : List Nat} {i : Nat} (h : i < l.length) : l.getD i 0 = l[i] := by simp [List.getD, List.getElem?_eq_getElem h]
theorem getD_bd {l : List Nat} (h : ∀ x ∈ l, x ≤ 255) (i : Nat) : l.getD i 0 ≤ 255 := by
  rcases Nat.lt_or_ge i l.length with hi | hi
  · rw [getD_at hi]; exact h _ (List.getElem_mem _)
  · simp [List.getD, List.getElem?_eq_none hi]
theorem num_setD {l : List Nat} {i : Nat} (x : Nat) (h : i < l.length) : num (l.set i x) + 256 ^ i * l.getD i 0 = num l + 256 ^ i * x := by
  rw [getD_at h]; exact num_set h
theorem getD_set {l : List Nat} {i j : Nat} (x : Nat) (h : i < l.length) : (l.set i x).getD j 0 = if j = i then x else l.getD j 0 := by
  simp only [List.getD, List.getElem?_set]
  by_cases hj : j = i
  · subst hj; simp [h]
  · rw [if_neg (by omega), if_neg hj]
theorem num_takeD {l : List Nat} {i : Nat} (h : i < l.length) : num (l.take (i + 1)) = num (l.take i) + 256 ^ i * l.getD i 0 := by
  rw [getD_at h]; exact num_take_succ h
theorem num_take_le {l : List Nat} (i : Nat) : num (l.take i) ≤ num l := by
  conv => rhs; rw [← List.take_append_drop i l, num_append]
  omega
def pv (a b : List Nat) (i k : Nat) : Nat := num (a.take i) * num b + 256 ^ i * (a.getD i 0 * num (b.take k))
theorem pv_le {a b : List Nat} {i k : Nat} (h : i < a.length) : pv a b i k ≤ num a * num b := by
  unfold pv
  have h1 := num_takeD h
  have h2 : num (a.take (i + 1)) ≤ num a := num_take_le _
  have h3 : num (b.take k) ≤ num b := num_take_le _
  calc num (a.take i) * num b + 256 ^ i * (a.getD i 0 * num (b.take k)) ≤ num (a.take i) * num b + 256 ^ i * (a.getD i 0 * num b) :=
        Nat.add_le_add_left (Nat.mul_le_mul_left _ (Nat.mul_le_mul_left _ h3)) _
    _ = (num (a.take i) + 256 ^ i * a.getD i 0) * num b := by rw [Nat.add_mul, Nat.mul_assoc]
    _ = num (a.take (i + 1)) * num b := by rw [h1]
    _ ≤ num a * num b := Nat.mul_le_mul_right _ h2
theorem pv_zero (a b : List Nat) : pv a b 0 0 = 0 := by simp [pv, num]
theorem pv_next {a b : List Nat} {i : Nat} (h : i < a.length) : pv a b i b.length = pv a b (i + 1) 0 := by
  unfold pv
  rw [num_takeD h, List.take_of_length_le (Nat.le_refl _), Nat.add_mul, Nat.mul_assoc]
  simp [num]
theorem pv_step {a b : List Nat} {i k : Nat} (h : k < b.length) : pv a b i (k + 1) = pv a b i k + 256 ^ (i + k) * (a.getD i 0 * b.getD k 0) := by
  unfold pv
  rw [num_takeD h, Nat.mul_add, Nat.mul_add, Nat.pow_add, ← Nat.add_assoc]
  congr 1
  rw [Nat.mul_assoc, Nat.mul_left_comm (a.getD i 0)]
def TI (a b : List Nat) (i k : Nat) (l : List Nat) : Prop := l.length = a.length + b.length + 1 ∧ (∀ p, l.getD p 0 ≤ 255) ∧ num l = pv a b i k
theorem TI_start (a b : List Nat) : TI a b 0 0 (List.replicate (a.length + b.length + 1) 0) :=
  ⟨by simp, fun p => getD_bd (by intro x hx; simp at hx; omega) p, by rw [num_replicate, pv_zero]⟩
theorem TI_next {a b l : List Nat} {i : Nat} (h : TI a b i b.length l) (hi : i < a.length) : TI a b (i + 1) 0 l := ⟨h.1, h.2.1, h.2.2.trans (pv_next hi)⟩
theorem TI_done {a b l : List Nat} (h : TI a b a.length 0 l) : num l = num a * num b := by
  rw [h.2.2]; unfold pv; rw [List.take_of_length_le (Nat.le_refl _)]; simp [num]
def CI (a b : List Nat) (i k j : Nat) (l : List Nat) : Prop := l.length = a.length + b.length + 1 ∧ j < l.length ∧ (∀ p, p ≠ j → l.getD p 0 ≤ 255) ∧ l.getD j 0 ≤ 65535 ∧ num l = pv a b i (k + 1)
theorem CI_start {a b l : List Nat} {i k : Nat} (h : TI a b i k l) (hi : i < a.length) (hk : k < b.length) (ha : ∀ x ∈ a, x ≤ 255) (hb : ∀ x ∈ b, x ≤ 255) : CI a b i k (i + k) (l.set (i + k) (l.getD (i + k) 0 + a.getD i 0 * b.getD k 0)) := by
  obtain ⟨h1, h2, h3⟩ := h
  have hik : i + k < l.length := by omega
  refine ⟨by rw [List.length_set]; exact h1, by rw [List.length_set]; exact hik, ?_, ?_, ?_⟩
  · intro p hp
    rw [getD_set _ hik, if_neg hp]; exact h2 p
  · rw [getD_set _ hik, if_pos rfl]
    have e1 := h2 (i + k)
    have e2 := Nat.mul_le_mul (getD_bd ha i) (getD_bd hb k)
    omega
  · have := num_setD (l.getD (i + k) 0 + a.getD i 0 * b.getD k 0) hik
    rw [pv_step hk, ← h3]
    rw [Nat.mul_add] at this
    omega
theorem CI_room {a b l : List Nat} {i k j : Nat} (h : CI a b i k j l) (hi : i < a.length) (ha : ∀ x ∈ a, x ≤ 255) (hb : ∀ x ∈ b, x ≤ 255) (hj : 255 < l.getD j 0) : j + 1 < l.length := by
  obtain ⟨h1, h2, h3, h4, h5⟩ := h
  have e1 : num l < 256 ^ (a.length + b.length) := by
    rw [h5, Nat.pow_add]
    exact Nat.lt_of_le_of_lt (pv_le hi) (Nat.mul_lt_mul_of_lt_of_le (num_lt ha) (Nat.le_of_lt (num_lt hb)) (Nat.pow_pos (by omega)))
  have e2 : 256 ^ j * 256 ≤ num l := by
    have := num_le h2
    rw [← getD_at h2] at this
    exact Nat.le_trans (Nat.mul_le_mul_left _ (by omega)) this
  rw [← Nat.pow_succ] at e2
  have e3 : 256 ^ (j + 1) < 256 ^ (a.length + b.length) := by omega
  have := (Nat.pow_lt_pow_iff_right (by omega : 1 < 256)).1 e3
  omega
theorem CI_step {a b l : List Nat} {i k j : Nat} (h : CI a b i k j l) (hj : j + 1 < l.length) : CI a b i k (j + 1) ((l.set (j + 1) (l.getD (j + 1) 0 + l.getD j 0 / 256)).set j (l.getD j 0 % 256)) := by
  obtain ⟨h1, h2, h3, h4, h5⟩ := h
  have hj' : j < (l.set (j + 1) (l.getD (j + 1) 0 + l.getD j 0 / 256)).length := by rw [List.length_set]; exact h2
  refine ⟨by rw [List.length_set, List.length_set]; exact h1, by rw [List.length_set, List.length_set]; exact hj, ?_, ?_, ?_⟩
  · intro p hp
    rw [getD_set _ hj']
    by_cases e : p = j
    · rw [if_pos e]; omega
    · rw [if_neg e, getD_set _ hj, if_neg hp]; exact h3 p e
  · rw [getD_set _ hj', if_neg (by omega), getD_set _ hj, if_pos rfl]
    have := h3 (j + 1) (by omega)
    omega
  · have e1 := num_setD (l.getD j 0 % 256) hj'
    have e2 := num_setD (l.getD (j + 1) 0 + l.getD j 0 / 256) hj
    rw [getD_set _ hj, if_neg (by omega : ¬ j = j + 1)] at e1
    rw [Nat.mul_add] at e2
    have e3 : 256 ^ j * l.getD j 0 = 256 ^ j * (l.getD j 0 % 256) + 256 ^ (j + 1) * (l.getD j 0 / 256) := by
      rw [Nat.pow_succ, Nat.mul_assoc, ← Nat.mul_add, Nat.mod_add_div]
    omega
theorem CI_done {a b l : List Nat} {i k j : Nat} (h : CI a b i k j l) (hj : ¬ 255 < l.getD j 0) : TI a b i (k + 1) l := by
  obtain ⟨h1, h2, h3, h4, h5⟩ := h
  refine ⟨h1, fun p => ?_, h5⟩
  by_cases e : p = j
  · subst e; omega
  · exact h3 p e
theorem TI_mem {a b l : List Nat} {i k : Nat} (h : TI a b i k l) : ∀ x ∈ l, x ≤ 255 := by
  intro x hx
  obtain ⟨p, hp, rfl⟩ := List.getElem_of_mem hx
  rw [← getD_at hp]; exact h.2.1 p
end Go.Proofs.Ytfkfkoebplpooaa
