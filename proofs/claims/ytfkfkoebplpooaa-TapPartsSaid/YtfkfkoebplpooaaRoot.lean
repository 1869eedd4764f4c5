/- Roots, as numbers: the greatest number whose power is at most the number, found bit by bit; it is what every way of finding it gives. -/
import Derived.WalkKit
namespace Go.Proofs.Ytfkfkoebplpooaa
/-- The root's upper j bits, the others 0. -/
def rt (n k : Nat) : Nat → Nat
  | 0 => 0
  | j + 1 => if (rt n k j + 2 ^ (63 - j)) ^ k ≤ n then rt n k j + 2 ^ (63 - j) else rt n k j
/-- The k-th root of n, rounded down; 0 for k = 0; above 64 as for 64. -/
def rootN (n k : Nat) : Nat := if k = 0 then 0 else rt n (min k 64) 64

theorem pow_mono {a b k : Nat} (h : a ≤ b) : a ^ k ≤ b ^ k := Nat.pow_le_pow_left h k
theorem pow_lt {a b k : Nat} (hk : 1 ≤ k) (h : a < b) : a ^ k < b ^ k := Nat.pow_lt_pow_left h (by omega)
theorem le_pow {a k : Nat} (hk : 1 ≤ k) : a ≤ a ^ k := by
  rcases Nat.eq_zero_or_pos a with h | h
  · omega
  · calc a = a ^ 1 := by simp
      _ ≤ a ^ k := Nat.pow_le_pow_right h hk
/-- Two numbers that are both the root are one. -/
theorem root_unique {n k r s : Nat} (hr : r ^ k ≤ n) (hr' : n < (r + 1) ^ k) (hs : s ^ k ≤ n) (hs' : n < (s + 1) ^ k) : r = s := by
  rcases Nat.lt_trichotomy r s with h | h | h
  · have := pow_mono (k := k) (show r + 1 ≤ s by omega); omega
  · exact h
  · have := pow_mono (k := k) (show s + 1 ≤ r by omega); omega
theorem rt_inv {n k : Nat} (hk : 1 ≤ k) (hn : n < 2 ^ 64) : ∀ j, j ≤ 64 → rt n k j ^ k ≤ n ∧ n < (rt n k j + 2 ^ (64 - j)) ^ k ∧ (∃ q, rt n k j = q * 2 ^ (64 - j)) ∧ rt n k j + 2 ^ (64 - j) ≤ 2 ^ 64 := by
  intro j
  induction j with
  | zero =>
    intro _
    refine ⟨?_, ?_, ⟨0, by simp [rt]⟩, by simp [rt]⟩
    · rw [rt, Nat.zero_pow hk]; omega
    · rw [rt]; have := le_pow (a := 2 ^ 64) hk; simp only [Nat.zero_add, Nat.sub_zero]; omega
  | succ j ih =>
    intro hj
    obtain ⟨h1, h2, ⟨q, hq⟩, h4⟩ := ih (by omega)
    have hp : 2 ^ (64 - j) = 2 ^ (63 - j) + 2 ^ (63 - j) := by rw [show 64 - j = (63 - j) + 1 from by omega, Nat.pow_succ]; omega
    rw [show 64 - (j + 1) = 63 - j from by omega]
    have hpos := Nat.two_pow_pos (63 - j)
    rw [hp] at h2 h4
    rw [rt]
    split
    · rename_i hc
      refine ⟨hc, by rw [Nat.add_assoc]; exact h2, ⟨2 * q + 1, ?_⟩, by omega⟩
      rw [hq, hp, Nat.add_mul, Nat.mul_add, Nat.one_mul, Nat.mul_comm 2 q, Nat.mul_assoc, Nat.two_mul, Nat.mul_add]
    · rename_i hc
      refine ⟨h1, by omega, ⟨2 * q, ?_⟩, by omega⟩
      rw [hq, hp, Nat.mul_add, Nat.mul_comm 2 q, Nat.mul_assoc, Nat.two_mul, Nat.mul_add]
theorem rootN_spec {n k : Nat} (h0 : 1 ≤ k) (hk : k ≤ 64) (hn : n < 2 ^ 64) : rootN n k ^ k ≤ n ∧ n < (rootN n k + 1) ^ k ∧ rootN n k < 2 ^ 64 := by
  unfold rootN
  rw [if_neg (by omega), Nat.min_eq_left hk]
  obtain ⟨h1, h2, _, h4⟩ := rt_inv (n := n) h0 hn 64 (by omega)
  simp only [Nat.sub_self, Nat.pow_zero] at h2 h4
  exact ⟨h1, h2, by omega⟩
theorem rootN_big {n k : Nat} (hk : 64 ≤ k) : rootN n k = rootN n 64 := by
  unfold rootN
  rw [if_neg (by omega), if_neg (by omega), Nat.min_eq_right hk, Nat.min_self]
theorem rootN_rt {n k : Nat} (h0 : 1 ≤ k) : rootN n k = rt n (min k 64) 64 := by unfold rootN; rw [if_neg (by omega)]
theorem rt_next (n k j : Nat) : rt n k (j + 1) = if (rt n k j + 2 ^ (63 - j)) ^ k ≤ n then rt n k j + 2 ^ (63 - j) else rt n k j := rfl
theorem rt_bd {n k j : Nat} (hk : 1 ≤ k) (hn : n < 2 ^ 64) (hj : j ≤ 63) : rt n k j + 2 ^ (63 - j) < 2 ^ 64 ∧ ∃ q, rt n k j = q * 2 ^ (64 - j) := by
  obtain ⟨_, _, h3, h4⟩ := rt_inv (n := n) hk hn j (by omega)
  have hp : 2 ^ (64 - j) = 2 ^ (63 - j) + 2 ^ (63 - j) := by rw [show 64 - j = (63 - j) + 1 from by omega, Nat.pow_succ]; omega
  have := Nat.two_pow_pos (63 - j)
  exact ⟨by omega, h3⟩
theorem rootN_zero (n : Nat) : rootN n 0 = 0 := by unfold rootN; rfl
theorem rootN_lt {n k : Nat} (hn : n < 2 ^ 64) : rootN n k < 2 ^ 64 := by
  rcases Nat.eq_zero_or_pos k with h | h
  · subst h; rw [rootN_zero]; decide
  · rcases Nat.lt_or_ge 64 k with h' | h'
    · rw [rootN_big (by omega)]; exact (rootN_spec (by omega) (by omega) hn).2.2
    · exact (rootN_spec h h' hn).2.2
theorem rootN_mono {n m k : Nat} (h : n ≤ m) (hm : m < 2 ^ 64) : rootN n k ≤ rootN m k := by
  have key : ∀ k, 1 ≤ k → k ≤ 64 → rootN n k ≤ rootN m k := by
    intro k h0 hk
    have ⟨a1, _, _⟩ := rootN_spec (n := n) h0 hk (by omega)
    have ⟨_, b2, _⟩ := rootN_spec (n := m) h0 hk hm
    apply Nat.le_of_not_lt
    intro hlt
    have := pow_mono (k := k) (show rootN m k + 1 ≤ rootN n k by omega)
    omega
  rcases Nat.eq_zero_or_pos k with h | h
  · subst h; rw [rootN_zero, rootN_zero]; omega
  · rcases Nat.lt_or_ge 64 k with h' | h'
    · rw [rootN_big (by omega), rootN_big (n := m) (by omega)]; exact key 64 (by omega) (by omega)
    · exact key k h h' 
theorem rootN_succ {n k : Nat} (h0 : 1 ≤ k) (hn : n < 2 ^ 64) : rootN n (k + 1) ≤ rootN n k := by
  rcases Nat.lt_or_ge k 64 with hk | hk
  · have ⟨_, a2, _⟩ := rootN_spec (n := n) h0 (by omega) hn
    have ⟨b1, _, _⟩ := rootN_spec (n := n) (k := k + 1) (by omega) (by omega) hn
    apply Nat.le_of_not_lt
    intro hlt
    have h1 := pow_mono (k := k) (show rootN n k + 1 ≤ rootN n (k + 1) by omega)
    have h2 : rootN n (k + 1) ^ k ≤ rootN n (k + 1) ^ (k + 1) := Nat.pow_le_pow_right (by omega) (by omega)
    omega
  · rw [rootN_big (by omega), rootN_big hk]; omega
theorem rootN_one {n : Nat} (hn : n < 2 ^ 64) : rootN n 1 = n := by
  have ⟨a1, a2, _⟩ := rootN_spec (n := n) (k := 1) (by omega) (by omega) hn
  simp only [Nat.pow_one] at a1 a2
  omega
/-- One more factor: held against n by a division. -/
theorem fits_step {p b n : Nat} (hb : 1 ≤ b) : (p ≤ n / b) ↔ p * b ≤ n := Nat.le_div_iff_mul_le (by omega)
theorem pow_ge {b k i : Nat} (hb : 1 ≤ b) (h : i ≤ k) : b ^ i ≤ b ^ k := Nat.pow_le_pow_right hb h
end Go.Proofs.Ytfkfkoebplpooaa
