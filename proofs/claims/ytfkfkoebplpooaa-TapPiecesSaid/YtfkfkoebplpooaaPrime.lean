/- Prime numbers, as numbers: the list of those below a number; a number that no prime of the list, up to its root, divides is one. -/
import Derived.WalkKit
namespace Go.Proofs.Ytfkfkoebplpooaa
def noDiv (x : Nat) : Nat → Nat → Bool
  | 0, _ => true
  | f + 1, d => if x < d * d then true else if x % d = 0 then false else noDiv x f (d + 1)
/-- Is it a prime number? -/
def primeB (x : Nat) : Bool := decide (2 ≤ x) && noDiv x x 2
/-- The prime numbers below c, rising. -/
def pl : Nat → List Nat
  | 0 => []
  | c + 1 => if primeB c then pl c ++ [c] else pl c
def cnt : Nat → Nat → Nat → Nat
  | 0, _, acc => acc
  | f + 1, c, acc => if primeB c then cnt f (c + 1) (acc + 1) else cnt f (c + 1) acc

theorem noDiv_true {x : Nat} : ∀ (f d : Nat), 2 ≤ d → (∀ e, d ≤ e → e * e ≤ x → x % e ≠ 0) → noDiv x f d = true := by
  intro f
  induction f with
  | zero => intro d _ _; rfl
  | succ f ih =>
    intro d hd h
    rw [noDiv]
    split
    · rfl
    · rename_i hlt
      rw [if_neg (h d (Nat.le_refl _) (by omega))]
      exact ih (d + 1) (by omega) fun e he => h e (by omega)
theorem noDiv_spec {x : Nat} : ∀ (f d : Nat), 1 ≤ d → x < (d + f) * (d + f) → noDiv x f d = true → ∀ e, d ≤ e → e * e ≤ x → x % e ≠ 0 := by
  intro f
  induction f with
  | zero =>
    intro d hd hx _ e he hee
    have := Nat.mul_le_mul he he
    simp only [Nat.add_zero] at hx
    omega
  | succ f ih =>
    intro d hd hx h e he hee
    rw [noDiv] at h
    split at h
    · rename_i hlt
      have := Nat.mul_le_mul he he
      omega
    · split at h
      · cases h
      · rename_i hm
        rcases Nat.eq_or_lt_of_le he with rfl | hlt
        · exact hm
        · exact ih (d + 1) (by omega) (by rw [show d + 1 + f = d + (f + 1) from by omega]; exact hx) h e hlt hee
theorem prime_iff {x : Nat} : primeB x = true ↔ 2 ≤ x ∧ ∀ e, 2 ≤ e → e * e ≤ x → x % e ≠ 0 := by
  unfold primeB
  rw [Bool.and_eq_true, decide_eq_true_iff]
  constructor
  · rintro ⟨h, h'⟩
    refine ⟨h, noDiv_spec x 2 (by omega) ?_ h'⟩
    have := Nat.mul_le_mul (show 1 ≤ 2 + x by omega) (Nat.le_refl (2 + x))
    omega
  · rintro ⟨h, h'⟩
    exact ⟨h, noDiv_true x 2 (by omega) h'⟩
theorem not_prime {x : Nat} (h : 2 ≤ x) (hn : primeB x = false) : ∃ e, 2 ≤ e ∧ e * e ≤ x ∧ x % e = 0 := by
  apply Classical.byContradiction
  intro hc
  have : primeB x = true := prime_iff.2 ⟨h, fun e h1 h2 h3 => hc ⟨e, h1, h2, h3⟩⟩
  rw [this] at hn; cases hn
/-- A number that isn't prime has a prime divisor, no greater than its root. -/
theorem prime_divisor : ∀ (x e : Nat), 2 ≤ e → e * e ≤ x → x % e = 0 → ∃ p, primeB p = true ∧ p * p ≤ x ∧ x % p = 0 := by
  intro x e
  induction e using Nat.strongRecOn with
  | ind e ih =>
    intro h2 hle hm
    cases hp : primeB e with
    | true => exact ⟨e, hp, hle, hm⟩
    | false =>
      obtain ⟨d, hd, hdd, hde⟩ := not_prime h2 hp
      have hlt : d < e := by
        have : d * 2 ≤ d * d := Nat.mul_le_mul_left d hd
        omega
      refine ih d hlt hd ?_ ?_
      · have : e ≤ e * e := by have := Nat.mul_le_mul_left e (show 1 ≤ e by omega); omega
        omega
      · exact Nat.mod_eq_zero_of_dvd (Nat.dvd_trans (Nat.dvd_of_mod_eq_zero hde) (Nat.dvd_of_mod_eq_zero hm))
theorem mem_pl {c p : Nat} : p ∈ pl c ↔ p < c ∧ primeB p = true := by
  induction c with
  | zero => simp [pl]
  | succ c ih =>
    rw [pl]
    split
    · rename_i h
      rw [List.mem_append, ih, List.mem_singleton]
      constructor
      · rintro (⟨h1, h2⟩ | rfl)
        · exact ⟨by omega, h2⟩
        · exact ⟨by omega, h⟩
      · rintro ⟨h1, h2⟩
        rcases Nat.lt_or_ge p c with h3 | h3
        · exact .inl ⟨h3, h2⟩
        · exact .inr (by omega)
    · rename_i h
      rw [ih]
      constructor
      · rintro ⟨h1, h2⟩; exact ⟨by omega, h2⟩
      · rintro ⟨h1, h2⟩
        refine ⟨?_, h2⟩
        rcases Nat.lt_or_ge p c with h3 | h3
        · exact h3
        · have : p = c := by omega
          subst this; exact absurd h2 h
theorem cnt_pl : ∀ (f c acc : Nat), acc = (pl c).length → cnt f c acc = (pl (c + f)).length := by
  intro f
  induction f with
  | zero => intro c acc h; rw [cnt, h, Nat.add_zero]
  | succ f ih =>
    intro c acc h
    rw [cnt, show c + (f + 1) = (c + 1) + f from by omega]
    split
    · rename_i hp
      exact ih _ _ (by rw [pl, if_pos hp, List.length_append, h]; rfl)
    · rename_i hp
      exact ih _ _ (by rw [pl, if_neg hp, h])
theorem pl_len_mono {a b : Nat} (h : a ≤ b) : (pl a).length ≤ (pl b).length := by
  obtain ⟨d, rfl⟩ := Nat.le.dest h
  induction d with
  | zero => exact Nat.le_refl _
  | succ d ih =>
    have ih := ih (by omega)
    rw [show a + (d + 1) = (a + d) + 1 from rfl, pl]
    split
    · rw [List.length_append]; omega
    · exact ih
theorem cnt_now : cnt 7920 0 0 = 1000 := by decide +kernel
theorem pl_7920 : (pl 7920).length = 1000 := by
  rw [← cnt_now, cnt_pl 7920 0 0 (by rfl)]
theorem pl_get {x c : Nat} (h : x < c) (hp : primeB x = true) : (pl c)[(pl x).length]? = some x := by
  obtain ⟨d, rfl⟩ := Nat.le.dest (show x + 1 ≤ c from h)
  induction d with
  | zero =>
    rw [Nat.add_zero, pl, if_pos hp, List.getElem?_append_right (Nat.le_refl _), Nat.sub_self]; rfl
  | succ d ih =>
    have ih := ih (by omega)
    have hlt := (List.getElem?_eq_some_iff.1 ih).1
    rw [show x + 1 + (d + 1) = (x + 1 + d) + 1 from rfl, pl]
    split
    · rw [List.getElem?_append_left hlt]; exact ih
    · exact ih
theorem pl_bd {c p : Nat} (h : p ∈ pl c) : 2 ≤ p ∧ p < c := ⟨(prime_iff.1 (mem_pl.1 h).2).1, (mem_pl.1 h).1⟩
theorem pl_sorted (c : Nat) : (pl c).Pairwise (· < ·) := by
  induction c with
  | zero => exact List.Pairwise.nil
  | succ c ih =>
    rw [pl]
    split
    · exact List.pairwise_append.2 ⟨ih, List.pairwise_singleton _ _, fun a ha b hb => by rw [List.mem_singleton] at hb; have := (pl_bd ha).2; omega⟩
    · exact ih
/-- Does no number of the list divide, up to the root? -/
def dbn (x : Nat) : List Nat → Bool
  | [] => true
  | p :: l => if x < p * p then true else if x % p = 0 then false else dbn x l
theorem dbn_true {x : Nat} : ∀ l : List Nat, (∀ p ∈ l, p * p ≤ x → x % p ≠ 0) → dbn x l = true
  | [], _ => rfl
  | p :: l, h => by
    rw [dbn]
    split
    · rfl
    · rename_i hlt
      rw [if_neg (h p (by simp) (by omega))]
      exact dbn_true l fun q hq => h q (by simp [hq])
theorem dbn_false {x p : Nat} : ∀ l : List Nat, l.Pairwise (· < ·) → p ∈ l → p * p ≤ x → x % p = 0 → dbn x l = false
  | [], _, hm, _, _ => by cases hm
  | q :: l, hs, hm, hp, hx => by
    have ⟨hq, hl⟩ := List.pairwise_cons.1 hs
    rw [dbn]
    rcases List.mem_cons.1 hm with rfl | hm
    · rw [if_neg (by omega), if_pos hx]
    · have h1 := hq p hm
      have h2 := Nat.mul_le_mul (Nat.le_of_lt h1) (Nat.le_of_lt h1)
      rw [if_neg (by omega)]
      split
      · rfl
      · exact dbn_false l hl hm hp hx
theorem dbn_prime {x : Nat} (h : 2 ≤ x) : dbn x (pl x) = primeB x := by
  cases hp : primeB x with
  | true => exact dbn_true _ fun p hm hle => (prime_iff.1 hp).2 p (pl_bd hm).1 hle
  | false =>
    obtain ⟨e, h1, h2, h3⟩ := not_prime h hp
    obtain ⟨p, k1, k2, k3⟩ := prime_divisor x e h1 h2 h3
    refine dbn_false _ (pl_sorted x) (mem_pl.2 ⟨?_, k1⟩) k2 k3
    have := (prime_iff.1 k1).1
    have : p * 2 ≤ p * p := Nat.mul_le_mul_left p this
    omega
theorem dbn_drop {x k : Nat} {l : List Nat} (h : k < l.length) : dbn x (l.drop k) = if x < l[k] * l[k] then true else if x % l[k] = 0 then false else dbn x (l.drop (k + 1)) := by
  rw [List.drop_eq_getElem_cons h, dbn]
end Go.Proofs.Ytfkfkoebplpooaa
