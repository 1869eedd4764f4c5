/- Contents of bit strings, in plain words: with which byte one is wrong, what a state asks, what is put and got, and their bits. They hold of texts alone, under no condition on the program. -/
import Derived.Test.YtpdehfcpeoiepaaBytes
import Derived.Lib.Strings
import Derived.Laws.Cover1
namespace Go.Proofs.Ytpdehfcpeoiepaa
open Go.PlainAid
set_option linter.unusedVariables false
/-- So many lowest bits. -/
def lw (x u : Int) : Int := x % 2 ^ u.toNat
theorem lw_cases {P : Int → Int → Prop} (h0 : ∀ x, P 0 (x % 1)) (h1 : ∀ x, P 1 (x % 2)) (h2 : ∀ x, P 2 (x % 4)) (h3 : ∀ x, P 3 (x % 8)) (h4 : ∀ x, P 4 (x % 16)) (h5 : ∀ x, P 5 (x % 32)) (h6 : ∀ x, P 6 (x % 64)) (h7 : ∀ x, P 7 (x % 128)) (u x : Int) (l : 0 ≤ u) (h : u ≤ 7) : P u (lw x u) := by
  rcases (by omega : u = 0 ∨ u = 1 ∨ u = 2 ∨ u = 3 ∨ u = 4 ∨ u = 5 ∨ u = 6 ∨ u = 7) with rfl | rfl | rfl | rfl | rfl | rfl | rfl | rfl
  · exact h0 x
  · exact h1 x
  · exact h2 x
  · exact h3 x
  · exact h4 x
  · exact h5 x
  · exact h6 x
  · exact h7 x
theorem lw_zero (x : Int) : lw x 0 = 0 := by show x % 1 = 0; omega
/-- A first byte can be. -/
def cB (u n : Int) : Bool := decide (u = 0 ∨ (u ≤ 7 ∧ 1 < n))
/-- A last byte can be. -/
def cE (u x : Int) : Bool := decide (lw x u = 0)
theorem cE_zero (x : Int) : cE 0 x = true := decide_eq_true (lw_zero x)
theorem cB_le {u n : Int} (h : cB u n = true) : u ≤ 7 := by have := of_decide_eq_true h; omega
theorem cB_zero (n : Int) : cB 0 n = true := decide_eq_true (.inl rfl)
theorem cB_iff {u n : Int} (hn : 1 ≤ n) : cB u n = false ↔ (7 < u ∨ (n = 1 ∧ u ≠ 0)) := by
  unfold cB; rw [decide_eq_false_iff_not]; omega
/-- With which byte a content of n bytes, of which these came, is wrong. -/
def bsW (n : Int) (s : ByteArray) : Int :=
  if n < 1 then 0 else if 0 < s.size ∧ cB (bt s 0) n = false then 1
  else if 1 < n ∧ (s.size : Int) = n ∧ cE (bt s 0) (bt s (s.size - 1)) = false then n else -1
theorem bsW_zero (n : Int) (s : ByteArray) : (bsW n s != 0) = decide (1 ≤ n) := by
  unfold bsW
  by_cases h : n < 1
  · rw [if_pos h, decide_eq_false (by omega)]; rfl
  · rw [if_neg h, decide_eq_true (show 1 ≤ n by omega)]
    simp only [bne_iff_ne]
    split
    · decide
    · split <;> omega
def bsR (s : ByteArray) : Bool := decide (0 < s.size ∧ bsW s.size s = -1)
theorem bsR_iff (s : ByteArray) : bsR s = true ↔ 0 < s.size ∧ cB (bt s 0) s.size = true ∧ cE (bt s 0) (bt s (s.size - 1)) = true := by
  unfold bsR bsW
  rw [decide_eq_true_eq]
  constructor
  · rintro ⟨h0, h⟩
    rw [if_neg (by omega)] at h
    by_cases h1 : 0 < s.size ∧ cB (bt s 0) s.size = false
    · rw [if_pos h1] at h; cases h
    · rw [if_neg h1] at h
      have hb : cB (bt s 0) s.size = true := by cases hb : cB (bt s 0) s.size; exact absurd ⟨h0, hb⟩ h1; rfl
      refine ⟨h0, hb, ?_⟩
      by_cases h2 : 1 < (s.size : Int) ∧ (s.size : Int) = s.size ∧ cE (bt s 0) (bt s (s.size - 1)) = false
      · rw [if_pos h2] at h; omega
      · by_cases hs : 1 < (s.size : Int)
        · cases he : cE (bt s 0) (bt s (s.size - 1))
          · exact absurd ⟨hs, rfl, he⟩ h2
          · rfl
        · have hu : bt s 0 = 0 := by have := of_decide_eq_true hb; omega
          rw [hu]; exact cE_zero _
  · rintro ⟨h0, h1, h2⟩
    refine ⟨h0, ?_⟩
    rw [if_neg (by omega), if_neg (by rw [h1]; simp), if_neg (by rw [h2]; simp)]
theorem bsR_le {s : ByteArray} (h : bsR s = true) : bt s 0 ≤ 7 := cB_le ((bsR_iff s).1 h).2.1
/-- A byte more: the state behind (how many are left, whether it began, how many bits aren't used), and whether it can be. -/
def bPush (left : Int) (begun : Bool) (un b : Int) : Int × Bool × Int × Bool :=
  if left < 1 then (0, false, 0, false)
  else if begun = false then (if cB b left = true then (left - 1, true, b, true) else (0, false, 0, false))
  else if 1 < left ∨ cE un b = true then (left - 1, true, un, true) else (0, false, 0, false)
def bUn (s : ByteArray) (i : Nat) : Int := if i = 0 then 0 else bt s 0
theorem bs_range (n : Int) (s : ByteArray) (hn : 1 ≤ n) : bsW n s = -1 ∨ 1 ≤ bsW n s := by
  unfold bsW
  rw [if_neg (by omega)]
  split
  · omega
  · split <;> omega
/-- Along a content: what a push tells. -/
theorem bs_step (n : Int) (s : ByteArray) (i : Nat) (hi : i < s.size) (hn : (s.size : Int) ≤ n) (h : ¬ (0 ≤ bsW n s ∧ bsW n s ≤ i)) :
    (bsW n s = (i : Int) + 1 → bPush (n - i) (decide (0 < i)) (bUn s i) (bt s i) = (0, false, 0, false)) ∧
    (bsW n s ≠ (i : Int) + 1 → bPush (n - i) (decide (0 < i)) (bUn s i) (bt s i) = (n - ((i + 1 : Nat) : Int), true, bt s 0, true) ∧ bt s 0 ≤ 7) := by
  have hn1 : ¬ n < 1 := by omega
  have hl : ¬ n - (i : Int) < 1 := by omega
  have hW : bsW n s = if 0 < s.size ∧ cB (bt s 0) n = false then 1 else if 1 < n ∧ (s.size : Int) = n ∧ cE (bt s 0) (bt s (s.size - 1)) = false then n else -1 := by unfold bsW; rw [if_neg hn1]
  have hc : (n - ((i + 1 : Nat) : Int)) = n - (i : Int) - 1 := by omega
  unfold bPush
  rw [if_neg hl]
  by_cases h0 : i = 0
  · subst h0
    rw [if_pos (by rfl)]
    have hz : n - ((0 : Nat) : Int) = n := by simp
    rw [hc, hz]
    cases hb : cB (bt s 0) n
    · rw [hb, if_pos ⟨hi, rfl⟩] at hW
      rw [hW]
      exact ⟨fun _ => by simp, fun h2 => absurd rfl h2⟩
    · rw [hb, if_neg (by simp)] at hW
      refine ⟨fun h2 => ?_, fun _ => ⟨by simp, cB_le hb⟩⟩
      rw [hW] at h2
      split at h2 <;> omega
  · have hb : cB (bt s 0) n = true := by
      cases hb : cB (bt s 0) n
      · rw [hb, if_pos ⟨by omega, rfl⟩] at hW
        exact absurd ⟨by omega, by omega⟩ h
      · rfl
    rw [hb, if_neg (by simp)] at hW
    rw [show decide (0 < i) = true from decide_eq_true (by omega), if_neg (by simp), show bUn s i = bt s 0 from if_neg h0, hc]
    by_cases h1 : 1 < n - (i : Int)
    · rw [if_pos (.inl h1)]
      refine ⟨fun h2 => ?_, fun _ => ⟨rfl, cB_le hb⟩⟩
      rw [hW] at h2
      split at h2 <;> omega
    · have hs : s.size - 1 = i := by omega
      have hs2 : (s.size : Int) = n := by omega
      rw [hs] at hW
      cases he : cE (bt s 0) (bt s i)
      · rw [he, if_pos ⟨by omega, hs2, rfl⟩] at hW
        rw [if_neg (by simp [h1])]
        exact ⟨fun _ => rfl, fun h2 => absurd (by omega) h2⟩
      · rw [he, if_neg (by simp)] at hW
        rw [if_pos (.inr rfl), hW]
        exact ⟨fun h2 => by omega, fun _ => ⟨rfl, cB_le hb⟩⟩
/-! ### Put and Get -/
def one8 (u : Int) : ByteArray := strOfNums [u]
theorem one8_size (u : Int) : (one8 u).size = 1 := strOfNums_size _
theorem one8_bt {u : Int} (h0 : 0 ≤ u) (h1 : u ≤ 255) : bt (one8 u) 0 = u := strOfNums_at _ 0 _ rfl h0 h1
/-- What is put. -/
def bpC (u : Int) (b : ByteArray) : ByteArray := one8 u ++ b
theorem bpC_size (u : Int) (b : ByteArray) : (bpC u b).size = b.size + 1 := by unfold bpC; rw [ByteArray.size_append, one8_size]; omega
theorem bpC_zero {u : Int} (h0 : 0 ≤ u) (h1 : u ≤ 255) (b : ByteArray) : bt (bpC u b) 0 = u := by unfold bpC; rw [bt_append_left (by rw [one8_size]; decide), one8_bt h0 h1]
theorem bpC_at (u : Int) (b : ByteArray) (i : Nat) : bt (bpC u b) (1 + i) = bt b i := by unfold bpC; rw [bt_append_right (by rw [one8_size]; omega), one8_size, Nat.add_sub_cancel_left]
theorem bpC_rest (u : Int) (b : ByteArray) : (bpC u b).extract 1 (bpC u b).size = b := by
  apply bt_ext
  · rw [ByteArray.size_extract, bpC_size]; omega
  · intro k hk
    rw [ByteArray.size_extract, bpC_size] at hk
    rw [bt_extract (Nat.le_refl _) (by rw [bpC_size]; omega), bpC_at]
theorem bpC_got (s : ByteArray) (h : 0 < s.size) : bpC (bt s 0) (s.extract 1 s.size) = s := by
  have hx := bt_nonneg s 0
  have hy := bt_le s 0
  apply bt_ext
  · rw [bpC_size, ByteArray.size_extract]; omega
  · intro k hk
    rw [bpC_size, ByteArray.size_extract] at hk
    by_cases h0 : k = 0
    · rw [h0, bpC_zero hx hy]
    · obtain ⟨j, rfl⟩ : ∃ j, k = 1 + j := ⟨k - 1, by omega⟩
      rw [bpC_at, bt_extract (Nat.le_refl _) (by omega)]
def bpB (u : Int) (b : ByteArray) : Bool := decide (0 ≤ u ∧ u ≤ 7 ∧ bsR (bpC u b) = true)
def bpS (u : Int) (b : ByteArray) : ByteArray := if bpB u b = true then bpC u b else ⟨#[]⟩
theorem bp_out {u : Int} (b : ByteArray) (h : ¬ (0 ≤ u ∧ u ≤ 7)) : bpB u b = false ∧ bpS u b = ⟨#[]⟩ := by
  have : bpB u b = false := decide_eq_false (fun h2 => h ⟨h2.1, h2.2.1⟩)
  exact ⟨this, by unfold bpS; rw [this]; rfl⟩
theorem bp_in {u : Int} (b : ByteArray) (h : 0 ≤ u ∧ u ≤ 7) : bpB u b = bsR (bpC u b) := by
  unfold bpB
  cases hr : bsR (bpC u b)
  · exact decide_eq_false (by simp)
  · exact decide_eq_true ⟨h.1, h.2, rfl⟩
/-- What is put is got. -/
theorem bp_back {u : Int} {b : ByteArray} (h : bpB u b = true) : bsR (bpS u b) = true ∧ bt (bpS u b) 0 = u ∧ (bpS u b).extract 1 (bpS u b).size = b ∧ (bpS u b).size = b.size + 1 := by
  obtain ⟨h0, h1, h2⟩ := of_decide_eq_true h
  have hS : bpS u b = bpC u b := if_pos h
  rw [hS]
  exact ⟨h2, bpC_zero h0 (by omega) b, bpC_rest u b, bpC_size u b⟩
/-- What is got is put as it was. -/
theorem bp_one {s : ByteArray} (h : bsR s = true) : bpB (bt s 0) (s.extract 1 s.size) = true ∧ bpS (bt s 0) (s.extract 1 s.size) = s := by
  have h0 := ((bsR_iff s).1 h).1
  have hB : bpB (bt s 0) (s.extract 1 s.size) = true := decide_eq_true ⟨bt_nonneg s 0, bsR_le h, by rw [bpC_got s h0]; exact h⟩
  exact ⟨hB, by unfold bpS; rw [if_pos hB, bpC_got s h0]⟩
/-- Bits of which none is unused can be any bytes. -/
theorem bp_whole (b : ByteArray) : bpB 0 b = true ∧ bpS 0 b = bpC 0 b := by
  have hB : bpB 0 b = true := decide_eq_true ⟨by decide, by decide, (bsR_iff _).2 ⟨by rw [bpC_size]; omega, by rw [bpC_zero (by decide) (by decide)]; exact cB_zero _, by rw [bpC_zero (by decide) (by decide)]; exact cE_zero _⟩⟩
  exact ⟨hB, if_pos hB⟩
/-! ### Bits -/
/-- A byte's bit: the highest one is bit 0. -/
def bitAt (x r : Int) : Int := x / 2 ^ (7 - r).toNat % 2
def bsBit (s : ByteArray) (i : Int) : Bool := decide (bsR s = true ∧ 0 ≤ i ∧ i / 8 < (s.size : Int) - 1 ∧ bitAt (bt s (1 + (i / 8).toNat)) (i % 8) = 1)
theorem bitAt_cases {P : Int → Int → Prop} (x : Int) (h0 : P 0 (x / 128 % 2)) (h1 : P 1 (x / 64 % 2)) (h2 : P 2 (x / 32 % 2)) (h3 : P 3 (x / 16 % 2)) (h4 : P 4 (x / 8 % 2)) (h5 : P 5 (x / 4 % 2)) (h6 : P 6 (x / 2 % 2)) (h7 : P 7 (x / 1 % 2)) (r : Int) (l : 0 ≤ r) (h : r ≤ 7) : P r (bitAt x r) := by
  rcases (by omega : r = 0 ∨ r = 1 ∨ r = 2 ∨ r = 3 ∨ r = 4 ∨ r = 5 ∨ r = 6 ∨ r = 7) with rfl | rfl | rfl | rfl | rfl | rfl | rfl | rfl
  · exact h0
  · exact h1
  · exact h2
  · exact h3
  · exact h4
  · exact h5
  · exact h6
  · exact h7
/-- The reference's way to a bit. -/
theorem bit_low (x r : Int) (l : 0 ≤ r) (h : r ≤ 7) : bitAt x r = 1 ↔ lw x (8 - r) ≠ lw x (7 - r) := by
  rcases (by omega : r = 0 ∨ r = 1 ∨ r = 2 ∨ r = 3 ∨ r = 4 ∨ r = 5 ∨ r = 6 ∨ r = 7) with rfl | rfl | rfl | rfl | rfl | rfl | rfl | rfl
  · show x / 128 % 2 = 1 ↔ x % 256 ≠ x % 128; omega
  · show x / 64 % 2 = 1 ↔ x % 128 ≠ x % 64; omega
  · show x / 32 % 2 = 1 ↔ x % 64 ≠ x % 32; omega
  · show x / 16 % 2 = 1 ↔ x % 32 ≠ x % 16; omega
  · show x / 8 % 2 = 1 ↔ x % 16 ≠ x % 8; omega
  · show x / 4 % 2 = 1 ↔ x % 8 ≠ x % 4; omega
  · show x / 2 % 2 = 1 ↔ x % 4 ≠ x % 2; omega
  · show x / 1 % 2 = 1 ↔ x % 2 ≠ x % 1; omega
/-- A bit that isn't used is 0. -/
theorem bit_unused (x u r : Int) (hu0 : 0 ≤ u) (hu : u ≤ 7) (hr : r ≤ 7) (h : 8 - u ≤ r) (he : lw x u = 0) : bitAt x r = 0 := by
  have key : ∀ (k d : Nat), k + d = u.toNat → 0 < d → x % 2 ^ u.toNat = 0 → x / 2 ^ k % 2 = 0 := by
    intro k d hk hd hx
    rw [← hk, Int.pow_add] at hx
    obtain ⟨e, rfl⟩ : ∃ e, d = e + 1 := ⟨d - 1, by omega⟩
    obtain ⟨q, hq⟩ := Int.dvd_of_emod_eq_zero hx
    have hp : (2 : Int) ^ k ≠ 0 := Int.ne_of_gt (Int.pow_pos (by decide))
    rw [hq, Int.mul_assoc, Int.mul_ediv_cancel_left _ hp, Int.pow_succ, Int.mul_comm (2 ^ e) 2, Int.mul_assoc]
    omega
  exact key (7 - r).toNat (u.toNat - (7 - r).toNat) (by omega) (by omega) he
/-- The reference's bound is as good. -/
theorem bit_bound (s : ByteArray) (i : Int) (hr : bsR s = true) (h0 : 0 ≤ i) : bsBit s i = decide (i ≤ 8 * ((s.size : Int) - 1) - bt s 0 - 1 ∧ bitAt (bt s (1 + (i / 8).toNat)) (i % 8) = 1) := by
  obtain ⟨hs, hb, he⟩ := (bsR_iff s).1 hr
  have hu0 := bt_nonneg s 0
  have hu := cB_le hb
  have he := of_decide_eq_true he
  unfold bsBit
  apply decide_eq_decide.2
  constructor
  · rintro ⟨_, _, h1, h2⟩
    refine ⟨?_, h2⟩
    by_cases h3 : i ≤ 8 * ((s.size : Int) - 1) - bt s 0 - 1
    · exact h3
    · have hx : 1 + (i / 8).toNat = s.size - 1 := by omega
      rw [hx, bit_unused _ (bt s 0) (i % 8) hu0 hu (by omega) (by omega) he] at h2
      cases h2
  · rintro ⟨h1, h2⟩
    exact ⟨hr, h0, by omega, h2⟩
/-- A bit of bits of which none is unused. -/
theorem whole_bit (b : ByteArray) (i : Int) : bsBit (bpC 0 b) i = decide (0 ≤ i ∧ i < 8 * (b.size : Int) ∧ bitAt (bt b (i / 8).toNat) (i % 8) = 1) := by
  have hr : bsR (bpC 0 b) = true := by
    have := of_decide_eq_true (bp_whole b).1
    exact this.2.2
  unfold bsBit
  apply decide_eq_decide.2
  rw [bpC_size, bpC_at]
  constructor
  · rintro ⟨_, h0, h1, h2⟩; exact ⟨h0, by omega, h2⟩
  · rintro ⟨h0, h1, h2⟩; exact ⟨hr, h0, by omega, h2⟩
end Go.Proofs.Ytpdehfcpeoiepaa
