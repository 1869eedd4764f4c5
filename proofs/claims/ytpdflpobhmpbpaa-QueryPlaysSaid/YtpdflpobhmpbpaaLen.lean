/- Lengths, in plain words: bytes that are put, and what stands at the head of bytes. They hold of numbers alone, under no condition on the program. -/
import Derived.Test.YtpdflpobhmpbpaaBytes
namespace Go.Proofs.Ytpdflpobhmpbpaa
open Go.PlainAid
set_option linter.unusedVariables false
/-- A number's bytes, the lowest first, as few as it takes. -/
def loB (n : Nat) : List Int := if n = 0 then [] else ((n % 256 : Nat) : Int) :: loB (n / 256)
  termination_by n
  decreasing_by omega
theorem loB_zero : loB 0 = [] := by rw [loB]; simp
theorem loB_pos {n : Nat} (h : n ≠ 0) : loB n = ((n % 256 : Nat) : Int) :: loB (n / 256) := by rw [loB, if_neg h]
/-- The same, the highest first. -/
def hiB (n : Nat) : List Int := (loB n).reverse
theorem hiB_zero : hiB 0 = [] := by rw [hiB, loB_zero]; rfl
theorem hiB_pos {n : Nat} (h : n ≠ 0) : hiB n = hiB (n / 256) ++ [((n % 256 : Nat) : Int)] := by rw [hiB, loB_pos h, List.reverse_cons]; rfl
theorem hiB_len (n : Nat) : (hiB n).length = (loB n).length := by simp [hiB]
theorem loB_isB (n : Nat) : IsB (loB n) := by
  induction n using Nat.strongRecOn with
  | ind n ih =>
    by_cases h : n = 0
    · subst h; rw [loB_zero]; exact IsB.nil
    · rw [loB_pos h]; exact IsB.cons (by omega) (by omega) (ih _ (by omega))
theorem hiB_isB (n : Nat) : IsB (hiB n) := by intro x hx; exact loB_isB n x (by simpa [hiB] using hx)
theorem loB_le (n k : Nat) (h : n < 256 ^ k) : (loB n).length ≤ k := by
  induction k generalizing n with
  | zero => simp at h; subst h; rw [loB_zero]; simp
  | succ k ih =>
    by_cases h0 : n = 0
    · subst h0; rw [loB_zero]; simp
    · rw [loB_pos h0, List.length_cons]
      have := ih (n / 256) (by rw [Nat.pow_succ] at h; omega)
      omega
theorem loB_ge (n k : Nat) (h : 256 ^ k ≤ n) : k + 1 ≤ (loB n).length := by
  induction k generalizing n with
  | zero => rw [loB_pos (by omega)]; simp
  | succ k ih =>
    rw [Nat.pow_succ] at h
    have h0 : 0 < 256 ^ k := Nat.pow_pos (by decide)
    rw [loB_pos (by omega), List.length_cons]
    have := ih (n / 256) (by omega)
    omega
theorem loB_mono {n m : Nat} (h : n ≤ m) : (loB n).length ≤ (loB m).length := by
  induction m using Nat.strongRecOn generalizing n with
  | ind m ih =>
    by_cases h0 : n = 0
    · subst h0; rw [loB_zero]; simp
    · rw [loB_pos h0, loB_pos (show m ≠ 0 by omega), List.length_cons, List.length_cons]
      have := ih (m / 256) (by omega) (n := n / 256) (by omega)
      omega
/-- How many bytes a number takes. -/
def nB (n : Nat) : Nat := (loB n).length
theorem nB_le {n : Nat} (h : n ≤ 2305843009213693951) : nB n ≤ 8 := loB_le n 8 (by simp; omega)
theorem nB_pos {n : Nat} (h : 1 ≤ n) : 1 ≤ nB n := by unfold nB; rw [loB_pos (by omega)]; simp
def lenOk (n : Int) : Bool := decide (0 ≤ n) && decide (n ≤ 2305843009213693951)
theorem lenOk_iff {n : Int} : lenOk n = true ↔ 0 ≤ n ∧ n ≤ 2305843009213693951 := by simp [lenOk]
/-- A length's bytes. -/
def lenPut (n : Int) : List Int := if n < 128 then [n] else (128 + (nB n.toNat : Int)) :: hiB n.toNat
theorem lenPut_isB {n : Int} (h : lenOk n = true) : IsB (lenPut n) := by
  obtain ⟨h0, h1⟩ := lenOk_iff.1 h
  unfold lenPut
  split
  · exact IsB.cons h0 (by omega) IsB.nil
  · have := nB_le (n := n.toNat) (by omega)
    exact IsB.cons (by omega) (by omega) (hiB_isB _)
theorem lenPut_length {n : Int} (h : lenOk n = true) : (lenPut n).length = if n < 128 then 1 else 1 + nB n.toNat := by
  unfold lenPut
  split
  · rfl
  · rw [List.length_cons, hiB_len]; unfold nB; omega
theorem lenPut_le {n : Int} (h : lenOk n = true) : 1 ≤ (lenPut n).length ∧ (lenPut n).length ≤ 9 := by
  obtain ⟨h0, h1⟩ := lenOk_iff.1 h
  rw [lenPut_length h]
  have := nB_le (n := n.toNat) (by omega)
  split <;> omega
/-- The number that bytes are, the highest first. -/
def val : List Int → Int → Int
  | [], a => a
  | x :: r, a => val r (a * 256 + x)
theorem val_append (l m : List Int) (a : Int) : val (l ++ m) a = val m (val l a) := by
  induction l generalizing a with
  | nil => rfl
  | cons x r ih => exact ih _
theorem val_hiB (n : Nat) (a : Int) : val (hiB n) 0 = n := by
  induction n using Nat.strongRecOn with
  | ind n ih =>
    by_cases h : n = 0
    · subst h; rw [hiB_zero]; rfl
    · rw [hiB_pos h, val_append, ih (n / 256) (by omega)]
      show ((n / 256 : Nat) : Int) * 256 + ((n % 256 : Nat) : Int) = n
      omega
theorem val_nonneg (l : List Int) (a : Int) (hl : IsB l) (ha : 0 ≤ a) : 0 ≤ val l a := by
  induction l generalizing a with
  | nil => exact ha
  | cons x r ih => exact ih _ hl.tail (by have := hl.head; omega)
theorem val_ge (l : List Int) (a : Int) (hl : IsB l) (ha : 0 ≤ a) : a ≤ val l a := by
  induction l generalizing a with
  | nil => exact Int.le_refl _
  | cons x r ih => have := ih (a * 256 + x) hl.tail (by have := hl.head; omega); have := hl.head; show a ≤ val r _; omega
theorem val_lt (l : List Int) (a : Nat) (hl : IsB l) : val l a < ((a + 1) * 256 ^ l.length : Nat) := by
  induction l generalizing a with
  | nil => show (a : Int) < _; simp; omega
  | cons x r ih =>
    have hx := hl.head
    have := ih (a * 256 + x.toNat) hl.tail
    rw [show ((a * 256 + x.toNat : Nat) : Int) = (a : Int) * 256 + x by omega] at this
    show val r _ < _
    refine Int.lt_of_lt_of_le this ?_
    rw [List.length_cons, Nat.pow_succ]
    have e : (a * 256 + x.toNat + 1) * 256 ^ r.length ≤ ((a + 1) * 256) * 256 ^ r.length := Nat.mul_le_mul_right _ (by omega)
    have e2 : (a + 1) * 256 * 256 ^ r.length = (a + 1) * (256 ^ r.length * 256) := by rw [Nat.mul_assoc, Nat.mul_comm 256]
    omega
/-- Bytes whose first one isn't 0 are their number's. -/
theorem hiB_val (l : List Int) (a : Nat) (hl : IsB l) (h : a ≠ 0 ∨ ∃ x r, l = x :: r ∧ x ≠ 0) : hiB a ++ l = hiB (val l a).toNat := by
  induction l generalizing a with
  | nil =>
    simp [val]
  | cons x r ih =>
    have hx := hl.head
    have hne : a * 256 + x.toNat ≠ 0 := by
      rcases h with h | ⟨y, q, e, h⟩
      · omega
      · cases e; omega
    have := ih (a * 256 + x.toNat) hl.tail (.inl hne)
    rw [show ((a * 256 + x.toNat : Nat) : Int) = (a : Int) * 256 + x by omega] at this
    rw [show val (x :: r) (a : Int) = val r ((a : Int) * 256 + x) from rfl, ← this, hiB_pos hne, show (a * 256 + x.toNat) / 256 = a by omega, show (((a * 256 + x.toNat) % 256 : Nat) : Int) = x by omega]
    simp
/-- What stands at the head of bytes: the length, how many bytes, the error. -/
def lenGet : List Int → Int × Nat × Int
  | [] => (0, 0, 2)
  | x :: r =>
    if x < 128 then (x, 1, 0)
    else if x = 128 ∨ 136 < x then (0, 0, 4)
    else if 0 < r.length ∧ (r.headD 0 = 0 ∨ (x = 129 ∧ r.headD 0 < 128)) then (0, 1, 4)
    else if (r.length : Int) < x - 128 then (0, 1 + r.length, 2)
    else if 2305843009213693951 < val (r.take (x - 128).toNat) 0 then (0, (x - 128).toNat, 4)
    else (val (r.take (x - 128).toNat) 0, 1 + (x - 128).toNat, 0)
theorem lenGet_cons (x : Int) (r : List Int) : lenGet (x :: r) =
    if x < 128 then (x, 1, 0)
    else if x = 128 ∨ 136 < x then (0, 0, 4)
    else if 0 < r.length ∧ (r.headD 0 = 0 ∨ (x = 129 ∧ r.headD 0 < 128)) then (0, 1, 4)
    else if (r.length : Int) < x - 128 then (0, 1 + r.length, 2)
    else if 2305843009213693951 < val (r.take (x - 128).toNat) 0 then (0, (x - 128).toNat, 4)
    else (val (r.take (x - 128).toNat) 0, 1 + (x - 128).toNat, 0) := rfl
theorem lenGet_bad (l : List Int) (h : (lenGet l).2.2 ≠ 0) : (lenGet l).1 = 0 := by
  cases l with
  | nil => rfl
  | cons x r =>
    revert h
    rw [lenGet_cons]
    repeat' split
    all_goals simp
theorem lenGet_le (l : List Int) (hl : IsB l) : (lenGet l).2.1 ≤ l.length := by
  cases l with
  | nil => simp [lenGet]
  | cons x r =>
    rw [lenGet_cons]
    repeat' split
    all_goals simp
    all_goals omega
theorem lenGet_bd (l : List Int) (hl : IsB l) : 0 ≤ (lenGet l).1 ∧ (lenGet l).1 ≤ 2305843009213693951 := by
  cases l with
  | nil => simp [lenGet]
  | cons x r =>
    have hx := hl.head
    have hv := val_nonneg (r.take (x - 128).toNat) 0 (hl.tail.take _) (by decide)
    rw [lenGet_cons]
    repeat' split
    all_goals simp
    all_goals omega
theorem hiB_head {n : Nat} (h : 1 ≤ n) : ∃ x r, hiB n = x :: r ∧ x ≠ 0 := by
  induction n using Nat.strongRecOn with
  | ind n ih =>
    rw [hiB_pos (by omega)]
    by_cases h0 : n / 256 = 0
    · rw [h0, hiB_zero]; exact ⟨_, [], rfl, by omega⟩
    · obtain ⟨x, r, e, hx⟩ := ih (n / 256) (by omega) (by omega)
      exact ⟨x, r ++ [((n % 256 : Nat) : Int)], by rw [e]; rfl, hx⟩
/-- What is put is got, whatever stands behind. -/
theorem lenGet_put {n : Int} (h : lenOk n = true) (m : List Int) : lenGet (lenPut n ++ m) = (n, (lenPut n).length, 0) := by
  obtain ⟨h0, h1⟩ := lenOk_iff.1 h
  by_cases hs : n < 128
  · unfold lenPut; rw [if_pos hs]; show lenGet (n :: m) = _; rw [lenGet_cons]; rw [if_pos hs]; rfl
  · have hk := nB_le (n := n.toNat) (by omega)
    have hk1 := nB_pos (n := n.toNat) (by omega)
    have hlen : (hiB n.toNat).length = nB n.toNat := hiB_len _
    obtain ⟨x, r, e, hx⟩ := hiB_head (n := n.toNat) (by omega)
    rw [lenPut_length h, if_neg hs]
    unfold lenPut; rw [if_neg hs, List.cons_append]; rw [lenGet_cons]
    rw [if_neg (by omega), if_neg (by omega)]
    have c3 : ¬ (0 < (hiB n.toNat ++ m).length ∧ ((hiB n.toNat ++ m).headD 0 = 0 ∨ (128 + (nB n.toNat : Int) = 129 ∧ (hiB n.toNat ++ m).headD 0 < 128))) := by
      rw [e, List.cons_append, List.headD_cons]
      rintro ⟨_, h | ⟨h, h2⟩⟩
      · exact hx h
      · have hn1 : nB n.toNat = 1 := by omega
        have : n.toNat < 256 := by
          apply Nat.lt_of_not_le; intro hge
          have := loB_ge n.toNat 1 (by simpa using hge)
          unfold nB at hn1; omega
        have e2 : hiB n.toNat = [((n.toNat % 256 : Nat) : Int)] := by rw [hiB_pos (by omega), show n.toNat / 256 = 0 by omega, hiB_zero]; rfl
        rw [e2] at e; cases e; omega
    have htk : (128 + (nB n.toNat : Int) - 128).toNat = nB n.toNat := by omega
    rw [if_neg c3, if_neg (by rw [List.length_append]; omega), htk, List.take_left' hlen, val_hiB _ 0, Int.toNat_of_nonneg h0, if_neg (by omega)]
/-- A beginning is cut off, at its end. -/
theorem lenGet_cut {n : Int} (h : lenOk n = true) (k : Nat) (hk : k < (lenPut n).length) : lenGet ((lenPut n).take k) = (0, k, 2) := by
  have hw := lenGet_put h []
  rw [List.append_nil] at hw
  obtain ⟨h0, h1⟩ := lenOk_iff.1 h
  cases k with
  | zero => rfl
  | succ k =>
    by_cases hs : n < 128
    · rw [lenPut_length h, if_pos hs] at hk; omega
    · have hkb := nB_le (n := n.toNat) (by omega)
      have hlen : (hiB n.toNat).length = nB n.toNat := hiB_len _
      rw [lenPut_length h, if_neg hs] at hk
      unfold lenPut at hw ⊢
      rw [if_neg hs] at hw ⊢
      rw [List.take_succ_cons]
      rw [lenGet_cons] at hw ⊢
      rw [if_neg (by omega), if_neg (by omega)] at hw ⊢
      obtain ⟨x, r, e, hx⟩ := hiB_head (n := n.toNat) (by omega)
      rw [e] at hw hlen ⊢
      by_cases c3 : 0 < (x :: r).length ∧ ((x :: r).headD 0 = 0 ∨ (128 + (nB n.toNat : Int) = 129 ∧ (x :: r).headD 0 < 128))
      · rw [if_pos c3] at hw; simp at hw
      · have c3' : ¬ (0 < ((x :: r).take k).length ∧ (((x :: r).take k).headD 0 = 0 ∨ (128 + (nB n.toNat : Int) = 129 ∧ ((x :: r).take k).headD 0 < 128))) := by
          cases k with
          | zero => simp
          | succ k =>
            intro hc
            apply c3
            rw [List.take_succ_cons] at hc
            exact ⟨by simp, by simpa using hc.2⟩
        have hl2 : ((x :: r).take k).length = k := by rw [List.length_take]; omega
        rw [if_neg c3', if_pos (by rw [hl2]; omega), hl2, Nat.add_comm]
/-- What is got is put as it was. -/
theorem lenGet_one (l : List Int) (hl : IsB l) (h : (lenGet l).2.2 = 0) : lenOk (lenGet l).1 = true ∧ 1 ≤ (lenGet l).2.1 ∧ (lenGet l).2.1 ≤ l.length ∧ lenPut (lenGet l).1 = l.take (lenGet l).2.1 := by
  refine ⟨lenOk_iff.2 (lenGet_bd l hl), ?_, lenGet_le l hl, ?_⟩
  · cases l with
    | nil => simp [lenGet] at h
    | cons x r =>
      revert h
      rw [lenGet_cons]
      repeat' split
      all_goals simp
  · cases l with
    | nil => simp [lenGet] at h
    | cons x r =>
      have hx := hl.head
      rw [lenGet_cons] at h ⊢
      by_cases c1 : x < 128
      · rw [if_pos c1]; show lenPut x = _; unfold lenPut; rw [if_pos c1]; rfl
      · rw [if_neg c1] at h ⊢
        by_cases c2 : x = 128 ∨ 136 < x
        · rw [if_pos c2] at h; simp at h
        · rw [if_neg c2] at h ⊢
          by_cases c3 : 0 < r.length ∧ (r.headD 0 = 0 ∨ (x = 129 ∧ r.headD 0 < 128))
          · rw [if_pos c3] at h; simp at h
          · rw [if_neg c3] at h ⊢
            by_cases c4 : (r.length : Int) < x - 128
            · rw [if_pos c4] at h; simp at h
            · rw [if_neg c4] at h ⊢
              by_cases c5 : 2305843009213693951 < val (r.take (x - 128).toNat) 0
              · rw [if_pos c5] at h; simp at h
              · rw [if_neg c5]
                show lenPut (val (r.take (x - 128).toNat) 0) = (x :: r).take (1 + (x - 128).toNat)
                cases r with
                | nil => simp at c4; omega
                | cons y q =>
                  obtain ⟨c, hc⟩ : ∃ c, (x - 128).toNat = c + 1 := ⟨(x - 128).toNat - 1, by omega⟩
                  rw [hc] at c5 ⊢
                  have hy := hl.tail.head
                  have hy0 : y ≠ 0 := by intro h0; apply c3; exact ⟨by simp, .inl (by simpa using h0)⟩
                  have ht : IsB ((y :: q).take (c + 1)) := hl.tail.take _
                  have hlt : ((y :: q).take (c + 1)).length = c + 1 := by rw [List.length_take]; simp at c4 ⊢; omega
                  have hv := hiB_val ((y :: q).take (c + 1)) 0 ht (.inr ⟨y, q.take c, by rw [List.take_succ_cons], hy0⟩)
                  rw [hiB_zero, List.nil_append] at hv
                  have hv' : (y :: q).take (c + 1) = hiB (val ((y :: q).take (c + 1)) 0).toNat := hv
                  generalize hV : val ((y :: q).take (c + 1)) 0 = V at *
                  have hV0 : 0 ≤ V := by rw [← hV]; exact val_nonneg _ _ ht (by decide)
                  have hnb : nB V.toNat = c + 1 := by
                    have := congrArg List.length hv'
                    rw [hlt, hiB_len] at this
                    exact this.symm
                  have hV128 : ¬ V < 128 := by
                    intro hlt2
                    have h256 : V.toNat < 256 ^ 1 := by omega
                    have := loB_le V.toNat 1 h256
                    have hc0 : c = 0 := by unfold nB at hnb; omega
                    subst hc0
                    have e : V = y := by rw [← hV]; simp [val]
                    apply c3
                    exact ⟨by simp, .inr ⟨by omega, by simp; omega⟩⟩
                  unfold lenPut
                  rw [if_neg hV128, hnb, ← hv', Nat.add_comm 1, List.take_succ_cons]
                  congr 1
                  omega
/-! ### Order -/
theorem val_acc (l : List Int) (a : Int) : val l a = a * 256 ^ l.length + val l 0 := by
  induction l generalizing a with
  | nil => simp [val]
  | cons x r ih =>
    show val r (a * 256 + x) = _ + val r (0 * 256 + x)
    rw [ih (a * 256 + x), ih (0 * 256 + x), List.length_cons, Int.pow_succ]
    have e1 : (a * 256 + x) * 256 ^ r.length = a * (256 ^ r.length * 256) + x * 256 ^ r.length := by rw [Int.add_mul, Int.mul_assoc, Int.mul_comm 256]
    have e2 : (0 * 256 + x) * (256 : Int) ^ r.length = x * 256 ^ r.length := by simp
    omega
theorem val_small (l : List Int) (hl : IsB l) : 0 ≤ val l 0 ∧ val l 0 < 256 ^ l.length := by
  refine ⟨val_nonneg l 0 hl (Int.le_refl 0), ?_⟩
  have := val_lt l 0 hl
  simpa using this
theorem ub_isB (l : List UInt8) : IsB (l.map fun u => (u.toNat : Int)) := by
  intro x hx
  obtain ⟨u, _, rfl⟩ := List.mem_map.1 hx
  have := u.toNat_lt
  omega
theorem less_of (l m : List UInt8) (h : l.length = m.length) (hv : val (l.map fun u => (u.toNat : Int)) 0 ≤ val (m.map fun u => (u.toNat : Int)) 0) : Op.bytesLess l m = true ∨ l = m := by
  induction l generalizing m with
  | nil => cases m with
    | nil => right; rfl
    | cons y q => simp at h
  | cons x r ih =>
    cases m with
    | nil => simp at h
    | cons y q =>
      have hl : r.length = q.length := by simpa using h
      have hv2 : val (r.map fun u => (u.toNat : Int)) (0 * 256 + (x.toNat : Int)) ≤ val (q.map fun u => (u.toNat : Int)) (0 * 256 + (y.toNat : Int)) := hv
      rw [val_acc, val_acc (q.map _), List.length_map, List.length_map, hl] at hv2
      have b1 := val_small _ (ub_isB r)
      have b2 := val_small _ (ub_isB q)
      rw [List.length_map] at b1 b2
      rw [hl] at b1
      have hp : (0 : Int) < 256 ^ q.length := Int.pow_pos (by decide)
      generalize (256 : Int) ^ q.length = P at *
      rcases Nat.lt_trichotomy x.toNat y.toNat with hxy | hxy | hxy
      · left
        have : x < y := hxy
        simp [Op.bytesLess, this]
      · have hxe : x = y := UInt8.toNat_inj.1 hxy
        subst hxe
        rcases ih q hl (by omega) with hq | hq
        · left; simp [Op.bytesLess, hq]
        · right; rw [hq]
      · exfalso
        have e : ((y.toNat : Int) + 1) * P ≤ (x.toNat : Int) * P := Int.mul_le_mul_of_nonneg_right (by omega) (by omega)
        rw [Int.add_mul] at e
        have e2 : (0 * 256 + (x.toNat : Int)) * P = (x.toNat : Int) * P := by simp
        have e3 : (0 * 256 + (y.toNat : Int)) * P = (y.toNat : Int) * P := by simp
        omega
end Go.Proofs.Ytpdflpobhmpbpaa
