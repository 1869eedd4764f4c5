/- Identifiers, in plain words: bytes that are put, and what stands at the head of bytes. They hold of numbers alone, under no condition on the program. -/
import Derived.Test.YtjdkpdaekmogkaaBytes
namespace Go.Proofs.Ytjdkpdaekmogkaa
open Go.PlainAid
set_option linter.unusedVariables false

/-- Groups of seven bits, the lowest first, each with 128, till nothing is left. -/
def loG (n : Nat) : List Int := if n = 0 then [] else ((128 + n % 128 : Nat) : Int) :: loG (n / 128)
  termination_by n
  decreasing_by omega
theorem loG_zero : loG 0 = [] := by rw [loG]; simp
theorem loG_pos {n : Nat} (h : n ≠ 0) : loG n = ((128 + n % 128 : Nat) : Int) :: loG (n / 128) := by rw [loG, if_neg h]
/-- The same, the highest first. -/
def hiG (n : Nat) : List Int := (loG n).reverse
theorem hiG_zero : hiG 0 = [] := by rw [hiG, loG_zero]; rfl
theorem hiG_pos {n : Nat} (h : n ≠ 0) : hiG n = hiG (n / 128) ++ [((128 + n % 128 : Nat) : Int)] := by rw [hiG, loG_pos h, List.reverse_cons]; rfl
/-- A tag's groups. -/
def gB (n : Nat) : List Int := hiG (n / 128) ++ [((n % 128 : Nat) : Int)]
theorem loG_isB (n : Nat) : IsB (loG n) := by
  induction n using Nat.strongRecOn with
  | ind n ih =>
    by_cases h : n = 0
    · subst h; rw [loG_zero]; exact IsB.nil
    · rw [loG_pos h]; exact IsB.cons (by omega) (by omega) (ih _ (by omega))
theorem hiG_isB (n : Nat) : IsB (hiG n) := by intro x hx; exact loG_isB n x (by simpa [hiG] using hx)
theorem gB_isB (n : Nat) : IsB (gB n) := (hiG_isB _).append (IsB.cons (by omega) (by omega) IsB.nil)
theorem loG_le (n k : Nat) (h : n < 128 ^ k) : (loG n).length ≤ k := by
  induction k generalizing n with
  | zero => simp at h; subst h; rw [loG_zero]; simp
  | succ k ih =>
    by_cases h0 : n = 0
    · subst h0; rw [loG_zero]; simp
    · rw [loG_pos h0, List.length_cons]
      have := ih (n / 128) (by rw [Nat.pow_succ] at h; omega)
      omega
theorem gB_length (n : Nat) : (gB n).length = (loG (n / 128)).length + 1 := by simp [gB, hiG]
theorem gB_le (n : Nat) (h : n ≤ 268435455) : (gB n).length ≤ 4 := by rw [gB_length]; have := loG_le (n / 128) 3 (by simp; omega); omega
/-- The first byte. -/
def first (cls tag : Int) (cons : Bool) : Int := 64 * cls + (if cons then 32 else 0) + (if tag < 31 then tag else 31)
theorem first_bd {cls tag : Int} {cons : Bool} (h0 : 0 ≤ cls) (h1 : cls ≤ 3) (h2 : 0 ≤ tag) : 0 ≤ first cls tag cons ∧ first cls tag cons ≤ 255 := by
  unfold first; cases cons <;> simp <;> split <;> omega
/-- An identifier's bytes. -/
def idPut (cls tag : Int) (cons : Bool) : List Int := first cls tag cons :: (if tag < 31 then [] else gB tag.toNat)
def idOk (cls tag : Int) : Bool := decide (0 ≤ cls) && decide (cls ≤ 3) && decide (0 ≤ tag) && decide (tag ≤ 268435455)
theorem idOk_iff {cls tag : Int} : idOk cls tag = true ↔ 0 ≤ cls ∧ cls ≤ 3 ∧ 0 ≤ tag ∧ tag ≤ 268435455 := by simp [idOk, and_assoc]
theorem idPut_isB {cls tag : Int} {cons : Bool} (h : idOk cls tag = true) : IsB (idPut cls tag cons) := by
  obtain ⟨h0, h1, h2, h3⟩ := idOk_iff.1 h
  have hf := first_bd (cons := cons) h0 h1 h2
  unfold idPut
  split
  · exact IsB.cons hf.1 hf.2 IsB.nil
  · exact IsB.cons hf.1 hf.2 (gB_isB _)
theorem idPut_length {cls tag : Int} {cons : Bool} (h : idOk cls tag = true) : 1 ≤ (idPut cls tag cons).length ∧ (idPut cls tag cons).length ≤ 5 := by
  obtain ⟨h0, h1, h2, h3⟩ := idOk_iff.1 h
  unfold idPut
  split
  · simp
  · have := gB_le tag.toNat (by omega); simp; omega

/-- Groups that stand at the head of bytes: the tag, how many bytes they took, the error (and how far ahead it is told). -/
def getG (f : Bool) (t : Int) : List Int → Int × Nat × Int
  | [] => (0, 0, 2)
  | x :: r =>
    if (f = true ∧ x = 128) ∨ 2097151 < t then (0, 0, 3)
    else if 128 ≤ x then ((getG false (t * 128 + x % 128) r).1, (getG false (t * 128 + x % 128) r).2.1 + 1, (getG false (t * 128 + x % 128) r).2.2)
    else if t * 128 + x % 128 < 31 then (0, 0, 3)
    else (t * 128 + x % 128, 1, 0)
/-- What stands at the head of bytes: class, tag, form, how many bytes, the error. -/
def idGet : List Int → Int × Int × Bool × Nat × Int
  | [] => (0, 0, false, 0, 2)
  | x :: r =>
    if x % 32 = 31 then
      (if (getG true 0 r).2.2 = 0 then (x / 64, (getG true 0 r).1, decide (x / 32 % 2 = 1), (getG true 0 r).2.1 + 1, 0)
       else (0, 0, false, (getG true 0 r).2.1 + 1, (getG true 0 r).2.2))
    else (x / 64, x % 32, decide (x / 32 % 2 = 1), 1, 0)

theorem getG_err (f : Bool) (t : Int) (l : List Int) : (getG f t l).2.2 = 0 ∨ (getG f t l).2.2 = 2 ∨ (getG f t l).2.2 = 3 := by
  induction l generalizing f t with
  | nil => simp [getG]
  | cons x r ih =>
    rw [getG]
    split
    · simp
    · split
      · exact ih _ _
      · split <;> simp
theorem getG_le (f : Bool) (t : Int) (l : List Int) : (getG f t l).2.1 ≤ l.length := by
  induction l generalizing f t with
  | nil => simp [getG]
  | cons x r ih =>
    rw [getG]
    split
    · simp
    · split
      · have := ih false (t * 128 + x % 128); simp; omega
      · split <;> simp
theorem getG_bad (f : Bool) (t : Int) (l : List Int) (h : (getG f t l).2.2 ≠ 0) : (getG f t l).1 = 0 := by
  induction l generalizing f t with
  | nil => simp [getG]
  | cons x r ih =>
    revert h
    rw [getG]
    split
    · intro _; rfl
    · split
      · exact ih _ _
      · split
        · intro _; rfl
        · intro h; simp at h
/-- The groups of a number pass. -/
theorem getG_hi (n : Nat) (h : n ≤ 2097151 * 128 + 127) (f : Bool) (r : List Int) (hn : 128 ≤ n → n / 128 ≤ 2097151) :
    getG true 0 (hiG n ++ r) = ((getG (decide (n = 0)) n r).1, (getG (decide (n = 0)) n r).2.1 + (hiG n).length, (getG (decide (n = 0)) n r).2.2) := by
  induction n using Nat.strongRecOn generalizing r with
  | ind n ih =>
    by_cases h0 : n = 0
    · subst h0; simp [hiG_zero]
    · rw [hiG_pos h0, List.append_assoc, ih (n / 128) (by omega) (by omega) _ (by omega), List.singleton_append, getG]
      have c1 : ¬ ((decide (n / 128 = 0) = true ∧ ((128 + n % 128 : Nat) : Int) = 128) ∨ 2097151 < ((n / 128 : Nat) : Int)) := by
        rw [decide_eq_true_iff]; omega
      have c2 : (128 : Int) ≤ ((128 + n % 128 : Nat) : Int) := by omega
      have c3 : ((n / 128 : Nat) : Int) * 128 + ((128 + n % 128 : Nat) : Int) % 128 = (n : Int) := by omega
      rw [if_neg c1, if_pos c2, c3, show decide (n = 0) = false by simpa using h0]
      simp; omega
theorem getG_gB (n : Nat) (h0 : 31 ≤ n) (h1 : n ≤ 268435455) (r : List Int) : getG true 0 (gB n ++ r) = ((n : Int), (gB n).length, 0) := by
  rw [gB, List.append_assoc, getG_hi (n / 128) (by omega) true _ (by omega), List.singleton_append, getG]
  have c1 : ¬ ((decide (n / 128 = 0) = true ∧ ((n % 128 : Nat) : Int) = 128) ∨ 2097151 < ((n / 128 : Nat) : Int)) := by omega
  have c2 : ¬ (128 : Int) ≤ ((n % 128 : Nat) : Int) := by omega
  have c3 : ((n / 128 : Nat) : Int) * 128 + ((n % 128 : Nat) : Int) % 128 = (n : Int) := by omega
  rw [if_neg c1, if_neg c2, c3, if_neg (by omega)]
  simp; omega
/-- What is put is got, whatever stands behind. -/
theorem idGet_put {cls tag : Int} {cons : Bool} (h : idOk cls tag = true) (r : List Int) : idGet (idPut cls tag cons ++ r) = (cls, tag, cons, (idPut cls tag cons).length, 0) := by
  obtain ⟨h0, h1, h2, h3⟩ := idOk_iff.1 h
  unfold idPut
  rw [List.cons_append, idGet]
  by_cases ht : tag < 31
  · have e1 : first cls tag cons % 32 = tag := by unfold first; rw [if_pos ht]; cases cons <;> simp <;> omega
    have e2 : first cls tag cons / 64 = cls := by unfold first; rw [if_pos ht]; cases cons <;> simp <;> omega
    have e3 : decide (first cls tag cons / 32 % 2 = 1) = cons := by unfold first; rw [if_pos ht]; cases cons <;> simp <;> omega
    rw [e1, e2, e3, if_neg (by omega), if_pos ht]; rfl
  · have e1 : first cls tag cons % 32 = 31 := by unfold first; rw [if_neg ht]; cases cons <;> simp <;> omega
    have e2 : first cls tag cons / 64 = cls := by unfold first; rw [if_neg ht]; cases cons <;> simp <;> omega
    have e3 : decide (first cls tag cons / 32 % 2 = 1) = cons := by unfold first; rw [if_neg ht]; cases cons <;> simp <;> omega
    rw [e1, e2, e3, if_pos rfl, if_neg ht, getG_gB _ (by omega) (by omega), if_pos rfl, List.length_cons, show ((tag.toNat : Nat) : Int) = tag by omega]
/-- A beginning of groups is cut off, at its end. -/
theorem getG_cut (f : Bool) (t : Int) (l : List Int) (h : (getG f t l).2.2 = 0) (k : Nat) (hk : k < (getG f t l).2.1) : getG f t (l.take k) = (0, k, 2) := by
  induction l generalizing f t k with
  | nil => simp [getG] at h
  | cons x r ih =>
    rw [getG] at h hk
    split at h
    · simp at h
    · rename_i c1
      rw [if_neg c1] at hk
      split at h
      · rename_i c2
        rw [if_pos c2] at hk
        cases k with
        | zero => rfl
        | succ k =>
          rw [List.take_succ_cons, getG, if_neg c1, if_pos c2, ih _ _ h k (by simpa using hk)]
      · rename_i c2
        rw [if_neg c2] at hk
        split at h
        · simp at h
        · rename_i c3
          rw [if_neg c3] at hk
          have : k = 0 := by simpa using hk
          subst this; rfl
theorem idGet_cut {cls tag : Int} {cons : Bool} (h : idOk cls tag = true) (k : Nat) (hk : k < (idPut cls tag cons).length) : idGet ((idPut cls tag cons).take k) = (0, 0, false, k, 2) := by
  obtain ⟨h0, h1, h2, h3⟩ := idOk_iff.1 h
  cases k with
  | zero => rfl
  | succ k =>
    unfold idPut at hk ⊢
    rw [List.take_succ_cons, idGet]
    by_cases ht : tag < 31
    · rw [if_pos ht] at hk; simp at hk
    · have e1 : first cls tag cons % 32 = 31 := by unfold first; rw [if_neg ht]; cases cons <;> simp <;> omega
      have hg := getG_gB tag.toNat (by omega) (by omega) []
      rw [List.append_nil] at hg
      rw [if_neg ht] at hk ⊢
      rw [e1, if_pos rfl, getG_cut true 0 (gB tag.toNat) (by rw [hg]) k (by rw [hg]; simpa using hk)]
      rfl
/-- What is got is put as it was. -/
theorem getG_put (f : Bool) (t : Nat) (hf : f = decide (t = 0)) (l : List Int) (hl : IsB l) (h : (getG f t l).2.2 = 0) :
    ∃ n : Nat, (getG f t l).1 = (n : Int) ∧ 31 ≤ n ∧ n ≤ 268435455 ∧ 1 ≤ (getG f t l).2.1 ∧ hiG t ++ l.take (getG f t l).2.1 = gB n := by
  induction l generalizing f t with
  | nil => simp [getG] at h
  | cons x r ih =>
    have hx := hl.head
    rw [getG] at h ⊢
    split at h
    · simp at h
    · rename_i c1
      rw [if_neg c1]
      have ct : t ≤ 2097151 := by omega
      split at h
      · rename_i c2
        rw [if_pos c2]
        have e : (t : Int) * 128 + x % 128 = ((t * 128 + (x % 128).toNat : Nat) : Int) := by omega
        have hne : t * 128 + (x % 128).toNat ≠ 0 := by
          intro h0
          apply c1
          left
          subst hf
          refine ⟨by rw [decide_eq_true_iff]; omega, by omega⟩
        rw [e] at h ⊢
        obtain ⟨n, h1, h2, h3, h4, h5⟩ := ih false _ (by simpa using hne) hl.tail h
        refine ⟨n, h1, h2, h3, by show 1 ≤ _ + 1; omega, ?_⟩
        rw [← h5, hiG_pos hne, List.take_succ_cons, show (t * 128 + (x % 128).toNat) / 128 = t by omega, show ((128 + (t * 128 + (x % 128).toNat) % 128 : Nat) : Int) = x by omega]
        simp
      · rename_i c2
        rw [if_neg c2]
        split at h
        · simp at h
        · rename_i c3
          rw [if_neg c3]
          refine ⟨(t * 128 + x % 128).toNat, by simp; omega, by omega, by omega, by simp, ?_⟩
          rw [gB, show (t * 128 + x % 128).toNat / 128 = t by omega, show (((t * 128 + x % 128).toNat % 128 : Nat) : Int) = x by omega]
          simp
theorem idGet_one (l : List Int) (hl : IsB l) (h : (idGet l).2.2.2.2 = 0) :
    idOk (idGet l).1 (idGet l).2.1 = true ∧ 1 ≤ (idGet l).2.2.2.1 ∧ (idGet l).2.2.2.1 ≤ l.length ∧ idPut (idGet l).1 (idGet l).2.1 (idGet l).2.2.1 = l.take (idGet l).2.2.2.1 := by
  cases l with
  | nil => simp [idGet] at h
  | cons x r =>
    have hx := hl.head
    have hd : (if decide (x / 32 % 2 = 1) = true then (32 : Int) else 0) = x / 32 % 2 * 32 := by
      by_cases hq : x / 32 % 2 = 1
      · rw [if_pos (by simpa using hq)]; omega
      · rw [if_neg (by simpa using hq)]; omega
    rw [idGet] at h ⊢
    by_cases c1 : x % 32 = 31
    · rw [if_pos c1] at h ⊢
      by_cases c2 : (getG true 0 r).2.2 = 0
      · rw [if_pos c2]
        obtain ⟨n, h1, h2, h3, h4, h5⟩ := getG_put true 0 rfl r hl.tail c2
        have h6 := getG_le true 0 r
        have h1' : (getG true 0 r).1 = (n : Int) := h1
        have h5' : hiG 0 ++ r.take (getG true 0 r).2.1 = gB n := h5
        rw [hiG_zero, List.nil_append] at h5'
        refine ⟨by rw [idOk_iff]; simp only [h1']; omega, by simp, by simp; omega, ?_⟩
        show idPut (x / 64) (getG true 0 r).1 (decide (x / 32 % 2 = 1)) = (x :: r).take ((getG true 0 r).2.1 + 1)
        rw [h1', idPut, first, if_neg (show ¬ (n : Int) < 31 by omega), if_neg (show ¬ (n : Int) < 31 by omega), hd, List.take_succ_cons, h5', Int.toNat_natCast]
        congr 1; omega
      · rw [if_neg c2] at h; exact absurd h c2
    · rw [if_neg c1]
      refine ⟨by rw [idOk_iff]; simp only []; omega, by simp, by simp, ?_⟩
      show idPut (x / 64) (x % 32) (decide (x / 32 % 2 = 1)) = (x :: r).take 1
      rw [idPut, first, if_pos (show x % 32 < 31 by omega), if_pos (show x % 32 < 31 by omega), hd, List.take_succ_cons, List.take_zero]
      congr 1; omega
theorem idGet_bad (l : List Int) (h : (idGet l).2.2.2.2 ≠ 0) : (idGet l).1 = 0 ∧ (idGet l).2.1 = 0 ∧ (idGet l).2.2.1 = false := by
  cases l with
  | nil => exact ⟨rfl, rfl, rfl⟩
  | cons x r =>
    rw [idGet] at h ⊢
    split at h
    · rename_i c
      rw [if_pos c]
      split at h
      · exact absurd rfl h
      · rename_i c2
        rw [if_neg c2]; exact ⟨rfl, rfl, rfl⟩
    · exact absurd rfl h
theorem idGet_le (l : List Int) : (idGet l).2.2.2.1 ≤ l.length := by
  cases l with
  | nil => simp [idGet]
  | cons x r =>
    have := getG_le true 0 r
    rw [idGet]
    split
    · split
      · show _ + 1 ≤ _; simp; omega
      · show _ + 1 ≤ _; simp; omega
    · simp
theorem idGet_bd (l : List Int) (hl : IsB l) : 0 ≤ (idGet l).1 ∧ (idGet l).1 ≤ 3 ∧ 0 ≤ (idGet l).2.1 ∧ (idGet l).2.1 ≤ 268435455 := by
  by_cases h : (idGet l).2.2.2.2 = 0
  · have := idOk_iff.1 (idGet_one l hl h).1; exact this
  · obtain ⟨h1, h2, _⟩ := idGet_bad l h
    rw [h1, h2]; decide
end Go.Proofs.Ytjdkpdaekmogkaa
