/- Identifiers, in plain words: bytes that are put, and what stands at the head of bytes. They hold of numbers alone, under no condition on the program. -/
import Derived.Test.YtiiimhamfibdbaaB0
import Derived.Lib.Strings
import Derived.Laws.Cover1
namespace Go.Proofs.Ytiiimhamfibdbaa
open Go.PlainAid
set_option linter.unusedVariables false
def loG (n : Nat) : List Int := if n = 0 then [] else ((128 + n % 128 : Nat) : Int) :: loG (n / 128)
 termination_by n
 decreasing_by omega
theorem loG_zero : loG 0 = [] := by rw [loG]; simp
theorem loG_pos {n : Nat} (h : n ≠ 0) : loG n = ((128 + n % 128 : Nat) : Int) :: loG (n / 128) := by rw [loG, if_neg h]
def hiG (n : Nat) : List Int := (loG n).reverse
theorem hiG_zero : hiG 0 = [] := by rw [hiG, loG_zero]; rfl
theorem hiG_pos {n : Nat} (h : n ≠ 0) : hiG n = hiG (n / 128) ++ [((128 + n % 128 : Nat) : Int)] := by rw [hiG, loG_pos h, List.reverse_cons]; rfl
def gB (n : Nat) : List Int := hiG (n / 128) ++ [((n % 128 : Nat) : Int)]
theorem loG_le (n k : Nat) (h : n < 128 ^ k) : (loG n).length ≤ k := by
 induction k generalizing n with
 |zero => simp at h; subst h; rw [loG_zero]; simp
 |succ k ih =>
  by_cases h0 : n = 0
  ·subst h0; rw [loG_zero]; simp
  ·rw [loG_pos h0, List.length_cons]
   have := ih (n / 128) (by rw [Nat.pow_succ] at h; omega)
   omega
theorem gB_length (n : Nat) : (gB n).length = (loG (n / 128)).length + 1 := by simp [gB, hiG]
theorem gB_le (n : Nat) (h : n ≤ 268435455) : (gB n).length ≤ 4 := by rw [gB_length]; have := loG_le (n / 128) 3 (by simp; omega); omega
def first (cls tag : Int) (cons : Bool) : Int := 64 * cls + (if cons then 32 else 0) + (if tag < 31 then tag else 31)
def idPut (cls tag : Int) (cons : Bool) : List Int := first cls tag cons :: (if tag < 31 then [] else gB tag.toNat)
def idOk (cls tag : Int) : Bool := decide (0 ≤ cls) && decide (cls ≤ 3) && decide (0 ≤ tag) && decide (tag ≤ 268435455)
theorem idOk_iff {cls tag : Int} : idOk cls tag = true ↔ 0 ≤ cls ∧ cls ≤ 3 ∧ 0 ≤ tag ∧ tag ≤ 268435455 := by simp [idOk, and_assoc]
theorem idPut_length {cls tag : Int} {cons : Bool} (h : idOk cls tag = true) : 1 ≤ (idPut cls tag cons).length ∧ (idPut cls tag cons).length ≤ 5 := by
 obtain ⟨h0, h1, h2, h3⟩ := idOk_iff.1 h
 unfold idPut
 split
 ·simp
 ·have := gB_le tag.toNat (by omega); simp; omega

def getG (f : Bool) (t : Int) : List Int → Int × Nat × Int
 |[] => (0, 0, 2)
 |x :: r =>
  if (f = true ∧ x = 128) ∨ 2097151 < t then (0, 0, 3)
  else if 128 ≤ x then ((getG false (t * 128 + x % 128) r).1, (getG false (t * 128 + x % 128) r).2.1 + 1, (getG false (t * 128 + x % 128) r).2.2)
  else if t * 128 + x % 128 < 31 then (0, 0, 3)
  else (t * 128 + x % 128, 1, 0)
def idGet : List Int → Int × Int × Bool × Nat × Int
  | [] => (0, 0, false, 0, 2)
  | x :: r =>
    if x % 32 = 31 then
      (if (getG true 0 r).2.2 = 0 then (x / 64, (getG true 0 r).1, decide (x / 32 % 2 = 1), (getG true 0 r).2.1 + 1, 0)
       else (0, 0, false, (getG true 0 r).2.1 + 1, (getG true 0 r).2.2))
    else (x / 64, x % 32, decide (x / 32 % 2 = 1), 1, 0)

theorem getG_le (f : Bool) (t : Int) (l : List Int) : (getG f t l).2.1 ≤ l.length := by
 induction l generalizing f t with
 |nil => simp [getG]
 |cons x r ih =>
  rw [getG]
  split
  ·simp
  ·split
   ·have := ih false (t * 128 + x % 128); simp; omega
   ·split <;> simp
theorem getG_put (f : Bool) (t : Nat) (hf : f = decide (t = 0)) (l : List Int) (hl : IsB l) (h : (getG f t l).2.2 = 0) :
  ∃ n : Nat, (getG f t l).1 = (n : Int) ∧ 31 ≤ n ∧ n ≤ 268435455 ∧ 1 ≤ (getG f t l).2.1 ∧ hiG t ++ l.take (getG f t l).2.1 = gB n := by
 induction l generalizing f t with
 |nil => simp [getG] at h
 |cons x r ih =>
  have hx := hl.head
  rw [getG] at h ⊢
  split at h
  ·simp at h
  ·rename_i c1
   rw [if_neg c1]
   have ct : t ≤ 2097151 := by omega
   split at h
   ·rename_i c2
    rw [if_pos c2]
    have e : (t : Int) * 128 + x % 128 = ((t * 128 + (x % 128).toNat : Nat) : Int) := by omega
    have hne : t * 128 + (x % 128).toNat ≠ 0 := by
     intro h0
     apply c1
     left
     subst hf
     refine ⟨by rw [decide_eq_true_iff]; omega, by omega⟩
    rw [e] at h ⊢
    obtain ⟨n, h1, h2, h3, h4, h5⟩ := ih false _ (by simpa using hne) hl.tail h
    refine ⟨n, h1, h2, h3, by show 1 ≤ _ + 1; omega, ?_⟩
    rw [← h5, hiG_pos hne, List.take_succ_cons, show (t * 128 + (x % 128).toNat) / 128 = t by omega, show ((128 + (t * 128 + (x % 128).toNat) % 128 : Nat) : Int) = x by omega]
    simp
   ·rename_i c2
    rw [if_neg c2]
    split at h
    ·simp at h
    ·rename_i c3
     rw [if_neg c3]
     refine ⟨(t * 128 + x % 128).toNat, by simp; omega, by omega, by omega, by simp, ?_⟩
     rw [gB, show (t * 128 + x % 128).toNat / 128 = t by omega, show (((t * 128 + x % 128).toNat % 128 : Nat) : Int) = x by omega]
     simp
theorem idGet_one (l : List Int) (hl : IsB l) (h : (idGet l).2.2.2.2 = 0) :
  idOk (idGet l).1 (idGet l).2.1 = true ∧ 1 ≤ (idGet l).2.2.2.1 ∧ (idGet l).2.2.2.1 ≤ l.length ∧ idPut (idGet l).1 (idGet l).2.1 (idGet l).2.2.1 = l.take (idGet l).2.2.2.1 := by
 cases l with
 |nil => simp [idGet] at h
 |cons x r =>
  have hx := hl.head
  have hd : (if decide (x / 32 % 2 = 1) = true then (32 : Int) else 0) = x / 32 % 2 * 32 := by
   by_cases hq : x / 32 % 2 = 1
   ·rw [if_pos (by simpa using hq)]; omega
   ·rw [if_neg (by simpa using hq)]; omega
  rw [idGet] at h ⊢
  by_cases c1 : x % 32 = 31
  ·rw [if_pos c1] at h ⊢
   by_cases c2 : (getG true 0 r).2.2 = 0
   ·rw [if_pos c2]
    obtain ⟨n, h1, h2, h3, h4, h5⟩ := getG_put true 0 rfl r hl.tail c2
    have h6 := getG_le true 0 r
    have h1' : (getG true 0 r).1 = (n : Int) := h1
    have h5' : hiG 0 ++ r.take (getG true 0 r).2.1 = gB n := h5
    rw [hiG_zero, List.nil_append] at h5'
    refine ⟨by rw [idOk_iff]; simp only [h1']; omega, by simp, by simp; omega, ?_⟩
    show idPut (x / 64) (getG true 0 r).1 (decide (x / 32 % 2 = 1)) = (x :: r).take ((getG true 0 r).2.1 + 1)
    rw [h1', idPut, first, if_neg (show ¬ (n : Int) < 31 by omega), if_neg (show ¬ (n : Int) < 31 by omega), hd, List.take_succ_cons, h5', Int.toNat_natCast]
    congr 1; omega
   ·rw [if_neg c2] at h; exact absurd h c2
  ·rw [if_neg c1]
   refine ⟨by rw [idOk_iff]; simp only []; omega, by simp, by simp, ?_⟩
   show idPut (x / 64) (x % 32) (decide (x / 32 % 2 = 1)) = (x :: r).take 1
   rw [idPut, first, if_pos (show x % 32 < 31 by omega), if_pos (show x % 32 < 31 by omega), hd, List.take_succ_cons, List.take_zero]
   congr 1; omega
theorem idGet_bad (l : List Int) (h : (idGet l).2.2.2.2 ≠ 0) : (idGet l).1 = 0 ∧ (idGet l).2.1 = 0 ∧ (idGet l).2.2.1 = false := by
 cases l with
 |nil => exact ⟨rfl, rfl, rfl⟩
 |cons x r =>
  rw [idGet] at h ⊢
  split at h
  ·rename_i c
   rw [if_pos c]
   split at h
   ·exact absurd rfl h
   ·rename_i c2
    rw [if_neg c2]; exact ⟨rfl, rfl, rfl⟩
  ·exact absurd rfl h
theorem idGet_le (l : List Int) : (idGet l).2.2.2.1 ≤ l.length := by
 cases l with
 |nil => simp [idGet]
 |cons x r =>
  have := getG_le true 0 r
  rw [idGet]
  split
  ·split
   ·show _ + 1 ≤ _; simp; omega
   ·show _ + 1 ≤ _; simp; omega
  ·simp
theorem idGet_bd (l : List Int) (hl : IsB l) : 0 ≤ (idGet l).1 ∧ (idGet l).1 ≤ 3 ∧ 0 ≤ (idGet l).2.1 ∧ (idGet l).2.1 ≤ 268435455 := by
 by_cases h : (idGet l).2.2.2.2 = 0
 ·have := idOk_iff.1 (idGet_one l hl h).1; exact this
 ·obtain ⟨h1, h2, _⟩ := idGet_bad l h
  rw [h1, h2]; decide
end Go.Proofs.Ytiiimhamfibdbaa
/- Lengths, in plain words: bytes that are put, and what stands at the head of bytes. They hold of numbers alone, under no condition on the program. -/
namespace Go.Proofs.Ytiiimhamfibdbaa
open Go.PlainAid
set_option linter.unusedVariables false
def loB (n : Nat) : List Int := if n = 0 then [] else ((n % 256 : Nat) : Int) :: loB (n / 256)
 termination_by n
 decreasing_by omega
theorem loB_zero : loB 0 = [] := by rw [loB]; simp
theorem loB_pos {n : Nat} (h : n ≠ 0) : loB n = ((n % 256 : Nat) : Int) :: loB (n / 256) := by rw [loB, if_neg h]
def hiB (n : Nat) : List Int := (loB n).reverse
theorem hiB_zero : hiB 0 = [] := by rw [hiB, loB_zero]; rfl
theorem hiB_pos {n : Nat} (h : n ≠ 0) : hiB n = hiB (n / 256) ++ [((n % 256 : Nat) : Int)] := by rw [hiB, loB_pos h, List.reverse_cons]; rfl
theorem hiB_len (n : Nat) : (hiB n).length = (loB n).length := by simp [hiB]
theorem loB_le (n k : Nat) (h : n < 256 ^ k) : (loB n).length ≤ k := by
 induction k generalizing n with
 |zero => simp at h; subst h; rw [loB_zero]; simp
 |succ k ih =>
  by_cases h0 : n = 0
  ·subst h0; rw [loB_zero]; simp
  ·rw [loB_pos h0, List.length_cons]
   have := ih (n / 256) (by rw [Nat.pow_succ] at h; omega)
   omega
def nB (n : Nat) : Nat := (loB n).length
def lenOk (n : Int) : Bool := decide (0 ≤ n) && decide (n ≤ 2305843009213693951)
theorem lenOk_iff {n : Int} : lenOk n = true ↔ 0 ≤ n ∧ n ≤ 2305843009213693951 := by simp [lenOk]
def lenPut (n : Int) : List Int := if n < 128 then [n] else (128 + (nB n.toNat : Int)) :: hiB n.toNat
def val : List Int → Int → Int
 |[], a => a
 |x :: r, a => val r (a * 256 + x)
theorem val_append (l m : List Int) (a : Int) : val (l ++ m) a = val m (val l a) := by
 induction l generalizing a with
 |nil => rfl
 |cons x r ih => exact ih _
theorem val_nonneg (l : List Int) (a : Int) (hl : IsB l) (ha : 0 ≤ a) : 0 ≤ val l a := by
 induction l generalizing a with
 |nil => exact ha
 |cons x r ih => exact ih _ hl.tail (by have := hl.head; omega)
theorem val_lt (l : List Int) (a : Nat) (hl : IsB l) : val l a < ((a + 1) * 256 ^ l.length : Nat) := by
 induction l generalizing a with
 |nil => show (a : Int) < _; simp; omega
 |cons x r ih =>
  have hx := hl.head
  have := ih (a * 256 + x.toNat) hl.tail
  rw [show ((a * 256 + x.toNat : Nat) : Int) = (a : Int) * 256 + x by omega] at this
  show val r _ < _
  refine Int.lt_of_lt_of_le this ?_
  rw [List.length_cons, Nat.pow_succ]
  have e : (a * 256 + x.toNat + 1) * 256 ^ r.length ≤ ((a + 1) * 256) * 256 ^ r.length := Nat.mul_le_mul_right _ (by omega)
  have e2 : (a + 1) * 256 * 256 ^ r.length = (a + 1) * (256 ^ r.length * 256) := by rw [Nat.mul_assoc, Nat.mul_comm 256]
  omega
theorem hiB_val (l : List Int) (a : Nat) (hl : IsB l) (h : a ≠ 0 ∨ ∃ x r, l = x :: r ∧ x ≠ 0) : hiB a ++ l = hiB (val l a).toNat := by
 induction l generalizing a with
 |nil =>
  simp [val]
 |cons x r ih =>
  have hx := hl.head
  have hne : a * 256 + x.toNat ≠ 0 := by
   rcases h with h | ⟨y, q, e, h⟩
   ·omega
   ·cases e; omega
  have := ih (a * 256 + x.toNat) hl.tail (.inl hne)
  rw [show ((a * 256 + x.toNat : Nat) : Int) = (a : Int) * 256 + x by omega] at this
  rw [show val (x :: r) (a : Int) = val r ((a : Int) * 256 + x) from rfl, ← this, hiB_pos hne, show (a * 256 + x.toNat) / 256 = a by omega, show (((a * 256 + x.toNat) % 256 : Nat) : Int) = x by omega]
  simp
def lenGet : List Int → Int × Nat × Int
 |[] => (0, 0, 2)
 |x :: r =>
  if x < 128 then (x, 1, 0)
  else if x = 128 ∨ 136 < x then (0, 0, 4)
  else if 0 < r.length ∧ (r.headD 0 = 0 ∨ (x = 129 ∧ r.headD 0 < 128)) then (0, 1, 4)
  else if (r.length : Int) < x - 128 then (0, 1 + r.length, 2)
  else if 2305843009213693951 < val (r.take (x - 128).toNat) 0 then (0, (x - 128).toNat, 4)
  else (val (r.take (x - 128).toNat) 0, 1 + (x - 128).toNat, 0)
theorem lenGet_cons (x : Int) (r : List Int) : lenGet (x :: r) =
  if x < 128 then (x, 1, 0)
  else if x = 128 ∨ 136 < x then (0, 0, 4)
  else if 0 < r.length ∧ (r.headD 0 = 0 ∨ (x = 129 ∧ r.headD 0 < 128)) then (0, 1, 4)
  else if (r.length : Int) < x - 128 then (0, 1 + r.length, 2)
  else if 2305843009213693951 < val (r.take (x - 128).toNat) 0 then (0, (x - 128).toNat, 4)
  else (val (r.take (x - 128).toNat) 0, 1 + (x - 128).toNat, 0) := rfl
theorem lenGet_bad (l : List Int) (h : (lenGet l).2.2 ≠ 0) : (lenGet l).1 = 0 := by
 cases l with
 |nil => rfl
 |cons x r =>
  revert h
  rw [lenGet_cons]
  repeat' split
  all_goals simp
theorem lenGet_le (l : List Int) (hl : IsB l) : (lenGet l).2.1 ≤ l.length := by
 cases l with
 |nil => simp [lenGet]
 |cons x r =>
  rw [lenGet_cons]
  repeat' split
  all_goals simp
  all_goals omega
theorem lenGet_bd (l : List Int) (hl : IsB l) : 0 ≤ (lenGet l).1 ∧ (lenGet l).1 ≤ 2305843009213693951 := by
 cases l with
 |nil => simp [lenGet]
 |cons x r =>
  have hx := hl.head
  have hv := val_nonneg (r.take (x - 128).toNat) 0 (hl.tail.take _) (by decide)
  rw [lenGet_cons]
  repeat' split
  all_goals simp
  all_goals omega
theorem lenGet_one (l : List Int) (hl : IsB l) (h : (lenGet l).2.2 = 0) : lenOk (lenGet l).1 = true ∧ 1 ≤ (lenGet l).2.1 ∧ (lenGet l).2.1 ≤ l.length ∧ lenPut (lenGet l).1 = l.take (lenGet l).2.1 := by
 refine ⟨lenOk_iff.2 (lenGet_bd l hl), ?_, lenGet_le l hl, ?_⟩
 ·cases l with
  |nil => simp [lenGet] at h
  |cons x r =>
   revert h
   rw [lenGet_cons]
   repeat' split
   all_goals simp
 ·cases l with
  |nil => simp [lenGet] at h
  |cons x r =>
   have hx := hl.head
   rw [lenGet_cons] at h ⊢
   by_cases c1 : x < 128
   ·rw [if_pos c1]; show lenPut x = _; unfold lenPut; rw [if_pos c1]; rfl
   ·rw [if_neg c1] at h ⊢
    by_cases c2 : x = 128 ∨ 136 < x
    ·rw [if_pos c2] at h; simp at h
    ·rw [if_neg c2] at h ⊢
     by_cases c3 : 0 < r.length ∧ (r.headD 0 = 0 ∨ (x = 129 ∧ r.headD 0 < 128))
     ·rw [if_pos c3] at h; simp at h
     ·rw [if_neg c3] at h ⊢
      by_cases c4 : (r.length : Int) < x - 128
      ·rw [if_pos c4] at h; simp at h
      ·rw [if_neg c4] at h ⊢
       by_cases c5 : 2305843009213693951 < val (r.take (x - 128).toNat) 0
       ·rw [if_pos c5] at h; simp at h
       ·rw [if_neg c5]
        show lenPut (val (r.take (x - 128).toNat) 0) = (x :: r).take (1 + (x - 128).toNat)
        cases r with
        |nil => simp at c4; omega
        |cons y q =>
         obtain ⟨c, hc⟩ : ∃ c, (x - 128).toNat = c + 1 := ⟨(x - 128).toNat - 1, by omega⟩
         rw [hc] at c5 ⊢
         have hy := hl.tail.head
         have hy0 : y ≠ 0 := by intro h0; apply c3; exact ⟨by simp, .inl (by simpa using h0)⟩
         have ht : IsB ((y :: q).take (c + 1)) := hl.tail.take _
         have hlt : ((y :: q).take (c + 1)).length = c + 1 := by rw [List.length_take]; simp at c4 ⊢; omega
         have hv := hiB_val ((y :: q).take (c + 1)) 0 ht (.inr ⟨y, q.take c, by rw [List.take_succ_cons], hy0⟩)
         rw [hiB_zero, List.nil_append] at hv
         have hv' : (y :: q).take (c + 1) = hiB (val ((y :: q).take (c + 1)) 0).toNat := hv
         generalize hV : val ((y :: q).take (c + 1)) 0 = V at *
         have hV0 : 0 ≤ V := by rw [← hV]; exact val_nonneg _ _ ht (by decide)
         have hnb : nB V.toNat = c + 1 := by
          have := congrArg List.length hv'
          rw [hlt, hiB_len] at this
          exact this.symm
         have hV128 : ¬ V < 128 := by
          intro hlt2
          have h256 : V.toNat < 256 ^ 1 := by omega
          have := loB_le V.toNat 1 h256
          have hc0 : c = 0 := by unfold nB at hnb; omega
          subst hc0
          have e : V = y := by rw [← hV]; simp [val]
          apply c3
          exact ⟨by simp, .inr ⟨by omega, by simp; omega⟩⟩
         unfold lenPut
         rw [if_neg hV128, hnb, ← hv', Nat.add_comm 1, List.take_succ_cons]
         congr 1
         omega
/-! ### Order -/
end Go.Proofs.Ytiiimhamfibdbaa
/- Heads, in plain words: an identifier and a length, put, got, and pushed byte by byte. They hold of numbers alone, under no condition on the program. -/
namespace Go.Proofs.Ytiiimhamfibdbaa
open Go.PlainAid
set_option linter.unusedVariables false
def hdOk (c t n : Int) : Bool := idOk c t && lenOk n
theorem hdOk_iff {c t n : Int} : hdOk c t n = true ↔ idOk c t = true ∧ lenOk n = true := by simp [hdOk]
def hdPut (c t : Int) (k : Bool) (n : Int) : List Int := idPut c t k ++ lenPut n
def hdGet (l : List Int) : Int × Int × Bool × Int × Nat × Int :=
  if (idGet l).2.2.2.2 = 0 then
    (if (lenGet (l.drop (idGet l).2.2.2.1)).2.2 = 0 then
      ((idGet l).1, (idGet l).2.1, (idGet l).2.2.1, (lenGet (l.drop (idGet l).2.2.2.1)).1, (idGet l).2.2.2.1 + (lenGet (l.drop (idGet l).2.2.2.1)).2.1, 0)
     else (0, 0, false, 0, (idGet l).2.2.2.1 + (lenGet (l.drop (idGet l).2.2.2.1)).2.1, (lenGet (l.drop (idGet l).2.2.2.1)).2.2))
  else (0, 0, false, 0, (idGet l).2.2.2.1, (idGet l).2.2.2.2)
theorem hdGet_id {l : List Int} {c t : Int} {k : Bool} {n : Nat} {e : Int} (h : idGet l = (c, t, k, n, e)) (he : e ≠ 0) : hdGet l = (0, 0, false, 0, n, e) := by
 unfold hdGet; rw [h]; exact if_neg he
theorem hdGet_len {l : List Int} {c t : Int} {k : Bool} {n : Nat} {v : Int} {m : Nat} {e : Int} (h : idGet l = (c, t, k, n, 0)) (h2 : lenGet (l.drop n) = (v, m, e)) (he : e ≠ 0) : hdGet l = (0, 0, false, 0, n + m, e) := by
 unfold hdGet; rw [h]; show (if (0 : Int) = 0 then _ else _) = _; rw [if_pos rfl]; show (if (lenGet (l.drop n)).2.2 = 0 then _ else _) = _; rw [h2]; exact if_neg he
theorem hdGet_ok {l : List Int} {c t : Int} {k : Bool} {n : Nat} {v : Int} {m : Nat} (h : idGet l = (c, t, k, n, 0)) (h2 : lenGet (l.drop n) = (v, m, 0)) : hdGet l = (c, t, k, v, n + m, 0) := by
 unfold hdGet; rw [h]; show (if (0 : Int) = 0 then _ else _) = _; rw [if_pos rfl]; show (if (lenGet (l.drop n)).2.2 = 0 then _ else _) = _; rw [h2]; exact if_pos rfl
theorem hdGet_cases (l : List Int) : (∃ c t k n e, idGet l = (c, t, k, n, e) ∧ e ≠ 0) ∨ (∃ c t k n v m e, idGet l = (c, t, k, n, 0) ∧ lenGet (l.drop n) = (v, m, e) ∧ e ≠ 0) ∨ (∃ c t k n v m, idGet l = (c, t, k, n, 0) ∧ lenGet (l.drop n) = (v, m, 0)) := by
 obtain ⟨c, t, k, n, e, h⟩ : ∃ c t k n e, idGet l = (c, t, k, n, e) := ⟨_, _, _, _, _, rfl⟩
 by_cases he : e = 0
 ·subst he
  obtain ⟨v, m, e, h2⟩ : ∃ v m e, lenGet (l.drop n) = (v, m, e) := ⟨_, _, _, rfl⟩
  by_cases he : e = 0
  ·subst he; exact .inr (.inr ⟨c, t, k, n, v, m, h, h2⟩)
  ·exact .inr (.inl ⟨c, t, k, n, v, m, e, h, h2, he⟩)
 ·exact .inl ⟨c, t, k, n, e, h, he⟩
theorem hdGet_le (l : List Int) (hl : IsB l) : (hdGet l).2.2.2.2.1 ≤ l.length := by
 have h0 := idGet_le l
 rcases hdGet_cases l with ⟨c, t, k, n, e, h, he⟩ | ⟨c, t, k, n, v, m, e, h, h2, he⟩ | ⟨c, t, k, n, v, m, h, h2⟩
 ·rw [hdGet_id h he]; rw [h] at h0; exact h0
 ·rw [hdGet_len h h2 he]; rw [h] at h0
  have := lenGet_le (l.drop n) (hl.drop n)
  rw [h2, List.length_drop] at this
  show n + m ≤ _; simp only at h0 this; omega
 ·rw [hdGet_ok h h2]; rw [h] at h0
  have := lenGet_le (l.drop n) (hl.drop n)
  rw [h2, List.length_drop] at this
  show n + m ≤ _; simp only at h0 this; omega
theorem hdGet_bad (l : List Int) (h0 : (hdGet l).2.2.2.2.2 ≠ 0) : (hdGet l).1 = 0 ∧ (hdGet l).2.1 = 0 ∧ (hdGet l).2.2.1 = false ∧ (hdGet l).2.2.2.1 = 0 := by
 rcases hdGet_cases l with ⟨c, t, k, n, e, h, he⟩ | ⟨c, t, k, n, v, m, e, h, h2, he⟩ | ⟨c, t, k, n, v, m, h, h2⟩
 ·rw [hdGet_id h he]; exact ⟨rfl, rfl, rfl, rfl⟩
 ·rw [hdGet_len h h2 he]; exact ⟨rfl, rfl, rfl, rfl⟩
 ·rw [hdGet_ok h h2] at h0; exact absurd rfl h0
theorem hdGet_bd (l : List Int) (hl : IsB l) : 0 ≤ (hdGet l).1 ∧ (hdGet l).1 ≤ 3 ∧ 0 ≤ (hdGet l).2.1 ∧ (hdGet l).2.1 ≤ 268435455 ∧ 0 ≤ (hdGet l).2.2.2.1 ∧ (hdGet l).2.2.2.1 ≤ 2305843009213693951 := by
 by_cases h0 : (hdGet l).2.2.2.2.2 ≠ 0
 ·obtain ⟨h1, h2, _, h3⟩ := hdGet_bad l h0
  rw [h1, h2, h3]; decide
 ·rcases hdGet_cases l with ⟨c, t, k, n, e, h, he⟩ | ⟨c, t, k, n, v, m, e, h, h2, he⟩ | ⟨c, t, k, n, v, m, h, h2⟩
  ·rw [hdGet_id h he] at h0; exact absurd he h0
  ·rw [hdGet_len h h2 he] at h0; exact absurd he h0
  ·rw [hdGet_ok h h2]
   have a := idGet_bd l hl
   have b := lenGet_bd (l.drop n) (hl.drop n)
   rw [h] at a; rw [h2] at b
   simp only at a b
   exact ⟨a.1, a.2.1, a.2.2.1, a.2.2.2, b.1, b.2⟩
theorem hdGet_one (l : List Int) (hl : IsB l) (h0 : (hdGet l).2.2.2.2.2 = 0) :
  hdOk (hdGet l).1 (hdGet l).2.1 (hdGet l).2.2.2.1 = true ∧ 2 ≤ (hdGet l).2.2.2.2.1 ∧ (hdGet l).2.2.2.2.1 ≤ l.length ∧ hdPut (hdGet l).1 (hdGet l).2.1 (hdGet l).2.2.1 (hdGet l).2.2.2.1 = l.take (hdGet l).2.2.2.2.1 := by
 have hle := hdGet_le l hl
 rcases hdGet_cases l with ⟨c, t, k, n, e, h, he⟩ | ⟨c, t, k, n, v, m, e, h, h2, he⟩ | ⟨c, t, k, n, v, m, h, h2⟩
 ·rw [hdGet_id h he] at h0; exact absurd h0 he
 ·rw [hdGet_len h h2 he] at h0; exact absurd h0 he
 ·rw [hdGet_ok h h2] at hle ⊢
  obtain ⟨a1, a2, a3, a4⟩ := idGet_one l hl (by rw [h])
  obtain ⟨b1, b2, b3, b4⟩ := lenGet_one (l.drop n) (hl.drop n) (by rw [h2])
  rw [h] at a1 a2 a3 a4
  rw [h2] at b1 b2 b3 b4
  simp only at a1 a2 a3 a4 b1 b2 b3 b4 hle
  refine ⟨hdOk_iff.2 ⟨a1, b1⟩, by show 2 ≤ n + m; omega, hle, ?_⟩
  show hdPut c t k v = l.take (n + m)
  rw [hdPut, a4, b4, List.take_add]
structure HS where
 came : List Int
 over : Int
end Go.Proofs.Ytiiimhamfibdbaa
/- Events, in plain words: a machine that takes an element byte by byte, and what the document's reference says of the whole text; they are one. They hold of numbers alone, under no condition on the program. -/
namespace Go.Proofs.Ytiiimhamfibdbaa
open Go.PlainAid
set_option linter.unusedVariables false
structure Ev where
 k : Int
 at_ : Int
 c : Int
 t : Int
 f : Bool
 n : Int
 b : Int
def evEnter (p : Nat) (c t : Int) (f : Bool) (n : Int) : Ev := ⟨1, p, c, t, f, n, 0⟩
def evLeaf (p : Nat) (c t : Int) (f : Bool) (n : Int) : Ev := ⟨2, p, c, t, f, n, 0⟩
def evByte (p : Nat) (x : Int) : Ev := ⟨3, p, 0, 0, false, 0, x⟩
def evEnd (p : Nat) : Ev := ⟨4, p, 0, 0, false, 0, 0⟩
def evExit (p : Nat) : Ev := ⟨5, p, 0, 0, false, 0, 0⟩
def pays : List Int → Int → List Int
 |[], _ => []
 |x :: r, n => (x - n) :: r
def popS : List Int → List Int
 |[] => []
 |x :: r => if x = 0 then popS r else x :: r
def popE : List Int → Nat → List Ev
 |[], _ => []
 |x :: r, p => if x = 0 then evExit p :: popE r p else []
theorem pays_zero (l : List Int) : pays l 0 = l := by cases l <;> simp [pays]
theorem pays_pays (l : List Int) (a b : Int) : pays (pays l a) b = pays l (a + b) := by cases l <;> simp [pays]; omega
theorem pays_length (l : List Int) (a : Int) : (pays l a).length = l.length := by cases l <;> rfl
structure EM where
 st : List Int
 hd : List Int
 leaf : Int
 at_ : Nat
 done : Bool
 over : Int
def EM.fin (st : List Int) (p : Nat) : EM := ⟨popS st, [], 0, p, (popS st).isEmpty, 0⟩
def headE (most : Nat) (st : List Int) (f : Bool) (n : Int) : Int :=
 match st with
 |[] => if f = true ∧ most ≤ 0 then 10 else 0
 |y :: r => if y < n then 5 else if f = true ∧ most ≤ (y :: r).length then 10 else 0
def headL (st : List Int) (p : Nat) (c t : Int) (f : Bool) (n : Int) : List Ev :=
 if f = true then evEnter p c t f n :: popE (n :: pays st n) p
 else if n = 0 then evLeaf p c t f n :: evEnd p :: popE st p
 else [evLeaf p c t f n]
def headM (st : List Int) (p : Nat) (f : Bool) (n : Int) : EM :=
 if f = true then EM.fin (n :: pays st n) (p + 1)
 else if n = 0 then EM.fin st (p + 1)
 else ⟨pays st n, [], n, p + 1, false, 0⟩
def EM.step (most : Nat) (m : EM) (x : Int) : Int × List Ev × EM :=
  if m.over ≠ 0 then (m.over, [], m)
  else if m.done = true then (6, [], { m with over := 6 })
  else if 0 < m.leaf then
    (if m.leaf = 1 then (0, evByte m.at_ x :: evEnd m.at_ :: popE m.st m.at_, EM.fin m.st (m.at_ + 1))
     else (0, [evByte m.at_ x], { m with leaf := m.leaf - 1, at_ := m.at_ + 1 }))
  else if m.st.head? = some 0 then (5, [], { m with over := 5 })
  else if (hdGet (m.hd ++ [x])).2.2.2.2.2 = 2 then (0, [], { m with st := pays m.st 1, hd := m.hd ++ [x], at_ := m.at_ + 1 })
  else if (hdGet (m.hd ++ [x])).2.2.2.2.2 ≠ 0 then ((hdGet (m.hd ++ [x])).2.2.2.2.2, [], { m with over := (hdGet (m.hd ++ [x])).2.2.2.2.2 })
  else if headE most (pays m.st 1) (hdGet (m.hd ++ [x])).2.2.1 (hdGet (m.hd ++ [x])).2.2.2.1 ≠ 0 then
    (headE most (pays m.st 1) (hdGet (m.hd ++ [x])).2.2.1 (hdGet (m.hd ++ [x])).2.2.2.1, [], { m with over := headE most (pays m.st 1) (hdGet (m.hd ++ [x])).2.2.1 (hdGet (m.hd ++ [x])).2.2.2.1 })
  else (0, headL (pays m.st 1) m.at_ (hdGet (m.hd ++ [x])).1 (hdGet (m.hd ++ [x])).2.1 (hdGet (m.hd ++ [x])).2.2.1 (hdGet (m.hd ++ [x])).2.2.2.1, headM (pays m.st 1) m.at_ (hdGet (m.hd ++ [x])).2.2.1 (hdGet (m.hd ++ [x])).2.2.2.1)
def EM.run (most : Nat) : EM → List Int → List Ev → List Ev × Int × Nat
 |m, [], acc => (acc, if m.done = true then 0 else 2, m.at_)
 |m, x :: r, acc => if (m.step most x).1 ≠ 0 then (acc, (m.step most x).1, m.at_) else EM.run most (m.step most x).2.2 r (acc ++ (m.step most x).2.1)
def EM.new : EM := ⟨[], [], 0, 0, false, 0⟩
def evWhole (most : Nat) (l : List Int) : List Ev × Int × Nat := EM.run most EM.new l []
/-! ### The reference's element, by definition -/
def startL (hd : List Int) : List Int → Nat → Int → (Int × Int × Bool × Int) × Nat × Int
 |[], i, _ => ((0, 0, false, 0), i, 2)
 |x :: r, i, e =>
  if (i : Int) = e then ((0, 0, false, 0), i, 5)
  else if (hdGet (hd ++ [x])).2.2.2.2.2 = 0 then (((hdGet (hd ++ [x])).1, (hdGet (hd ++ [x])).2.1, (hdGet (hd ++ [x])).2.2.1, (hdGet (hd ++ [x])).2.2.2.1), i, 0)
  else if (hdGet (hd ++ [x])).2.2.2.2.2 ≠ 2 then ((0, 0, false, 0), i, (hdGet (hd ++ [x])).2.2.2.2.2)
  else startL (hd ++ [x]) r (i + 1) e
def bytesE : List Int → Nat → List Ev
 |[], _ => []
 |x :: r, i => evByte i x :: bytesE r (i + 1)
structure Told where
 l : List Ev
 e : Int
 at_ : Nat
def leafP (b : List Int) (p : Nat) (n : Int) : Told :=
 if n = 0 then ⟨[evEnd (p - 1)], 0, p⟩
 else if ((b.drop p).length : Int) < n then ⟨bytesE (b.drop p) p, 2, b.length⟩
 else ⟨bytesE ((b.drop p).take n.toNat) p ++ [evEnd (p + n.toNat - 1)], 0, p + n.toNat⟩
def loopP (el : Nat → Told) : Nat → Told → Int → Told
 |0, t, _ => t
 |g + 1, t, e => if (t.at_ : Int) < e then (if (el t.at_).e ≠ 0 then ⟨t.l ++ (el t.at_).l, (el t.at_).e, (el t.at_).at_⟩ else loopP el g ⟨t.l ++ (el t.at_).l, 0, (el t.at_).at_⟩ e) else t
def elemP (b : List Int) : Nat → Nat → Int → Told
 |d, i, e =>
  let s := startL [] (b.drop i) i e
  if s.2.2 ≠ 0 then ⟨[], s.2.2, s.2.1⟩
  else if 0 ≤ e ∧ e - (s.2.1 + 1 : Nat) < s.1.2.2.2 then ⟨[], 5, s.2.1⟩
  else if s.1.2.2.1 = false then ⟨evLeaf s.2.1 s.1.1 s.1.2.1 s.1.2.2.1 s.1.2.2.2 :: (leafP b (s.2.1 + 1) s.1.2.2.2).l, (leafP b (s.2.1 + 1) s.1.2.2.2).e, (leafP b (s.2.1 + 1) s.1.2.2.2).at_⟩
  else match d with
   |0 => ⟨[], 10, s.2.1⟩
   |d + 1 =>
    let t := loopP (fun i => elemP b d i ((s.2.1 + 1 : Nat) + s.1.2.2.2)) (b.length + 1) ⟨[evEnter s.2.1 s.1.1 s.1.2.1 s.1.2.2.1 s.1.2.2.2], 0, s.2.1 + 1⟩ ((s.2.1 + 1 : Nat) + s.1.2.2.2)
    if t.e ≠ 0 then t else ⟨t.l ++ [evExit (t.at_ - 1)], 0, t.at_⟩
/-! ### They are one -/
def EndAt (st : List Int) (i : Nat) (e : Int) : Prop := (st = [] ∧ e = -1) ∨ ∃ y q, st = y :: q ∧ 0 ≤ y ∧ e = i + y
theorem EndAt.step {st : List Int} {i : Nat} {e : Int} (h : EndAt st i e) (hne : (i : Int) ≠ e) : EndAt (pays st 1) (i + 1) e := by
 rcases h with ⟨rfl, rfl⟩ | ⟨y, q, rfl, h0, rfl⟩
 ·exact .inl ⟨rfl, rfl⟩
 ·exact .inr ⟨y - 1, q, rfl, by omega, by omega⟩
theorem head_run (most : Nat) (r : List Int) : ∀ (st hd : List Int) (i : Nat) (e : Int) (acc : List Ev), EndAt st i e →
  ((startL hd r i e).2.2 ≠ 0 → EM.run most ⟨st, hd, 0, i, false, 0⟩ r acc = (acc, (startL hd r i e).2.2, (startL hd r i e).2.1)) ∧
  ((startL hd r i e).2.2 = 0 → ∃ k, (startL hd r i e).2.1 = i + k ∧ k < r.length ∧ EndAt (pays st ((k : Int) + 1)) (i + k + 1) e ∧
   ∃ g, hdGet (hd ++ r.take (k + 1)) = ((startL hd r i e).1.1, (startL hd r i e).1.2.1, (startL hd r i e).1.2.2.1, (startL hd r i e).1.2.2.2, g, 0) ∧
   EM.run most ⟨st, hd, 0, i, false, 0⟩ r acc =
    if headE most (pays st ((k : Int) + 1)) (startL hd r i e).1.2.2.1 (startL hd r i e).1.2.2.2 ≠ 0 then (acc, headE most (pays st ((k : Int) + 1)) (startL hd r i e).1.2.2.1 (startL hd r i e).1.2.2.2, i + k)
    else EM.run most (headM (pays st ((k : Int) + 1)) (i + k) (startL hd r i e).1.2.2.1 (startL hd r i e).1.2.2.2) (r.drop (k + 1)) (acc ++ headL (pays st ((k : Int) + 1)) (i + k) (startL hd r i e).1.1 (startL hd r i e).1.2.1 (startL hd r i e).1.2.2.1 (startL hd r i e).1.2.2.2)) := by
 induction r with
 |nil =>
  intro st hd i e acc he
  refine ⟨fun _ => rfl, fun h => absurd h (by simp [startL])⟩
 |cons x r ih =>
  intro st hd i e acc he
  by_cases h5 : (i : Int) = e
  ·have hs : startL hd (x :: r) i e = ((0, 0, false, 0), i, 5) := by rw [startL, if_pos h5]
   have h0 : st.head? = some 0 := by
    rcases he with ⟨rfl, h⟩ | ⟨y, q, rfl, h0, h⟩
    ·omega
    ·have : y = 0 := by omega
     subst this; rfl
   rw [hs]
   refine ⟨fun _ => ?_, fun h => absurd h (by simp)⟩
   have hst : EM.step most ⟨st, hd, 0, i, false, 0⟩ x = (5, [], ⟨st, hd, 0, i, false, 5⟩) := by
    unfold EM.step
    rw [if_neg (by simp), if_neg (by simp), if_neg (by simp), if_pos h0]
   rw [EM.run, hst]; rfl
  ·have hn0 : st.head? ≠ some 0 := by
    rcases he with ⟨rfl, h⟩ | ⟨y, q, rfl, h0, h⟩
    ·simp
    ·simp; omega
   by_cases g2 : (hdGet (hd ++ [x])).2.2.2.2.2 = 2
   ·have hs : startL hd (x :: r) i e = startL (hd ++ [x]) r (i + 1) e := by
     rw [startL, if_neg h5, if_neg (by rw [g2]; decide), if_neg (by rw [g2]; decide)]
    have hst : EM.step most ⟨st, hd, 0, i, false, 0⟩ x = (0, [], ⟨pays st 1, hd ++ [x], 0, i + 1, false, 0⟩) := by
     unfold EM.step
     rw [if_neg (by simp), if_neg (by simp), if_neg (by simp), if_neg hn0, if_pos g2]
    have hrun : EM.run most ⟨st, hd, 0, i, false, 0⟩ (x :: r) acc = EM.run most ⟨pays st 1, hd ++ [x], 0, i + 1, false, 0⟩ r acc := by
     rw [EM.run, hst, if_neg (by simp)]
     simp
    rw [hs, hrun]
    obtain ⟨i1, i2⟩ := ih (pays st 1) (hd ++ [x]) (i + 1) e acc (he.step h5)
    refine ⟨i1, fun h => ?_⟩
    obtain ⟨k, k1, k2, k3, g, k4, k5⟩ := i2 h
    refine ⟨k + 1, by omega, by simp; omega, ?_, g, ?_, ?_⟩
    ·rw [pays_pays, show (1 : Int) + ((k : Int) + 1) = (((k + 1 : Nat) : Int) + 1) by omega, show i + 1 + k + 1 = i + (k + 1) + 1 by omega] at k3
     exact k3
    ·rw [List.take_succ_cons, ← k4, List.append_assoc]; rfl
    ·rw [k5, pays_pays, show (1 : Int) + ((k : Int) + 1) = (((k + 1 : Nat) : Int) + 1) by omega, show i + 1 + k = i + (k + 1) by omega, List.drop_succ_cons]
   ·by_cases g0 : (hdGet (hd ++ [x])).2.2.2.2.2 = 0
    ·have hs : startL hd (x :: r) i e = (((hdGet (hd ++ [x])).1, (hdGet (hd ++ [x])).2.1, (hdGet (hd ++ [x])).2.2.1, (hdGet (hd ++ [x])).2.2.2.1), i, 0) := by
      rw [startL, if_neg h5, if_pos g0]
     rw [hs]
     refine ⟨fun h => absurd rfl h, fun _ => ⟨0, rfl, by simp, ?_, (hdGet (hd ++ [x])).2.2.2.2.1, ?_, ?_⟩⟩
     ·exact he.step h5
     ·show hdGet (hd ++ [x]) = _
      rw [← g0]
     ·have hst : EM.step most ⟨st, hd, 0, i, false, 0⟩ x = if headE most (pays st 1) (hdGet (hd ++ [x])).2.2.1 (hdGet (hd ++ [x])).2.2.2.1 ≠ 0 then
        (headE most (pays st 1) (hdGet (hd ++ [x])).2.2.1 (hdGet (hd ++ [x])).2.2.2.1, [], ⟨st, hd, 0, i, false, headE most (pays st 1) (hdGet (hd ++ [x])).2.2.1 (hdGet (hd ++ [x])).2.2.2.1⟩)
        else (0, headL (pays st 1) i (hdGet (hd ++ [x])).1 (hdGet (hd ++ [x])).2.1 (hdGet (hd ++ [x])).2.2.1 (hdGet (hd ++ [x])).2.2.2.1, headM (pays st 1) i (hdGet (hd ++ [x])).2.2.1 (hdGet (hd ++ [x])).2.2.2.1) := by
       unfold EM.step
       rw [if_neg (by simp), if_neg (by simp), if_neg (by simp), if_neg hn0, if_neg g2, if_neg (by rw [g0]; simp)]
      by_cases hE : headE most (pays st 1) (hdGet (hd ++ [x])).2.2.1 (hdGet (hd ++ [x])).2.2.2.1 = 0
      ·rw [if_neg (by simpa using hE)] at hst
       rw [EM.run, hst]
       show (if (0 : Int) ≠ 0 then _ else _) = if headE most (pays st 1) (hdGet (hd ++ [x])).2.2.1 (hdGet (hd ++ [x])).2.2.2.1 ≠ 0 then _ else _
       rw [if_neg (by simp), if_neg (by simpa using hE)]; rfl
      ·rw [if_pos hE] at hst
       rw [EM.run, hst]
       show (if headE most (pays st 1) (hdGet (hd ++ [x])).2.2.1 (hdGet (hd ++ [x])).2.2.2.1 ≠ 0 then _ else _) = if headE most (pays st 1) (hdGet (hd ++ [x])).2.2.1 (hdGet (hd ++ [x])).2.2.2.1 ≠ 0 then _ else _
       rw [if_pos hE, if_pos hE]; rfl
    ·have hs : startL hd (x :: r) i e = ((0, 0, false, 0), i, (hdGet (hd ++ [x])).2.2.2.2.2) := by
      rw [startL, if_neg h5, if_neg g0, if_pos g2]
     rw [hs]
     refine ⟨fun _ => ?_, fun h => absurd h g0⟩
     have hst : EM.step most ⟨st, hd, 0, i, false, 0⟩ x = ((hdGet (hd ++ [x])).2.2.2.2.2, [], ⟨st, hd, 0, i, false, (hdGet (hd ++ [x])).2.2.2.2.2⟩) := by
      unfold EM.step
      rw [if_neg (by simp), if_neg (by simp), if_neg (by simp), if_neg hn0, if_neg g2, if_pos g0]
     rw [EM.run, hst, if_pos g0]
theorem leaf_run (most : Nat) (st : List Int) : ∀ (n : Nat) (r : List Int) (i : Nat) (acc : List Ev),
  EM.run most ⟨st, [], (n : Int) + 1, i, false, 0⟩ r acc =
   if r.length < n + 1 then (acc ++ bytesE r i, 2, i + r.length)
   else EM.run most (EM.fin st (i + n + 1)) (r.drop (n + 1)) (acc ++ bytesE (r.take (n + 1)) i ++ evEnd (i + n) :: popE st (i + n)) := by
 intro n
 induction n with
 |zero =>
  intro r i acc
  cases r with
  |nil => simp [EM.run, bytesE]
  |cons x r =>
   rw [EM.run]
   have hst : EM.step most ⟨st, [], ((0 : Nat) : Int) + 1, i, false, 0⟩ x = (0, evByte i x :: evEnd i :: popE st i, EM.fin st (i + 1)) := by
    unfold EM.step
    rw [if_neg (by simp), if_neg (by simp), if_pos (by simp), if_pos (by simp)]
   rw [hst, if_neg (by simp), if_neg (by simp)]
   simp [bytesE]
 |succ n ih =>
  intro r i acc
  cases r with
  |nil => simp [EM.run, bytesE]
  |cons x r =>
   rw [EM.run]
   have hst : EM.step most ⟨st, [], ((n + 1 : Nat) : Int) + 1, i, false, 0⟩ x = (0, [evByte i x], ⟨st, [], (n : Int) + 1, i + 1, false, 0⟩) := by
    unfold EM.step
    rw [if_neg (by simp), if_neg (by simp), if_pos (by show (0 : Int) < ((n + 1 : Nat) : Int) + 1; omega), if_neg (by show ¬ ((n + 1 : Nat) : Int) + 1 = 1; omega)]
    show (_, _, EM.mk st [] (((n + 1 : Nat) : Int) + 1 - 1) (i + 1) false 0) = _
    rw [show ((n + 1 : Nat) : Int) + 1 - 1 = (n : Int) + 1 by omega]
   rw [hst, if_neg (by simp)]
   show EM.run most ⟨st, [], (n : Int) + 1, i + 1, false, 0⟩ r (acc ++ [evByte i x]) = _
   rw [ih]
   by_cases h : r.length < n + 1
   ·rw [if_pos h, if_pos (by simp; omega)]
    simp [bytesE]; omega
   ·rw [if_neg h, if_neg (by simp; omega)]
    rw [List.drop_succ_cons, List.take_succ_cons, show i + 1 + n + 1 = i + (n + 1) + 1 by omega, show i + 1 + n = i + (n + 1) by omega]
    simp [bytesE]
theorem fin_pos {y : Int} {q : List Int} {p : Nat} (h : y ≠ 0) : EM.fin (y :: q) p = ⟨y :: q, [], 0, p, false, 0⟩ := by
 unfold EM.fin popS
 rw [if_neg h]; rfl
theorem fin_zero (q : List Int) (p : Nat) : EM.fin (0 :: q) p = EM.fin q p := by
 unfold EM.fin
 rw [show popS (0 :: q) = popS q by rw [popS, if_pos rfl]]
theorem popE_pos {y : Int} {q : List Int} {p : Nat} (h : y ≠ 0) : popE (y :: q) p = [] := by rw [popE, if_neg h]
theorem popE_zero (q : List Int) (p : Nat) : popE (0 :: q) p = evExit p :: popE q p := by rw [popE, if_pos rfl]
theorem EndAt.pay {st : List Int} {i : Nat} {e : Int} (h : EndAt st i e) (n : Nat) (hn : st = [] ∨ (i : Int) + n ≤ e) : EndAt (pays st (n : Int)) (i + n) e := by
 rcases h with ⟨rfl, rfl⟩ | ⟨y, q, rfl, h0, rfl⟩
 ·exact .inl ⟨rfl, rfl⟩
 ·rcases hn with h | h
  ·cases h
  ·exact .inr ⟨y - n, q, rfl, by omega, by omega⟩
def ElemRun (b : List Int) (d : Nat) : Prop := ∀ (st : List Int) (i : Nat) (e : Int) (acc : List Ev), EndAt st i e → i ≤ b.length →
 ((elemP b d i e).e ≠ 0 → EM.run (st.length + d) ⟨st, [], 0, i, false, 0⟩ (b.drop i) acc = (acc ++ (elemP b d i e).l, (elemP b d i e).e, (elemP b d i e).at_)) ∧
 ((elemP b d i e).e = 0 → ∃ k : Nat, (elemP b d i e).at_ = i + k ∧ 0 < k ∧ i + k ≤ b.length ∧ EndAt (pays st (k : Int)) (i + k) e ∧
  EM.run (st.length + d) ⟨st, [], 0, i, false, 0⟩ (b.drop i) acc = EM.run (st.length + d) (EM.fin (pays st (k : Int)) (i + k)) (b.drop (i + k)) (acc ++ (elemP b d i e).l ++ popE (pays st (k : Int)) (i + k - 1)))
theorem loop_run {b : List Int} {d : Nat} (H : ElemRun b d) (st : List Int) (E : Nat) (acc : List Ev) : ∀ (g : Nat) (t : Told), t.e = 0 → t.at_ ≤ E → t.at_ ≤ b.length → b.length + 1 - t.at_ ≤ g →
  ((loopP (fun i => elemP b d i E) g t E).e ≠ 0 → EM.run (st.length + 1 + d) (EM.fin (((E : Int) - t.at_) :: st) t.at_) (b.drop t.at_) (acc ++ t.l ++ popE (((E : Int) - t.at_) :: st) (t.at_ - 1)) = (acc ++ (loopP (fun i => elemP b d i E) g t E).l, (loopP (fun i => elemP b d i E) g t E).e, (loopP (fun i => elemP b d i E) g t E).at_)) ∧
  ((loopP (fun i => elemP b d i E) g t E).e = 0 → (loopP (fun i => elemP b d i E) g t E).at_ = E ∧ E ≤ b.length ∧
   EM.run (st.length + 1 + d) (EM.fin (((E : Int) - t.at_) :: st) t.at_) (b.drop t.at_) (acc ++ t.l ++ popE (((E : Int) - t.at_) :: st) (t.at_ - 1)) = EM.run (st.length + 1 + d) (EM.fin (0 :: st) E) (b.drop E) (acc ++ (loopP (fun i => elemP b d i E) g t E).l ++ popE (0 :: st) (E - 1))) := by
 intro g
 induction g with
 |zero => intro t h0 h1 h2 h3; omega
 |succ g ih =>
  intro t h0 h1 h2 h3
  by_cases hlt : (t.at_ : Int) < E
  ·have hne : ((E : Int) - t.at_) ≠ 0 := by omega
   rw [fin_pos hne, popE_pos hne, List.append_nil]
   obtain ⟨H1, H2⟩ := H (((E : Int) - t.at_) :: st) t.at_ E (acc ++ t.l) (.inr ⟨_, st, rfl, by omega, by omega⟩) h2
   rw [List.length_cons] at H1 H2
   by_cases he : (elemP b d t.at_ E).e = 0
   ·obtain ⟨k, k1, k2, k3, k4, k5⟩ := H2 he
    have hl : loopP (fun i => elemP b d i E) (g + 1) t E = loopP (fun i => elemP b d i E) g ⟨t.l ++ (elemP b d t.at_ E).l, 0, (elemP b d t.at_ E).at_⟩ E := by
     rw [loopP, if_pos hlt, if_neg (by simpa using he)]
    rw [hl, k5, k1]
    have hE : t.at_ + k ≤ E := by
     rcases k4 with ⟨h, _⟩ | ⟨y, q, h, hy, he2⟩
     ·simp [pays] at h
     ·omega
    have hp : pays (((E : Int) - t.at_) :: st) (k : Int) = ((E : Int) - ((t.at_ + k : Nat) : Int)) :: st := by
     show ((E : Int) - t.at_ - k) :: st = _
     congr 1; omega
    rw [hp]
    have := ih ⟨t.l ++ (elemP b d t.at_ E).l, 0, t.at_ + k⟩ rfl hE k3 (by show b.length + 1 - (t.at_ + k) ≤ g; omega)
    simp only [List.append_assoc] at this ⊢
    exact this
   ·have hl : loopP (fun i => elemP b d i E) (g + 1) t E = ⟨t.l ++ (elemP b d t.at_ E).l, (elemP b d t.at_ E).e, (elemP b d t.at_ E).at_⟩ := by
     rw [loopP, if_pos hlt, if_pos he]
    rw [hl]
    refine ⟨fun _ => ?_, fun h => absurd h he⟩
    rw [H1 he, List.append_assoc]
  ·have ht : t.at_ = E := by omega
   have hl : loopP (fun i => elemP b d i E) (g + 1) t E = t := by rw [loopP, if_neg hlt]
   rw [hl]
   refine ⟨fun h => absurd h0 h, fun _ => ⟨ht, by omega, ?_⟩⟩
   rw [ht, Int.sub_self]
theorem headE_fit {most : Nat} {st : List Int} {i : Nat} {e n : Int} {f : Bool} (h : EndAt st i e) (hf : 0 ≤ e ∧ e - i < n) : headE most st f n = 5 := by
 rcases h with ⟨rfl, rfl⟩ | ⟨y, q, rfl, h0, rfl⟩
 ·omega
 ·unfold headE
  show (if y < n then (5 : Int) else _) = 5
  rw [if_pos (by omega)]
theorem headE_in {most : Nat} {st : List Int} {i : Nat} {e n : Int} {f : Bool} (h : EndAt st i e) (hf : ¬ (0 ≤ e ∧ e - i < n)) : headE most st f n = if f = true ∧ most ≤ st.length then 10 else 0 := by
 rcases h with ⟨rfl, rfl⟩ | ⟨y, q, rfl, h0, rfl⟩
 ·rfl
 ·unfold headE
  show (if y < n then (5 : Int) else _) = _
  rw [if_neg (by omega)]
theorem fits {st : List Int} {i : Nat} {e n : Int} (h : EndAt st i e) (hf : ¬ (0 ≤ e ∧ e - i < n)) : st = [] ∨ (i : Int) + n ≤ e := by
 rcases h with ⟨rfl, rfl⟩ | ⟨y, q, rfl, h0, rfl⟩
 ·exact .inl rfl
 ·right; omega
section
variable {b : List Int} {i : Nat} {e : Int} {c t : Int} {f : Bool} {n : Int} {p : Nat} {er : Int}
theorem elemP_err (d : Nat) (hs : startL [] (b.drop i) i e = ((c, t, f, n), p, er)) (h : er ≠ 0) : elemP b d i e = ⟨[], er, p⟩ := by
 cases d <;> rw [elemP] <;> rw [hs] <;> exact if_pos h
theorem elemP_fit (d : Nat) (hs : startL [] (b.drop i) i e = ((c, t, f, n), p, 0)) (h : 0 ≤ e ∧ e - ((p + 1 : Nat) : Int) < n) : elemP b d i e = ⟨[], 5, p⟩ := by
 cases d <;> rw [elemP] <;> rw [hs] <;> exact (if_neg (fun h => h rfl)).trans (if_pos h)
theorem elemP_leaf (d : Nat) (hs : startL [] (b.drop i) i e = ((c, t, false, n), p, 0)) (h : ¬ (0 ≤ e ∧ e - ((p + 1 : Nat) : Int) < n)) : elemP b d i e = ⟨evLeaf p c t false n :: (leafP b (p + 1) n).l, (leafP b (p + 1) n).e, (leafP b (p + 1) n).at_⟩ := by
 cases d <;> rw [elemP] <;> rw [hs] <;> exact (if_neg (fun h => h rfl)).trans ((if_neg h).trans (if_pos rfl))
theorem elemP_deep (hs : startL [] (b.drop i) i e = ((c, t, true, n), p, 0)) (h : ¬ (0 ≤ e ∧ e - ((p + 1 : Nat) : Int) < n)) : elemP b 0 i e = ⟨[], 10, p⟩ := by
 rw [elemP, hs]; exact (if_neg (fun h => h rfl)).trans ((if_neg h).trans (if_neg (by simp)))
theorem elemP_open (d : Nat) (hs : startL [] (b.drop i) i e = ((c, t, true, n), p, 0)) (h : ¬ (0 ≤ e ∧ e - ((p + 1 : Nat) : Int) < n)) : elemP b (d + 1) i e =
  if (loopP (fun i => elemP b d i (((p + 1 : Nat) : Int) + n)) (b.length + 1) ⟨[evEnter p c t true n], 0, p + 1⟩ (((p + 1 : Nat) : Int) + n)).e ≠ 0 then loopP (fun i => elemP b d i (((p + 1 : Nat) : Int) + n)) (b.length + 1) ⟨[evEnter p c t true n], 0, p + 1⟩ (((p + 1 : Nat) : Int) + n)
  else ⟨(loopP (fun i => elemP b d i (((p + 1 : Nat) : Int) + n)) (b.length + 1) ⟨[evEnter p c t true n], 0, p + 1⟩ (((p + 1 : Nat) : Int) + n)).l ++ [evExit ((loopP (fun i => elemP b d i (((p + 1 : Nat) : Int) + n)) (b.length + 1) ⟨[evEnter p c t true n], 0, p + 1⟩ (((p + 1 : Nat) : Int) + n)).at_ - 1)], 0, (loopP (fun i => elemP b d i (((p + 1 : Nat) : Int) + n)) (b.length + 1) ⟨[evEnter p c t true n], 0, p + 1⟩ (((p + 1 : Nat) : Int) + n)).at_⟩ := by
 rw [elemP, hs]; exact (if_neg (fun h => h rfl)).trans ((if_neg h).trans (if_neg (by simp)))
end
theorem elem_step (b : List Int) (hb : IsB b) (d : Nat) (H : d ≠ 0 → ElemRun b (d - 1)) : ElemRun b d := by
 intro st i e acc he hi
 obtain ⟨A1, A2⟩ := head_run (st.length + d) (b.drop i) st [] i e acc he
 obtain ⟨c, t, f, n, p, er, hs⟩ : ∃ c t f n p er, startL [] (b.drop i) i e = ((c, t, f, n), p, er) := ⟨_, _, _, _, _, _, rfl⟩
 rw [hs] at A1 A2
 simp only at A1 A2
 by_cases h0 : er = 0
 ·subst h0
  obtain ⟨k, hp, hk, hend, g, hg, hrun⟩ := A2 rfl
  subst hp
  have hbd := hdGet_bd ((b.drop i).take (k + 1)) ((hb.drop i).take _)
  rw [List.nil_append] at hg
  rw [hg] at hbd
  obtain ⟨_, _, _, _, hn0, hn1⟩ := hbd
  simp only at hn0 hn1
  obtain ⟨m, rfl⟩ := Int.eq_ofNat_of_zero_le hn0
  rw [List.length_drop] at hk
  have hdd : (b.drop i).drop (k + 1) = b.drop (i + k + 1) := by rw [List.drop_drop, Nat.add_assoc]
  have hk1 : ((k : Int) + 1) = ((k + 1 : Nat) : Int) := by omega
  by_cases hfit : 0 ≤ e ∧ e - ((i + k + 1 : Nat) : Int) < (m : Int)
  ·rw [elemP_fit d hs hfit]
   refine ⟨fun _ => ?_, fun h => absurd h (by simp)⟩
   rw [hrun, headE_fit hend hfit, if_pos (by decide)]
   simp
  ·have hE := headE_in (most := st.length + d) (f := f) hend hfit
   have hft := fits hend hfit
   cases f with
   |false =>
    have hel := elemP_leaf d hs hfit
    rw [if_neg (by simp)] at hE
    rw [hE, if_neg (by simp), hdd] at hrun
    by_cases hm : (m : Int) = 0
    ·have hleaf : leafP b (i + k + 1) (m : Int) = ⟨[evEnd (i + k)], 0, i + k + 1⟩ := by unfold leafP; rw [if_pos hm]; rfl
     rw [hleaf] at hel
     rw [hel]
     refine ⟨fun h => absurd rfl h, fun _ => ⟨k + 1, rfl, by omega, by omega, by rw [← hk1]; exact hend, ?_⟩⟩
     rw [hrun]
     unfold headM headL
     rw [if_neg (by simp), if_pos hm, if_neg (by simp), if_pos hm, hk1]
     simp [Nat.add_assoc]
    ·obtain ⟨m', rfl⟩ : ∃ m', m = m' + 1 := ⟨m - 1, by omega⟩
     have hM : headM (pays st ((k : Int) + 1)) (i + k) false ((m' + 1 : Nat) : Int) = ⟨pays (pays st ((k : Int) + 1)) ((m' + 1 : Nat) : Int), [], (m' : Int) + 1, i + k + 1, false, 0⟩ := by
      unfold headM
      rw [if_neg (by simp), if_neg hm]; congr 1
     have hL : headL (pays st ((k : Int) + 1)) (i + k) c t false ((m' + 1 : Nat) : Int) = [evLeaf (i + k) c t false ((m' + 1 : Nat) : Int)] := by
      unfold headL
      rw [if_neg (by simp), if_neg hm]
     rw [hM, hL, leaf_run] at hrun
     have hdl : (b.drop (i + k + 1)).length = b.length - (i + k + 1) := List.length_drop
     have hbl : i + k + 1 + (b.length - (i + k + 1)) = b.length := by omega
     by_cases hlen : (b.drop (i + k + 1)).length < m' + 1
     ·rw [if_pos hlen] at hrun
      have hleaf : leafP b (i + k + 1) ((m' + 1 : Nat) : Int) = ⟨bytesE (b.drop (i + k + 1)) (i + k + 1), 2, b.length⟩ := by unfold leafP; rw [if_neg hm, if_pos (by omega)]
      rw [hleaf] at hel
      rw [hel]
      refine ⟨fun _ => ?_, fun h => absurd h (by simp)⟩
      rw [hrun, hdl, hbl]
      simp
     ·rw [if_neg hlen] at hrun
      have hleaf : leafP b (i + k + 1) ((m' + 1 : Nat) : Int) = ⟨bytesE ((b.drop (i + k + 1)).take (m' + 1)) (i + k + 1) ++ [evEnd (i + k + 1 + m')], 0, i + k + 1 + (m' + 1)⟩ := by
       unfold leafP; rw [if_neg hm, if_neg (by omega), Int.toNat_natCast]; rfl
      rw [hleaf] at hel
      rw [hel]
      have hpp : pays (pays st ((k : Int) + 1)) ((m' + 1 : Nat) : Int) = pays st ((k + 1 + (m' + 1) : Nat) : Int) := by rw [pays_pays]; congr 1 <;> omega
      refine ⟨fun h => absurd rfl h, fun _ => ⟨k + 1 + (m' + 1), by show i + k + 1 + (m' + 1) = _; omega, by omega, by omega, ?_, ?_⟩⟩
      ·have := hend.pay (m' + 1) (by
        rcases hft with h | h
        ·exact .inl h
        ·right; omega)
       rw [hpp, show i + k + 1 + (m' + 1) = i + (k + 1 + (m' + 1)) by omega] at this
       exact this
      ·rw [hrun, hpp, List.drop_drop, show i + k + 1 + m' + 1 = i + (k + 1 + (m' + 1)) by omega, show i + k + 1 + (m' + 1) = i + (k + 1 + (m' + 1)) by omega, show i + (k + 1 + (m' + 1)) - 1 = i + k + 1 + m' by omega]
       simp
   |true =>
    cases d with
    |zero =>
     rw [if_pos ⟨rfl, by rw [pays_length]; omega⟩] at hE
     rw [elemP_deep hs hfit]
     refine ⟨fun _ => ?_, fun h => absurd h (by simp)⟩
     rw [hrun, hE, if_pos (by decide)]
     simp
    |succ d =>
     rw [if_neg (by rw [pays_length]; omega)] at hE
     have hM : headM (pays st ((k : Int) + 1)) (i + k) true (m : Int) = EM.fin ((m : Int) :: pays (pays st ((k : Int) + 1)) (m : Int)) (i + k + 1) := by unfold headM; rw [if_pos rfl]
     have hL : headL (pays st ((k : Int) + 1)) (i + k) c t true (m : Int) = evEnter (i + k) c t true (m : Int) :: popE ((m : Int) :: pays (pays st ((k : Int) + 1)) (m : Int)) (i + k) := by unfold headL; rw [if_pos rfl]
     rw [hE, if_neg (by simp), hdd, hM, hL] at hrun
     have hpp : pays (pays st ((k : Int) + 1)) (m : Int) = pays st ((k + 1 + m : Nat) : Int) := by rw [pays_pays]; congr 1 <;> omega
     have hEn : ((i + k + 1 : Nat) : Int) + (m : Int) = ((i + k + 1 + m : Nat) : Int) := by omega
     have hel := elemP_open d hs hfit
     rw [hEn] at hel
     have hlr := loop_run (H (by simp)) (pays st ((k + 1 + m : Nat) : Int)) (i + k + 1 + m) acc (b.length + 1) ⟨[evEnter (i + k) c t true (m : Int)], 0, i + k + 1⟩ rfl (by show i + k + 1 ≤ _; omega) (by show i + k + 1 ≤ _; omega) (by omega)
     rw [show d + 1 - 1 = d by omega, pays_length] at hlr
     generalize loopP (fun i_1 => elemP b d i_1 ((i + k + 1 + m : Nat) : Int)) (b.length + 1) ⟨[evEnter (i + k) c t true (m : Int)], 0, i + k + 1⟩ ((i + k + 1 + m : Nat) : Int) = T at hlr hel
     obtain ⟨L1, L2⟩ := hlr
     have hm1 : ((i + k + 1 + m : Nat) : Int) - ((i + k + 1 : Nat) : Int) = (m : Int) := by omega
     simp only at L1 L2
     rw [hm1] at L1 L2
     have hr2 : EM.run (st.length + (d + 1)) ⟨st, [], 0, i, false, 0⟩ (b.drop i) acc = EM.run (st.length + 1 + d) (EM.fin ((m : Int) :: pays st ((k + 1 + m : Nat) : Int)) (i + k + 1)) (b.drop (i + k + 1)) (acc ++ [evEnter (i + k) c t true (m : Int)] ++ popE ((m : Int) :: pays st ((k + 1 + m : Nat) : Int)) (i + k + 1 - 1)) := by
      rw [hrun, hpp, show st.length + (d + 1) = st.length + 1 + d by omega]
      simp
     by_cases hT : T.e = 0
     ·rw [if_neg (by simpa using hT)] at hel
      obtain ⟨q1, q2, q3⟩ := L2 hT
      rw [hel]
      refine ⟨fun h => absurd rfl h, fun _ => ⟨k + 1 + m, by rw [q1]; omega, by omega, by omega, ?_, ?_⟩⟩
      ·have := hend.pay m (by
        rcases hft with h | h
        ·exact .inl h
        ·right; omega)
       rw [hpp, show i + k + 1 + m = i + (k + 1 + m) by omega] at this
       exact this
      ·rw [hr2, q3, fin_zero, popE_zero, q1, show st.length + 1 + d = st.length + (d + 1) by omega, show i + k + 1 + m = i + (k + 1 + m) by omega]
       simp
     ·rw [if_pos hT] at hel
      rw [hel]
      refine ⟨fun _ => ?_, fun h => absurd h hT⟩
      rw [hr2, L1 hT]
 ·rw [elemP_err d hs h0]
  refine ⟨fun _ => ?_, fun h => absurd h h0⟩
  rw [A1 h0]; simp
theorem elem_run (b : List Int) (hb : IsB b) : ∀ d, ElemRun b d := by
 intro d
 induction d with
 |zero => exact elem_step b hb 0 (fun h => absurd h (by decide))
 |succ d ih => exact elem_step b hb (d + 1) (fun _ => ih)
theorem whole_is (b : List Int) (hb : IsB b) (most : Nat) :
  evWhole most b = ((elemP b most 0 (-1)).l, if (elemP b most 0 (-1)).e = 0 ∧ (elemP b most 0 (-1)).at_ < b.length then 6 else (elemP b most 0 (-1)).e, (elemP b most 0 (-1)).at_) := by
 obtain ⟨H1, H2⟩ := elem_run b hb most [] 0 (-1) [] (.inl ⟨rfl, rfl⟩) (Nat.zero_le _)
 rw [List.length_nil, Nat.zero_add, List.drop_zero] at H1 H2
 unfold evWhole EM.new
 by_cases he : (elemP b most 0 (-1)).e = 0
 ·obtain ⟨k, k1, k2, k3, k4, k5⟩ := H2 he
  rw [k5, k1]
  rw [Nat.zero_add] at k3 ⊢
  have hf : EM.fin (pays [] (k : Int)) k = ⟨[], [], 0, k, true, 0⟩ := rfl
  rw [hf, show popE (pays [] (k : Int)) (k - 1) = [] from rfl]
  by_cases hk : k = b.length
  ·rw [List.drop_of_length_le (by omega), if_neg (by omega), he]
   simp [EM.run]
  ·rw [if_pos ⟨he, by omega⟩]
   obtain ⟨x, r, hxr⟩ : ∃ x r, b.drop k = x :: r := by
    cases h : b.drop k with
    |nil => have := congrArg List.length h; rw [List.length_drop] at this; simp at this; omega
    |cons x r => exact ⟨x, r, rfl⟩
   rw [hxr, EM.run]
   have hst : EM.step most ⟨[], [], 0, k, true, 0⟩ x = (6, [], ⟨[], [], 0, k, true, 6⟩) := by
    unfold EM.step
    rw [if_neg (by simp), if_pos rfl]
   rw [hst, if_pos (show (6 : Int) ≠ 0 by decide)]
   simp
 ·rw [H1 he, if_neg (fun h => he h.1)]; simp
end Go.Proofs.Ytiiimhamfibdbaa
/- Contents of numbers, in plain words: with which byte one is wrong, what a state asks, a value's bytes and bytes' value. They hold of numbers alone, under no condition on the program. -/
namespace Go.Proofs.Ytiiimhamfibdbaa
open Go.PlainAid
set_option linter.unusedVariables false
/-! ### With which byte -/
def nW (tag n : Int) (k : Nat) (x y : Int) : Int :=
 if n < 0 then 0 else if tag = 5 then (if n = 0 then -1 else 0)
 else if tag = 1 then (if n = 1 then (if 0 < k ∧ x ≠ 0 ∧ x ≠ 255 then 1 else -1) else 0)
 else if tag = 2 ∨ tag = 10 then (if n = 0 then 0 else if 1 < k ∧ (x = 0 ∧ y < 128 ∨ x = 255 ∧ 127 < y) then 2 else -1)
 else -1
def nmOk (tag n : Int) : Bool := if tag = 2 ∨ tag = 10 then decide (1 ≤ n) else if tag = 1 then decide (n = 1) else if tag = 5 then decide (n = 0) else decide (0 ≤ n)
def nmFirst (tag : Int) : Int := if tag = 2 ∨ tag = 10 then 3 else if tag = 1 then 2 else if tag = 5 then 0 else 1
def nmSecond (b : Int) : Int := if b = 0 then 4 else if b = 255 then 5 else 1
def nmPush (s b : Int) : Int × Bool :=
 if s = 1 then (1, true) else if s = 2 then (0, decide (b = 0 ∨ b = 255)) else if s = 3 then (nmSecond b, true)
 else if s = 4 then (if 128 ≤ b then (1, true) else (0, false)) else if s = 5 then (if b < 128 then (1, true) else (0, false)) else (0, false)
def nmAt (tag x : Int) (i : Nat) : Int := if i = 0 then nmFirst tag else if tag = 2 ∨ tag = 10 then (if i = 1 then nmSecond x else 1) else if tag = 1 ∨ tag = 5 then 0 else 1
theorem nmOk_iff (tag n : Int) (k : Nat) (x y : Int) : nmOk tag n = true ↔ nW tag n k x y ≠ 0 := by
 unfold nmOk nW
 by_cases h1 : tag = 2 ∨ tag = 10
 ·have h2 : ¬ tag = 5 := by omega
  have h3 : ¬ tag = 1 := by omega
  rw [if_pos h1, if_neg h2, if_neg h3, if_pos h1]
  simp only [decide_eq_true_eq]
  repeat' split
  all_goals omega
 ·rw [if_neg h1]
  by_cases h3 : tag = 1
  ·have h2 : ¬ tag = 5 := by omega
   rw [if_pos h3, if_neg h2, if_pos h3]
   simp only [decide_eq_true_eq]
   repeat' split
   all_goals omega
  ·rw [if_neg h3, if_neg h3, if_neg h1]
   by_cases h2 : tag = 5
   ·rw [if_pos h2, if_pos h2]
    simp only [decide_eq_true_eq]
    repeat' split
    all_goals omega
   ·rw [if_neg h2, if_neg h2]
    simp only [decide_eq_true_eq]
    repeat' split
    all_goals omega
theorem nW_range (tag n : Int) (k : Nat) (x y : Int) : -1 ≤ nW tag n k x y ∧ nW tag n k x y ≤ 2 := by
 unfold nW
 repeat' split
 all_goals omega
theorem nW_len (tag n : Int) (k : Nat) (x y : Int) : nW tag n k x y ≤ k := by
 unfold nW
 repeat' split
 all_goals omega
theorem nm_step (tag n : Int) (k i : Nat) (x y z : Int) (hok : nmOk tag n = true) (hi : i < k) (hk : (k : Int) ≤ n)
  (hx : i = 0 → z = x) (hy : i = 1 → z = y) (h0 : ¬ (0 ≤ nW tag n k x y ∧ nW tag n k x y ≤ i)) :
  nmPush (nmAt tag x i) z = if nW tag n k x y = (i : Int) + 1 then (0, false) else (nmAt tag x (i + 1), true) := by
 unfold nmOk at hok
 by_cases h1 : tag = 2 ∨ tag = 10
 ·have h2 : ¬ tag = 5 := by omega
  have h3 : ¬ tag = 1 := by omega
  rw [if_pos h1] at hok
  have hok := of_decide_eq_true hok
  have hA : nmAt tag x (i + 1) = if i = 0 then nmSecond x else 1 := by
   unfold nmAt; rw [if_neg (by omega), if_pos h1]; by_cases h : i = 0 <;> simp [h]
  have hW : nW tag n k x y = if 1 < k ∧ (x = 0 ∧ y < 128 ∨ x = 255 ∧ 127 < y) then 2 else -1 := by
   unfold nW; rw [if_neg (by omega), if_neg h2, if_neg h3, if_pos h1, if_neg (by omega)]
  rw [hW] at h0 ⊢
  rw [hA]
  by_cases i0 : i = 0
  ·subst i0
   have hz := hx rfl
   subst hz
   have hB : nmAt tag z 0 = 3 := by unfold nmAt nmFirst; rw [if_pos rfl, if_pos h1]
   rw [hB, if_neg (by split <;> omega)]; rfl
  ·by_cases i1 : i = 1
   ·subst i1
    have hz := hy rfl
    subst hz
    have hB : nmAt tag x 1 = nmSecond x := by unfold nmAt; rw [if_neg (by decide), if_pos h1, if_pos rfl]
    rw [hB]
    unfold nmSecond nmPush
    by_cases x0 : x = 0
    ·rw [if_pos x0]
     simp
     by_cases hz : z < 128
     ·rw [if_neg (by omega), if_pos ⟨hi, by omega⟩]
     ·rw [if_pos (by omega), if_neg (by omega)]
    ·rw [if_neg x0]
     by_cases x5 : x = 255
     ·rw [if_pos x5]
      simp
      by_cases hz : z < 128
      ·rw [if_pos hz, if_neg (by omega)]
      ·rw [if_neg hz, if_pos ⟨hi, by omega⟩]
     ·rw [if_neg x5]
      simp
      omega
   ·have hB : nmAt tag x i = 1 := by unfold nmAt; rw [if_neg i0, if_pos h1, if_neg i1]
    rw [hB, if_neg i0, if_neg (by split <;> omega)]; rfl
 ·by_cases h3 : tag = 1
  ·have h2 : ¬ tag = 5 := by omega
   rw [if_neg h1, if_pos h3] at hok
   have hok := of_decide_eq_true hok
   have i0 : i = 0 := by omega
   subst i0
   have hz := hx rfl
   subst hz
   have hA : nmAt tag z 1 = 0 := by unfold nmAt; rw [if_neg (by decide), if_neg h1, if_pos (.inl h3)]
   have hB : nmAt tag z 0 = 2 := by unfold nmAt nmFirst; rw [if_pos rfl, if_neg h1, if_pos h3]
   have hW : nW tag n k z y = if 0 < k ∧ z ≠ 0 ∧ z ≠ 255 then 1 else -1 := by
    unfold nW; rw [if_neg (by omega), if_neg h2, if_pos h3, if_pos hok]
   rw [hW, hA, hB]
   unfold nmPush
   by_cases hz : z = 0 ∨ z = 255
   ·rw [if_neg (show ¬ (0 < k ∧ z ≠ 0 ∧ z ≠ 255) by omega)]
    simp [hz]
   ·rw [if_pos (show 0 < k ∧ z ≠ 0 ∧ z ≠ 255 by omega)]
    simp [hz]
  ·by_cases h2 : tag = 5
   ·rw [if_neg h1, if_neg h3, if_pos h2] at hok
    have hok := of_decide_eq_true hok
    omega
   ·have hA : ∀ j, nmAt tag x j = 1 := by
     intro j; unfold nmAt nmFirst; simp [h1, h2, h3]
    have hW : nW tag n k x y = -1 := by
     unfold nW; rw [if_neg (by omega), if_neg h2, if_neg h3, if_neg h1]
    rw [hA, hA, hW, if_neg (by omega)]; rfl
/-! ### Values -/
/-! ### What the laws want -/
end Go.Proofs.Ytiiimhamfibdbaa
/- Contents of object identifiers, in plain words: with which byte one is wrong, arcs' bytes and bytes' arcs. They hold of numbers alone, under no condition on the program. -/
namespace Go.Proofs.Ytiiimhamfibdbaa
open Go.PlainAid
set_option linter.unusedVariables false
/-! ### With which byte -/
def oW (n : Int) : Bool → Nat → List Int → Int
 |_, _, [] => -1
 |fresh, i, c :: r => if (c = 128 ∧ fresh = true) ∨ ((i : Int) = n - 1 ∧ 127 < c) then (i : Int) + 1 else oW n (decide (c < 128)) (i + 1) r
def oidWrong (n : Int) (l : List Int) : Int := if n < 1 then 0 else oW n true 0 l
theorem oW_cons (n : Int) (f : Bool) (i : Nat) (c : Int) (r : List Int) : oW n f i (c :: r) = if (c = 128 ∧ f = true) ∨ ((i : Int) = n - 1 ∧ 127 < c) then (i : Int) + 1 else oW n (decide (c < 128)) (i + 1) r := rfl
theorem oW_range (n : Int) (l : List Int) : ∀ (f : Bool) (i : Nat), oW n f i l = -1 ∨ ((i : Int) < oW n f i l ∧ oW n f i l ≤ i + l.length) := by
 induction l with
 |nil => intro f i; left; rfl
 |cons c r ih =>
  intro f i
  rw [oW_cons]
  split
  ·right; simp <;> omega
  ·rcases ih (decide (c < 128)) (i + 1) with h | ⟨h1, h2⟩
   ·left; exact h
   ·right; rw [List.length_cons]; omega
def oFresh (l : List Int) (i : Nat) : Bool := if i = 0 then true else decide (l.getD (i - 1) 0 < 128)
theorem oW_drop (n : Int) (l : List Int) (i : Nat) (hi : i ≤ l.length) (h : ¬ (0 ≤ oW n true 0 l ∧ oW n true 0 l ≤ i)) : oW n true 0 l = oW n (oFresh l i) i (l.drop i) := by
 induction i with
 |zero => rfl
 |succ i ih =>
  have hi' : i < l.length := by omega
  have e := ih (by omega) (by omega)
  rw [List.drop_eq_getElem_cons hi', oW_cons] at e
  have hf : oFresh l (i + 1) = decide (l[i] < 128) := by unfold oFresh; rw [if_neg (by omega), Nat.add_sub_cancel, List.getD_eq_getElem?_getD, List.getElem?_eq_getElem hi']; rfl
  rw [hf]
  split at e
  ·omega
  ·exact e
theorem oW_step (n : Int) (l : List Int) (i : Nat) (hi : i < l.length) (h : ¬ (0 ≤ oW n true 0 l ∧ oW n true 0 l ≤ i)) :
  (oW n true 0 l = (i : Int) + 1) ↔ ((l[i] = 128 ∧ oFresh l i = true) ∨ ((i : Int) = n - 1 ∧ 127 < l[i])) := by
 have e := oW_drop n l i (by omega) h
 rw [List.drop_eq_getElem_cons hi, oW_cons] at e
 constructor
 ·intro h2
  rw [h2] at e
  split at e
  ·assumption
  ·have := oW_range n (l.drop (i + 1)) (decide (l[i] < 128)) (i + 1)
   omega
 ·intro h2
  rw [if_pos h2] at e
  exact e

/-! ### Arcs and bytes -/
end Go.Proofs.Ytiiimhamfibdbaa
/- Contents of bit strings, in plain words: with which byte one is wrong, what a state asks, what is put and got, and their bits. They hold of texts alone, under no condition on the program. -/
namespace Go.Proofs.Ytiiimhamfibdbaa
open Go.PlainAid
set_option linter.unusedVariables false
def lw (x u : Int) : Int := x % 2 ^ u.toNat
theorem lw_zero (x : Int) : lw x 0 = 0 := by show x % 1 = 0; omega
def cB (u n : Int) : Bool := decide (u = 0 ∨ (u ≤ 7 ∧ 1 < n))
def cE (u x : Int) : Bool := decide (lw x u = 0)
theorem cE_zero (x : Int) : cE 0 x = true := decide_eq_true (lw_zero x)
theorem cB_le {u n : Int} (h : cB u n = true) : u ≤ 7 := by have := of_decide_eq_true h; omega
theorem cB_zero (n : Int) : cB 0 n = true := decide_eq_true (.inl rfl)
def bsW (n : Int) (s : ByteArray) : Int :=
 if n < 1 then 0 else if 0 < s.size ∧ cB (bt s 0) n = false then 1
 else if 1 < n ∧ (s.size : Int) = n ∧ cE (bt s 0) (bt s (s.size - 1)) = false then n else -1
def bPush (left : Int) (begun : Bool) (un b : Int) : Int × Bool × Int × Bool :=
 if left < 1 then (0, false, 0, false)
 else if begun = false then (if cB b left = true then (left - 1, true, b, true) else (0, false, 0, false))
 else if 1 < left ∨ cE un b = true then (left - 1, true, un, true) else (0, false, 0, false)
def bUn (s : ByteArray) (i : Nat) : Int := if i = 0 then 0 else bt s 0
theorem bs_step (n : Int) (s : ByteArray) (i : Nat) (hi : i < s.size) (hn : (s.size : Int) ≤ n) (h : ¬ (0 ≤ bsW n s ∧ bsW n s ≤ i)) :
  (bsW n s = (i : Int) + 1 → bPush (n - i) (decide (0 < i)) (bUn s i) (bt s i) = (0, false, 0, false)) ∧
  (bsW n s ≠ (i : Int) + 1 → bPush (n - i) (decide (0 < i)) (bUn s i) (bt s i) = (n - ((i + 1 : Nat) : Int), true, bt s 0, true) ∧ bt s 0 ≤ 7) := by
 have hn1 : ¬ n < 1 := by omega
 have hl : ¬ n - (i : Int) < 1 := by omega
 have hW : bsW n s = if 0 < s.size ∧ cB (bt s 0) n = false then 1 else if 1 < n ∧ (s.size : Int) = n ∧ cE (bt s 0) (bt s (s.size - 1)) = false then n else -1 := by unfold bsW; rw [if_neg hn1]
 have hc : (n - ((i + 1 : Nat) : Int)) = n - (i : Int) - 1 := by omega
 unfold bPush
 rw [if_neg hl]
 by_cases h0 : i = 0
 ·subst h0
  rw [if_pos (by rfl)]
  have hz : n - ((0 : Nat) : Int) = n := by simp
  rw [hc, hz]
  cases hb : cB (bt s 0) n
  ·rw [hb, if_pos ⟨hi, rfl⟩] at hW
   rw [hW]
   exact ⟨fun _ => by simp, fun h2 => absurd rfl h2⟩
  ·rw [hb, if_neg (by simp)] at hW
   refine ⟨fun h2 => ?_, fun _ => ⟨by simp, cB_le hb⟩⟩
   rw [hW] at h2
   split at h2 <;> omega
 ·have hb : cB (bt s 0) n = true := by
   cases hb : cB (bt s 0) n
   ·rw [hb, if_pos ⟨by omega, rfl⟩] at hW
    exact absurd ⟨by omega, by omega⟩ h
   ·rfl
  rw [hb, if_neg (by simp)] at hW
  rw [show decide (0 < i) = true from decide_eq_true (by omega), if_neg (by simp), show bUn s i = bt s 0 from if_neg h0, hc]
  by_cases h1 : 1 < n - (i : Int)
  ·rw [if_pos (.inl h1)]
   refine ⟨fun h2 => ?_, fun _ => ⟨rfl, cB_le hb⟩⟩
   rw [hW] at h2
   split at h2 <;> omega
  ·have hs : s.size - 1 = i := by omega
   have hs2 : (s.size : Int) = n := by omega
   rw [hs] at hW
   cases he : cE (bt s 0) (bt s i)
   ·rw [he, if_pos ⟨by omega, hs2, rfl⟩] at hW
    rw [if_neg (by simp [h1])]
    exact ⟨fun _ => rfl, fun h2 => absurd (by omega) h2⟩
   ·rw [he, if_neg (by simp)] at hW
    rw [if_pos (.inr rfl), hW]
    exact ⟨fun h2 => by omega, fun _ => ⟨rfl, cB_le hb⟩⟩
/-! ### Put and Get -/
/-! ### Bits -/
end Go.Proofs.Ytiiimhamfibdbaa
/- Times' contents in plain words: dates digit by digit, with which byte a content is wrong. They hold of lists of numbers alone, under no condition on the program. -/
namespace Go.Proofs.Ytiiimhamfibdbaa
open Go.PlainAid
set_option linter.unusedVariables false
def g (l : List Int) (i : Nat) : Int := l.getD i 0
theorem g_at {l : List Int} {i : Nat} (h : i < l.length) : g l i = l[i] := by unfold g; rw [List.getD_eq_getElem?_getD, List.getElem?_eq_getElem h]; rfl
theorem g_end {l : List Int} {i : Nat} (h : l.length ≤ i) : g l i = 0 := by unfold g; rw [List.getD_eq_getElem?_getD, List.getElem?_eq_none h]; rfl
theorem bt_g (s : ByteArray) (i : Nat) : bt s i = g (bl s) i := by
 by_cases h : i < s.size
 ·rw [g_at (by rw [bl_length]; exact h), bl_get]
 ·rw [g_end (by rw [bl_length]; omega), bt_end s (by omega)]
theorem g_left {l m : List Int} {i : Nat} (h : i < l.length) : g (l ++ m) i = g l i := by
 unfold g; rw [List.getD_eq_getElem?_getD, List.getElem?_append_left h, List.getD_eq_getElem?_getD]
theorem g_right {l m : List Int} {i : Nat} (h : l.length ≤ i) : g (l ++ m) i = g m (i - l.length) := by
 unfold g; rw [List.getD_eq_getElem?_getD, List.getElem?_append_right h, List.getD_eq_getElem?_getD]
theorem g_take {l : List Int} {n i : Nat} (h : i < n) : g (l.take n) i = g l i := by
 unfold g; rw [List.getD_eq_getElem?_getD, List.getElem?_take_of_lt h, List.getD_eq_getElem?_getD]
theorem g_last (l : List Int) (x : Int) : g (l ++ [x]) l.length = x := by rw [g_right (Nat.le_refl _), Nat.sub_self]; rfl
def isD (x : Int) : Prop := 48 ≤ x ∧ x ≤ 57
instance (x : Int) : Decidable (isD x) := by unfold isD; infer_instance
def n2 (l : List Int) (i : Nat) : Int := 10 * (g l i - 48) + (g l (i + 1) - 48)
def dysI (y m : Int) : Int :=
 if y < 0 ∨ 9999 < y then 0
 else if m = 1 ∨ m = 3 ∨ m = 5 ∨ m = 7 ∨ m = 8 ∨ m = 10 ∨ m = 12 then 31
 else if m = 4 ∨ m = 6 ∨ m = 9 ∨ m = 11 then 30
 else if m = 2 then (if y % 400 = 0 ∨ (y % 4 = 0 ∧ y % 100 ≠ 0) then 29 else 28)
 else 0
theorem dys_range (y m : Int) : 0 ≤ dysI y m ∧ dysI y m ≤ 31 := by
 unfold dysI
 repeat' split
 all_goals omega
theorem dys_least {y m : Int} (h0 : 0 ≤ y) (h1 : y ≤ 9999) (m0 : 1 ≤ m) (m1 : m ≤ 12) : 28 ≤ dysI y m := by
 unfold dysI
 rw [if_neg (by omega)]
 repeat' split
 all_goals omega
def yr (l : List Int) : Int := 100 * n2 l 0 + n2 l 2
def stepAt (l : List Int) (i : Nat) : Prop :=
 isD (g l i) ∧ (i = 4 → g l 4 ≤ 49) ∧ (i = 5 → 1 ≤ n2 l 4 ∧ n2 l 4 ≤ 12) ∧ (i = 6 → g l 6 - 48 ≤ dysI (yr l) (n2 l 4) / 10) ∧ (i = 7 → 1 ≤ n2 l 6 ∧ n2 l 6 ≤ dysI (yr l) (n2 l 4))
  ∧ (i = 8 → g l 8 ≤ 50) ∧ (i = 9 → n2 l 8 < 24) ∧ (i = 10 → g l 10 ≤ 53) ∧ (i = 12 → g l 12 ≤ 53)
instance (l : List Int) (i : Nat) : Decidable (stepAt l i) := by unfold stepAt; infer_instance
theorem n2_congr {l m : List Int} {j : Nat} (h : g l j = g m j) (h2 : g l (j + 1) = g m (j + 1)) : n2 l j = n2 m j := by unfold n2; rw [h, h2]
theorem yr_congr {l m : List Int} (h : ∀ j, j ≤ 3 → g l j = g m j) : yr l = yr m := by
 unfold yr; rw [n2_congr (h 0 (by decide)) (h 1 (by decide)), n2_congr (h 2 (by decide)) (h 3 (by decide))]
theorem stepAt_imp {l m : List Int} {i : Nat} (h : ∀ j, j ≤ i → g l j = g m j) (hs : stepAt l i) : stepAt m i := by
 obtain ⟨h0, h4, h5, h6, h7, h8, h9, h10, h12⟩ := hs
 refine ⟨by rw [← h i (Nat.le_refl _)]; exact h0, fun e => ?_, fun e => ?_, fun e => ?_, fun e => ?_, fun e => ?_, fun e => ?_, fun e => ?_, fun e => ?_⟩
 ·subst e; rw [← h 4 (by decide)]; exact h4 rfl
 ·subst e; rw [← n2_congr (h 4 (by decide)) (h 5 (by decide))]; exact h5 rfl
 ·subst e; rw [← h 6 (by decide), ← yr_congr (fun j hj => h j (by omega)), ← n2_congr (h 4 (by decide)) (h 5 (by decide))]; exact h6 rfl
 ·subst e; rw [← n2_congr (h 6 (by decide)) (h 7 (by decide)), ← yr_congr (fun j hj => h j (by omega)), ← n2_congr (h 4 (by decide)) (h 5 (by decide))]; exact h7 rfl
 ·subst e; rw [← h 8 (by decide)]; exact h8 rfl
 ·subst e; rw [← n2_congr (h 8 (by decide)) (h 9 (by decide))]; exact h9 rfl
 ·subst e; rw [← h 10 (by decide)]; exact h10 rfl
 ·subst e; rw [← h 12 (by decide)]; exact h12 rfl
theorem stepAt_congr {l m : List Int} {i : Nat} (h : ∀ j, j ≤ i → g l j = g m j) : stepAt l i ↔ stepAt m i := ⟨stepAt_imp h, stepAt_imp (fun j hj => (h j hj).symm)⟩
def okD (l : List Int) : Prop := ∀ i, i < l.length → stepAt l i
instance (l : List Int) : Decidable (okD l) := by unfold okD; infer_instance
theorem okD_snoc (l : List Int) (x : Int) : okD (l ++ [x]) ↔ okD l ∧ stepAt (l ++ [x]) l.length := by
 unfold okD
 rw [List.length_append, List.length_singleton]
 constructor
 ·intro h
  exact ⟨fun i hi => (stepAt_congr (fun j hj => g_left (by omega))).1 (h i (by omega)), h _ (by omega)⟩
 ·rintro ⟨h1, h2⟩ i hi
  by_cases hl : i < l.length
  ·exact (stepAt_congr (fun j hj => g_left (by omega))).2 (h1 i hl)
  ·obtain rfl : i = l.length := by omega
   exact h2
/-! ### A whole date -/
def dateP (l : List Int) : Prop := l.length = 14 ∧ okD l
instance (l : List Int) : Decidable (dateP l) := by unfold dateP; infer_instance
/-! ### What may come -/
theorem n2_snoc (L : List Int) (x : Int) {j : Nat} (h : j + 1 < L.length) : n2 (L ++ [x]) j = n2 L j := n2_congr (g_left (by omega)) (g_left h)
theorem yr_snoc (L : List Int) (x : Int) (h : 4 ≤ L.length) : yr (L ++ [x]) = yr L := yr_congr (fun j hj => g_left (by omega))
theorem yr_range {L : List Int} (h : ∀ i, i < 4 → isD (g L i)) : 0 ≤ yr L ∧ yr L ≤ 9999 := by
 have h0 := h 0 (by decide)
 have h1 := h 1 (by decide)
 have h2 := h 2 (by decide)
 have h3 := h 3 (by decide)
 unfold isD at *
 simp only [yr, n2, Nat.zero_add, Nat.reduceAdd]
 omega
/-! ### Contents -/
def cent (x : Int) : List Int := if x < 53 then [50, 48] else [49, 57]
theorem cent_length (x : Int) : (cent x).length = 2 := by unfold cent; split <;> rfl
theorem cent_isD (x : Int) (i : Nat) (h : i < 2) : isD (g (cent x) i) := by
 unfold cent
 rcases (by omega : i = 0 ∨ i = 1) with rfl | rfl <;> split <;> decide
def fullP (tag : Int) (l : List Int) : List Int := if tag = 24 then l else cent (g l 0) ++ l
def offT (tag : Int) : Nat := if tag = 24 then 0 else 2
def typ (tag n : Int) : Prop := (tag = 23 ∧ n = 13) ∨ (tag = 24 ∧ n = 15)
instance (tag n : Int) : Decidable (typ tag n) := by unfold typ; infer_instance
def yearAt (l : List Int) (i : Nat) : Prop := (i = 0 → 50 ≤ g l 0) ∧ (i = 2 → 50 < g l 0 ∨ 48 < g l 1 ∨ 53 ≤ g l 2)
instance (l : List Int) (i : Nat) : Decidable (yearAt l i) := by unfold yearAt; infer_instance
def stepC (tag n : Int) (l : List Int) (i : Nat) : Prop :=
 ((i : Int) = n - 1 → g l i = 90) ∧ ((i : Int) ≠ n - 1 → stepAt (fullP tag l) (i + offT tag) ∧ (tag = 24 → yearAt l i))
instance (tag n : Int) (l : List Int) (i : Nat) : Decidable (stepC tag n l i) := by unfold stepC; infer_instance
theorem fullP_congr {tag : Int} {l m : List Int} {i : Nat} (h : ∀ j, j ≤ i → g l j = g m j) : ∀ j, j ≤ i + offT tag → g (fullP tag l) j = g (fullP tag m) j := by
 intro j hj
 unfold fullP
 unfold offT at hj
 by_cases ht : tag = 24
 ·rw [if_pos ht, if_pos ht]; rw [if_pos ht] at hj; exact h j (by omega)
 ·rw [if_neg ht, if_neg ht, h 0 (by omega)]
  rw [if_neg ht] at hj
  by_cases h2 : j < 2
  ·rw [g_left (by rw [cent_length]; exact h2), g_left (by rw [cent_length]; exact h2)]
  ·rw [g_right (by rw [cent_length]; omega), g_right (by rw [cent_length]; omega), cent_length]; exact h _ (by omega)
theorem yearAt_congr {l m : List Int} {i : Nat} (h : ∀ j, j ≤ i → g l j = g m j) : yearAt l i ↔ yearAt m i := by
 unfold yearAt
 refine and_congr ⟨fun hh e => ?_, fun hh e => ?_⟩ ⟨fun hh e => ?_, fun hh e => ?_⟩
 all_goals
  subst e
  have hh := hh rfl
 ·rw [← h 0 (by decide)]; exact hh
 ·rw [h 0 (by decide)]; exact hh
 ·rw [← h 0 (by decide), ← h 1 (by decide), ← h 2 (by decide)]; exact hh
 ·rw [h 0 (by decide), h 1 (by decide), h 2 (by decide)]; exact hh
theorem stepC_congr {tag n : Int} {l m : List Int} {i : Nat} (h : ∀ j, j ≤ i → g l j = g m j) : stepC tag n l i ↔ stepC tag n m i := by
 unfold stepC
 rw [h i (Nat.le_refl _), stepAt_congr (fullP_congr (tag := tag) h), yearAt_congr h]
def okC (tag n : Int) (l : List Int) : Prop := ∀ i, i < l.length → stepC tag n l i
instance (tag n : Int) (l : List Int) : Decidable (okC tag n l) := by unfold okC; infer_instance
theorem okC_snoc (tag n : Int) (l : List Int) (x : Int) : okC tag n (l ++ [x]) ↔ okC tag n l ∧ stepC tag n (l ++ [x]) l.length := by
 unfold okC
 rw [List.length_append, List.length_singleton]
 constructor
 ·intro h
  exact ⟨fun i hi => (stepC_congr (fun j hj => g_left (by omega))).1 (h i (by omega)), h _ (by omega)⟩
 ·rintro ⟨h1, h2⟩ i hi
  by_cases hl : i < l.length
  ·exact (stepC_congr (fun j hj => g_left (by omega))).2 (h1 i hl)
  ·obtain rfl : i = l.length := by omega
   exact h2
def canP (tag n : Int) (l : List Int) : Prop := typ tag n ∧ (l.length : Int) ≤ n ∧ okC tag n l
instance (tag n : Int) (l : List Int) : Decidable (canP tag n l) := by unfold canP; infer_instance
theorem fullP_length (tag : Int) (l : List Int) : (fullP tag l).length = l.length + offT tag := by
 unfold fullP offT; split
 ·rfl
 ·rw [List.length_append, cent_length]; omega
theorem fullP_snoc (tag : Int) {l : List Int} (x : Int) (h : 1 ≤ l.length) : fullP tag (l ++ [x]) = fullP tag l ++ [x] := by
 unfold fullP
 split
 ·rfl
 ·rw [g_left (by omega), List.append_assoc]
theorem full_ok {tag n : Int} {l : List Int} (hc : canP tag n l) (hl : (l.length : Int) < n) : ∀ i, i < (fullP tag l).length → stepAt (fullP tag l) i := by
 intro i hi
 rw [fullP_length] at hi
 by_cases h : i < offT tag
 ·have ht : ¬ tag = 24 := by intro e; unfold offT at h; rw [if_pos e] at h; omega
  have h2 : i < 2 := by unfold offT at h; rw [if_neg ht] at h; exact h
  have hd : isD (g (fullP tag l) i) := by unfold fullP; rw [if_neg ht, g_left (by rw [cent_length]; exact h2)]; exact cent_isD _ _ h2
  exact ⟨hd, fun e => by omega, fun e => by omega, fun e => by omega, fun e => by omega, fun e => by omega, fun e => by omega, fun e => by omega, fun e => by omega⟩
 ·have := ((hc.2.2 (i - offT tag) (by omega)).2 (by omega)).1
  rwa [show i - offT tag + offT tag = i by omega] at this
theorem typ_off {tag n : Int} (h : typ tag n) : (n : Int) + offT tag = 15 := by
 unfold offT
 rcases h with ⟨rfl, rfl⟩ | ⟨rfl, rfl⟩ <;> decide
def rightP (tag : Int) (l : List Int) : Prop := canP tag l.length l
instance (tag : Int) (l : List Int) : Decidable (rightP tag l) := by unfold rightP; infer_instance
/-! ### The reference's way to a whole content -/
end Go.Proofs.Ytiiimhamfibdbaa
/- Contents of string types in plain words: characters of UTF-8 byte by byte, which bytes a string may hold, how a right content can begin, and with which byte one is wrong. These hold of lists of numbers alone, under no condition on the program. -/
namespace Go.Proofs.Ytiiimhamfibdbaa
open Go.PlainAid
set_option linter.unusedVariables false
def sz (a : Int) : Nat := if a < 128 then 1 else if a < 194 then 0 else if a < 224 then 2 else if a < 240 then 3 else if a < 245 then 4 else 0
def contOk (a : Int) (i : Nat) (b : Int) : Prop := 128 ≤ b ∧ b ≤ 191 ∧ (i = 1 → (a = 224 → 160 ≤ b) ∧ (a = 237 → b ≤ 159) ∧ (a = 240 → 144 ≤ b) ∧ (a = 244 → b ≤ 143))
instance (a : Int) (i : Nat) (b : Int) : Decidable (contOk a i b) := by unfold contOk; infer_instance
def frontOk (r : List Int) : Prop := 1 ≤ r.length ∧ r.length ≤ sz (g r 0) ∧ ∀ i, i < r.length → 1 ≤ i → contOk (g r 0) i (g r i)
instance (r : List Int) : Decidable (frontOk r) := by unfold frontOk; infer_instance
theorem sz_le (a : Int) : sz a ≤ 4 := by
 unfold sz
 repeat' split
 all_goals omega
/-! ### Byte by byte -/
def uS : Option (List Int) → Int → Option (List Int)
 |none, _ => none
 |some r, b => if frontOk (r ++ [b]) then some (if r.length + 1 = sz (g (r ++ [b]) 0) then [] else r ++ [b]) else none
def uR (l : List Int) : Option (List Int) := l.foldl uS (some [])
theorem uR_nil : uR [] = some [] := rfl
theorem uR_snoc (l : List Int) (x : Int) : uR (l ++ [x]) = uS (uR l) x := by unfold uR; rw [List.foldl_append]; rfl
theorem uS_some {r s : List Int} {x : Int} (h : uS (some r) x = some s) : s = [] ∨ (frontOk s ∧ s.length < sz (g s 0)) := by
 by_cases hf : frontOk (r ++ [x])
 ·have h2 : some (if r.length + 1 = sz (g (r ++ [x]) 0) then [] else r ++ [x]) = some s := (if_pos hf).symm.trans h
  by_cases hne : r.length + 1 = sz (g (r ++ [x]) 0)
  ·rw [if_pos hne] at h2
   cases h2
   exact .inl rfl
  ·rw [if_neg hne] at h2
   cases h2
   have := hf.2.1
   rw [List.length_append, List.length_singleton] at this
   exact .inr ⟨hf, by rw [List.length_append, List.length_singleton]; omega⟩
 ·have h2 : (none : Option (List Int)) = some s := (if_neg hf).symm.trans h
  cases h2
theorem uR_some {l r : List Int} (h : uR l = some r) : r = [] ∨ (frontOk r ∧ r.length < sz (g r 0)) := by
 rcases List.eq_nil_or_concat l with rfl | ⟨m, x, rfl⟩
 ·rw [uR_nil] at h; cases h; exact .inl rfl
 ·rw [List.concat_eq_append, uR_snoc] at h
  cases hu : uR m with
  |none => rw [hu] at h; cases h
  |some s => rw [hu] at h; exact uS_some h
/-! ### Which contents can begin so -/
def plT (tag x : Int) : Prop := (tag = 22 → x < 128) ∧ (tag = 19 → (65 ≤ x ∧ x ≤ 90) ∨ (97 ≤ x ∧ x ≤ 122) ∨ (48 ≤ x ∧ x ≤ 57) ∨ x = 32 ∨ (39 ≤ x ∧ x ≤ 41) ∨ (43 ≤ x ∧ x ≤ 47) ∨ x = 58 ∨ x = 61 ∨ x = 63)
instance (tag x : Int) : Decidable (plT tag x) := by unfold plT; infer_instance
def uC (n : Int) (l : List Int) : Bool := match uR l with
 |none => false
 |some r => decide (r = [] ∨ (l.length : Int) + (sz (g r 0) : Int) - (r.length : Int) ≤ n)
def canT (tag n : Int) (l : List Int) : Prop := 0 ≤ n ∧ ((tag = 12 ∧ uC n l = true) ∨ (tag ≠ 12 ∧ ∀ x ∈ l, plT tag x))
instance (tag n : Int) (l : List Int) : Decidable (canT tag n l) := by unfold canT; infer_instance
theorem uC_some {n : Int} {l r : List Int} (h : uR l = some r) : uC n l = true ↔ (r = [] ∨ (l.length : Int) + (sz (g r 0) : Int) - (r.length : Int) ≤ n) := by
 unfold uC; rw [h]; exact decide_eq_true_iff
theorem uC_none {n : Int} {l : List Int} (h : uR l = none) : uC n l = false := by unfold uC; rw [h]
theorem canT_nil {tag n : Int} : canT tag n [] ↔ 0 ≤ n := by
 refine ⟨fun h => h.1, fun h => ⟨h, ?_⟩⟩
 by_cases ht : tag = 12
 ·exact .inl ⟨ht, (uC_some uR_nil).2 (.inl rfl)⟩
 ·exact .inr ⟨ht, fun x hx => absurd hx (by simp)⟩
def rightT (tag : Int) (l : List Int) : Prop := canT tag l.length l
instance (tag : Int) (l : List Int) : Decidable (rightT tag l) := by unfold rightT; infer_instance
/-! ### With which byte -/
def wrF (can : Nat → Bool) : Nat → Nat → Int
 |0, _ => -1
 |k + 1, i => if can i = true then wrF can k (i + 1) else i
theorem wrF_spec (can : Nat → Bool) : ∀ k i, (wrF can k i = -1 ∧ ∀ j, i ≤ j → j < i + k → can j = true) ∨ (∃ m : Nat, i ≤ m ∧ m < i + k ∧ wrF can k i = (m : Int) ∧ ¬ can m = true ∧ ∀ j, i ≤ j → j < m → can j = true) := by
 intro k
 induction k with
 |zero => intro i; exact .inl ⟨rfl, fun j h1 h2 => by omega⟩
 |succ k ih =>
  intro i
  by_cases h : can i = true
  ·have e : wrF can (k + 1) i = wrF can k (i + 1) := by rw [wrF, if_pos h]
   rw [e]
   rcases ih (i + 1) with ⟨h1, h2⟩ | ⟨m, h1, h2, h3, h4, h5⟩
   ·refine .inl ⟨h1, fun j hj hk => ?_⟩
    by_cases hji : j = i
    ·rw [hji]; exact h
    ·exact h2 j (by omega) (by omega)
   ·refine .inr ⟨m, by omega, by omega, h3, h4, fun j hj hk => ?_⟩
    by_cases hji : j = i
    ·rw [hji]; exact h
    ·exact h5 j (by omega) hk
  ·exact .inr ⟨i, Nat.le_refl _, by omega, by rw [wrF, if_neg h], h, fun j h1 h2 => by omega⟩
def txW (tag n : Int) (l : List Int) : Int := wrF (fun i => decide (canT tag n (l.take i))) (l.length + 1) 0
theorem tx_range (tag n : Int) (l : List Int) : -1 ≤ txW tag n l ∧ txW tag n l ≤ l.length := by
 unfold txW
 rcases wrF_spec (fun i => decide (canT tag n (l.take i))) (l.length + 1) 0 with ⟨h, _⟩ | ⟨m, _, h2, h3, _⟩
 ·rw [h]; omega
 ·rw [h3]; omega
theorem tx_zero (tag n : Int) (l : List Int) : txW tag n l = 0 ↔ n < 0 := by
 unfold txW
 have c0 : (decide (canT tag n (l.take 0)) = true) ↔ 0 ≤ n := by rw [decide_eq_true_eq, List.take_zero]; exact canT_nil
 rcases wrF_spec (fun i => decide (canT tag n (l.take i))) (l.length + 1) 0 with ⟨h, h2⟩ | ⟨m, _, h2, h3, h4, h5⟩
 ·rw [h]
  have := c0.1 (h2 0 (Nat.le_refl _) (by omega))
  omega
 ·rw [h3]
  by_cases hm : m = 0
  ·subst hm
   have : ¬ 0 ≤ n := fun hh => h4 (c0.2 hh)
   omega
  ·have := c0.1 (h5 0 (Nat.le_refl _) (by omega))
   omega
theorem tx_can (tag n : Int) (l : List Int) (i : Nat) (hi : i ≤ l.length) (h : ¬ (0 ≤ txW tag n l ∧ txW tag n l ≤ i)) : canT tag n (l.take i) := by
 unfold txW at h
 rcases wrF_spec (fun i => decide (canT tag n (l.take i))) (l.length + 1) 0 with ⟨h1, h2⟩ | ⟨m, _, h2, h3, h4, h5⟩
 ·exact of_decide_eq_true (h2 i (by omega) (by omega))
 ·rw [h3] at h
  exact of_decide_eq_true (h5 i (by omega) (by omega))
theorem tx_step (tag n : Int) (l : List Int) (i : Nat) (hi : i < l.length) (h : ¬ (0 ≤ txW tag n l ∧ txW tag n l ≤ i)) : txW tag n l = (i : Int) + 1 ↔ ¬ canT tag n (l.take (i + 1)) := by
 unfold txW at *
 rcases wrF_spec (fun i => decide (canT tag n (l.take i))) (l.length + 1) 0 with ⟨h1, h2⟩ | ⟨m, _, h2, h3, h4, h5⟩
 ·rw [h1]
  have := of_decide_eq_true (h2 (i + 1) (by omega) (by omega))
  exact ⟨fun e => by omega, fun e => absurd this e⟩
 ·rw [h3] at h ⊢
  by_cases hm : m = i + 1
  ·subst hm
   exact ⟨fun _ hc => h4 (decide_eq_true hc), fun _ => by omega⟩
  ·have := of_decide_eq_true (h5 (i + 1) (by omega) (by omega))
   exact ⟨fun e => by omega, fun e => absurd this e⟩
end Go.Proofs.Ytiiimhamfibdbaa
/- What a State of a string holds, in plain words: the tail of a character that isn't whole, and what a step makes of it. It holds of lists of numbers alone, under no condition on the program. -/
namespace Go.Proofs.Ytiiimhamfibdbaa
open Go.PlainAid
set_option linter.unusedVariables false
structure TL where
 n : Int
 lo : Int
 hi : Int
structure TL.Ok (t : TL) : Prop where
 n0 : 0 ≤ t.n
 n1 : t.n ≤ 3
 l0 : 0 ≤ t.lo
 l1 : t.lo ≤ 255
 h0 : 0 ≤ t.hi
 h1 : t.hi ≤ 255
def tlN (n : Int) : TL := if n = 0 then ⟨0, 0, 0⟩ else ⟨n, 128, 191⟩
def tBegin (b : Int) : TL × Bool :=
 if b < 128 then (⟨0, 0, 0⟩, true) else if b < 194 then (⟨0, 0, 0⟩, false) else if b < 224 then (⟨1, 128, 191⟩, true) else if b = 224 then (⟨2, 160, 191⟩, true) else if b = 237 then (⟨2, 128, 159⟩, true)
 else if b < 240 then (⟨2, 128, 191⟩, true) else if b = 240 then (⟨3, 144, 191⟩, true) else if b < 244 then (⟨3, 128, 191⟩, true) else if b = 244 then (⟨3, 128, 143⟩, true) else (⟨0, 0, 0⟩, false)
def tBehind (t : TL) (b : Int) : TL × Bool := if t.n = 0 then tBegin b else if b < t.lo ∨ t.hi < b then (⟨0, 0, 0⟩, false) else (tlN (t.n - 1), true)
def tlR (r : List Int) : TL := if r = [] then ⟨0, 0, 0⟩ else ⟨(sz (g r 0) : Int) - (r.length : Int), (if r.length = 1 then (if g r 0 = 224 then 160 else if g r 0 = 240 then 144 else 128) else 128), (if r.length = 1 then (if g r 0 = 237 then 159 else if g r 0 = 244 then 143 else 191) else 191)⟩
theorem tl_nil : tlR [] = ⟨0, 0, 0⟩ := if_pos rfl
theorem tl_cons {r : List Int} (h : 1 ≤ r.length) : tlR r = ⟨(sz (g r 0) : Int) - (r.length : Int), (if r.length = 1 then (if g r 0 = 224 then 160 else if g r 0 = 240 then 144 else 128) else 128), (if r.length = 1 then (if g r 0 = 237 then 159 else if g r 0 = 244 then 143 else 191) else 191)⟩ :=
 if_neg (by intro e; rw [e] at h; simp at h)
theorem tl_ok {r : List Int} (h : r = [] ∨ (frontOk r ∧ r.length < sz (g r 0))) : (tlR r).Ok := by
 rcases h with rfl | ⟨⟨h1, _, _⟩, h2⟩
 ·rw [tl_nil]; exact ⟨by decide, by decide, by decide, by decide, by decide, by decide⟩
 ·rw [tl_cons h1]
  have hz := sz_le (g r 0)
  refine ⟨?_, ?_, ?_, ?_, ?_, ?_⟩
  ·show 0 ≤ (sz (g r 0) : Int) - (r.length : Int); omega
  ·show (sz (g r 0) : Int) - (r.length : Int) ≤ 3; omega
  all_goals
   show _ ≤ _
   simp only
   repeat' split
   all_goals decide
theorem front_one (b : Int) : frontOk [b] ↔ 1 ≤ sz b := by
 have e : g [b] 0 = b := rfl
 unfold frontOk
 rw [e]
 exact ⟨fun h => h.2.1, fun h => ⟨by simp, h, fun i hi h5 => by simp at hi; omega⟩⟩
theorem front_snoc {r : List Int} {b : Int} (h : frontOk r) (hl : r.length < sz (g r 0)) : frontOk (r ++ [b]) ↔ contOk (g r 0) r.length b := by
 obtain ⟨h1, h2, h3⟩ := h
 have e0 : g (r ++ [b]) 0 = g r 0 := g_left (by omega)
 have el : g (r ++ [b]) r.length = b := by rw [g_right (Nat.le_refl _), Nat.sub_self]; rfl
 unfold frontOk
 rw [e0, List.length_append, List.length_singleton]
 constructor
 ·rintro ⟨_, _, hh⟩
  have := hh r.length (by omega) h1
  rwa [el] at this
 ·intro hc
  refine ⟨by omega, by omega, fun i hi h5 => ?_⟩
  by_cases hir : i = r.length
  ·rw [hir, el]; exact hc
  ·rw [g_left (by omega)]; exact h3 i (by omega) h5
theorem t_step {r : List Int} {b : Int} (h : r = [] ∨ (frontOk r ∧ r.length < sz (g r 0))) :
  (∀ s, uS (some r) b = some s → tBehind (tlR r) b = (tlR s, true)) ∧ (uS (some r) b = none → tBehind (tlR r) b = (⟨0, 0, 0⟩, false)) := by
 rcases h with rfl | ⟨hf, hl⟩
 ·have hu : uS (some []) b = if 1 ≤ sz b then some (if 1 = sz b then [] else [b]) else none := by
   show (if frontOk [b] then some (if 0 + 1 = sz b then [] else [b]) else none) = _
   by_cases h1 : 1 ≤ sz b
   ·rw [if_pos ((front_one b).2 h1), if_pos h1]
   ·rw [if_neg (fun h => h1 ((front_one b).1 h)), if_neg h1]
  have ht : tBehind (tlR []) b = tBegin b := by rw [tl_nil]; exact if_pos rfl
  have h1b : tlR [b] = ⟨(sz b : Int) - 1, (if b = 224 then 160 else if b = 240 then 144 else 128), (if b = 237 then 159 else if b = 244 then 143 else 191)⟩ := rfl
  rw [hu, ht]
  have hs : sz b = if b < 128 then 1 else if b < 194 then 0 else if b < 224 then 2 else if b < 240 then 3 else if b < 245 then 4 else 0 := rfl
  unfold tBegin
  by_cases c1 : b < 128
  ·rw [if_pos c1] at hs
   rw [hs, if_pos (by omega), if_pos rfl, if_pos c1]
   exact ⟨fun s e => (by cases e; rfl), fun e => (by cases e)⟩
  ·rw [if_neg c1] at hs ⊢
   by_cases c2 : b < 194
   ·rw [if_pos c2] at hs
    rw [hs, if_neg (by omega), if_pos c2]
    exact ⟨fun s e => (by cases e), fun _ => rfl⟩
   ·rw [if_neg c2] at hs ⊢
    by_cases c3 : b < 224
    ·rw [if_pos c3] at hs
     rw [hs, if_pos (by omega), if_neg (by omega), if_pos c3]
     refine ⟨fun s e => ?_, fun e => (by cases e)⟩
     cases e
     rw [h1b, hs, if_neg (by omega), if_neg (by omega), if_neg (by omega), if_neg (by omega)]; rfl
    ·rw [if_neg c3] at hs ⊢
     by_cases c4 : b < 240
     ·rw [if_pos c4] at hs
      rw [hs, if_pos (by omega), if_neg (by omega)]
      refine ⟨fun s e => ?_, fun e => (by cases e)⟩
      cases e
      rw [h1b, hs]
      by_cases c5 : b = 224
      ·subst c5; rfl
      ·by_cases c6 : b = 237
       ·subst c6; rfl
       ·rw [if_neg c5, if_neg c6, if_pos c4, if_neg c5, if_neg (by omega), if_neg c6, if_neg (by omega)]; rfl
     ·rw [if_neg c4] at hs
      by_cases c7 : b < 245
      ·rw [if_pos c7] at hs
       rw [hs, if_pos (by omega), if_neg (by omega)]
       refine ⟨fun s e => ?_, fun e => (by cases e)⟩
       cases e
       rw [h1b, hs]
       by_cases c5 : b = 240
       ·subst c5; rfl
       ·by_cases c6 : b = 244
        ·subst c6; rfl
        ·rw [if_neg (by omega), if_neg (by omega), if_neg c4, if_neg c5, if_pos (by omega), if_neg (by omega), if_neg c5, if_neg (by omega), if_neg c6]; rfl
      ·rw [if_neg c7] at hs
       rw [hs, if_neg (by omega), if_neg (by omega), if_neg (by omega), if_neg c4, if_neg (by omega), if_neg (by omega), if_neg (by omega)]
       exact ⟨fun s e => (by cases e), fun _ => rfl⟩
 ·have h1 : 1 ≤ r.length := hf.1
  have e0 : g (r ++ [b]) 0 = g r 0 := g_left (by omega)
  have hu : uS (some r) b = if contOk (g r 0) r.length b then some (if r.length + 1 = sz (g r 0) then [] else r ++ [b]) else none := by
   show (if frontOk (r ++ [b]) then some (if r.length + 1 = sz (g (r ++ [b]) 0) then [] else r ++ [b]) else none) = _
   rw [e0]
   by_cases hc : contOk (g r 0) r.length b
   ·rw [if_pos ((front_snoc hf hl).2 hc), if_pos hc]
   ·rw [if_neg (fun h => hc ((front_snoc hf hl).1 h)), if_neg hc]
  have hb : contOk (g r 0) r.length b ↔ ¬ (b < (tlR r).lo ∨ (tlR r).hi < b) := by
   rw [tl_cons h1]
   simp only
   unfold contOk
   by_cases hr : r.length = 1
   ·rw [if_pos hr, if_pos hr]
    by_cases c1 : g r 0 = 224
    ·rw [if_pos c1, if_neg (by omega), if_neg (by omega)]
     exact ⟨fun h => by have := (h.2.2 hr).1 c1; omega, fun h => ⟨by omega, by omega, fun _ => ⟨by omega, by omega, by omega, by omega⟩⟩⟩
    ·rw [if_neg c1]
     by_cases c2 : g r 0 = 240
     ·rw [if_pos c2, if_neg (by omega), if_neg (by omega)]
      exact ⟨fun h => by have := (h.2.2 hr).2.2.1 c2; omega, fun h => ⟨by omega, by omega, fun _ => ⟨by omega, by omega, by omega, by omega⟩⟩⟩
     ·rw [if_neg c2]
      by_cases c3 : g r 0 = 237
      ·rw [if_pos c3]
       exact ⟨fun h => by have := (h.2.2 hr).2.1 c3; omega, fun h => ⟨by omega, by omega, fun _ => ⟨by omega, by omega, by omega, by omega⟩⟩⟩
      ·rw [if_neg c3]
       by_cases c4 : g r 0 = 244
       ·rw [if_pos c4]
        exact ⟨fun h => by have := (h.2.2 hr).2.2.2 c4; omega, fun h => ⟨by omega, by omega, fun _ => ⟨by omega, by omega, by omega, by omega⟩⟩⟩
       ·rw [if_neg c4]
        exact ⟨fun h => by omega, fun h => ⟨by omega, by omega, fun _ => ⟨by omega, by omega, by omega, by omega⟩⟩⟩
   ·rw [if_neg hr, if_neg hr]
    exact ⟨fun h => by omega, fun h => ⟨by omega, by omega, fun e => absurd e hr⟩⟩
  have hn : (tlR r).n = (sz (g r 0) : Int) - (r.length : Int) := by rw [tl_cons h1]
  have htb : tBehind (tlR r) b = if b < (tlR r).lo ∨ (tlR r).hi < b then (⟨0, 0, 0⟩, false) else (tlN ((tlR r).n - 1), true) := if_neg (by rw [hn]; omega)
  rw [hu, htb]
  by_cases hc : contOk (g r 0) r.length b
  ·rw [if_pos hc, if_neg (hb.1 hc)]
   refine ⟨fun s e => ?_, fun e => (by cases e)⟩
   cases e
   rw [hn]
   by_cases hz : r.length + 1 = sz (g r 0)
   ·rw [if_pos hz, tl_nil]
    unfold tlN
    rw [if_pos (by omega)]
   ·rw [if_neg hz, tl_cons (by rw [List.length_append]; omega), e0, List.length_append, List.length_singleton, if_neg (by omega), if_neg (by omega)]
    unfold tlN
    rw [if_neg (by omega), show (sz (g r 0) : Int) - (r.length : Int) - 1 = (sz (g r 0) : Int) - ((r.length + 1 : Nat) : Int) by omega]
  ·rw [if_neg hc, if_pos (Decidable.byContradiction fun h => hc (hb.2 h))]
   exact ⟨fun s e => (by cases e), fun _ => rfl⟩
/-! ### States -/
def tlT (tag : Int) (l : List Int) : TL := if tag = 12 then (match uR l with | none => ⟨0, 0, 0⟩ | some r => tlR r) else ⟨0, 0, 0⟩
theorem tlT_some {l r : List Int} (h : uR l = some r) : tlT 12 l = tlR r := by unfold tlT; rw [if_pos rfl, h]
theorem tlT_other {tag : Int} {l : List Int} (h : tag ≠ 12) : tlT tag l = ⟨0, 0, 0⟩ := if_neg h
theorem tlT_nil (tag : Int) : tlT tag [] = ⟨0, 0, 0⟩ := by
 by_cases h : tag = 12
 ·subst h; rw [tlT_some uR_nil, tl_nil]
 ·exact tlT_other h
theorem tlT_ok (tag : Int) (l : List Int) : (tlT tag l).Ok := by
 by_cases h : tag = 12
 ·subst h
  cases hu : uR l with
  |none => unfold tlT; rw [if_pos rfl, hu]; exact ⟨by decide, by decide, by decide, by decide, by decide, by decide⟩
  |some r => rw [tlT_some hu]; exact tl_ok (uR_some hu)
 ·rw [tlT_other h]; exact ⟨by decide, by decide, by decide, by decide, by decide, by decide⟩
def xOk (tag left : Int) (t : TL) (b : Int) : Bool := if tag = 12 then (tBehind t b).2 && decide ((tBehind t b).1.n ≤ left - 1) else decide (plT tag b)
def xTail (tag : Int) (t : TL) (b : Int) : TL := if tag = 12 then (tBehind t b).1 else t
theorem x_push {tag n : Int} {l : List Int} {x : Int} (h : canT tag n l) (hl : (l.length : Int) < n) :
    xOk tag (n - (l.length : Int)) (tlT tag l) x = decide (canT tag n (l ++ [x])) ∧ (canT tag n (l ++ [x]) → xTail tag (tlT tag l) x = tlT tag (l ++ [x])) := by
  by_cases ht : tag = 12
  · subst ht
    obtain ⟨h0, h | h⟩ := h
    · cases hu : uR l with
      | none => rw [uC_none hu] at h; exact absurd h.2 (by decide)
      | some r =>
        have hs := uR_some hu
        obtain ⟨t1, t2⟩ := t_step (b := x) hs
        have hsn : uR (l ++ [x]) = uS (some r) x := by rw [uR_snoc, hu]
        unfold xOk xTail
        rw [if_pos rfl, if_pos rfl, tlT_some hu]
        cases hx : uS (some r) x with
        | none =>
          rw [hx] at hsn
          rw [t2 hx]
          have hc : ¬ canT 12 n (l ++ [x]) := fun hh => by
            rcases hh.2 with h5 | h5
            · rw [uC_none hsn] at h5; exact absurd h5.2 (by decide)
            · exact h5.1 rfl
          exact ⟨(decide_eq_false hc).symm, fun hh => absurd hh hc⟩
        | some s =>
          rw [hx] at hsn
          rw [t1 s hx, tlT_some hsn]
          refine ⟨?_, fun _ => rfl⟩
          show (true && decide ((tlR s).n ≤ n - (l.length : Int) - 1)) = _
          rw [Bool.true_and]
          refine decide_eq_decide.2 ?_
          have key : canT 12 n (l ++ [x]) ↔ (s = [] ∨ ((l ++ [x]).length : Int) + (sz (g s 0) : Int) - (s.length : Int) ≤ n) := by
            rw [← uC_some hsn]
            exact ⟨fun hh => by rcases hh.2 with h5 | h5; exact h5.2; exact absurd rfl h5.1, fun hh => ⟨h0, .inl ⟨rfl, hh⟩⟩⟩
          rw [key, List.length_append, List.length_singleton]
          by_cases hs0 : s = []
          · subst hs0
            rw [tl_nil]
            exact ⟨fun _ => .inl rfl, fun _ => by show (0 : Int) ≤ _; omega⟩
          · have h1 : 1 ≤ s.length := by cases s with
              | nil => exact absurd rfl hs0
              | cons a s => simp
            rw [tl_cons h1]
            exact ⟨fun hh => .inr (by have : (sz (g s 0) : Int) - (s.length : Int) ≤ n - (l.length : Int) - 1 := hh; omega), fun hh => by
              rcases hh with h5 | h5
              · exact absurd h5 hs0
              · show (sz (g s 0) : Int) - (s.length : Int) ≤ n - (l.length : Int) - 1; omega⟩
    · exact absurd rfl h.1
  · unfold xOk xTail
    rw [if_neg ht, if_neg ht, tlT_other ht, tlT_other ht]
    refine ⟨decide_eq_decide.2 ?_, fun _ => rfl⟩
    obtain ⟨h0, h | h⟩ := h
    · exact absurd h.1 ht
    · refine ⟨fun hx => ⟨h0, .inr ⟨ht, fun y hy => ?_⟩⟩, fun hc => ?_⟩
      · rcases List.mem_append.1 hy with hy | hy
        · exact h.2 y hy
        · rw [List.mem_singleton.1 hy]; exact hx
      · rcases hc.2 with h5 | h5
        · exact absurd h5.1 ht
        · exact h5.2 x (by simp)
end Go.Proofs.Ytiiimhamfibdbaa
/- A head that is cut off has thirteen bytes at most. It holds of numbers alone, under no condition on the program. -/
namespace Go.Proofs.Ytiiimhamfibdbaa
set_option linter.unusedVariables false
theorem getG_cut_big (t : Int) (h : 2097151 < t) (l : List Int) (hc : (getG false t l).2.2 = 2) : l = [] := by
 cases l with
 |nil => rfl
 |cons x r => rw [getG, if_pos (.inr h)] at hc; exact absurd hc (by simp)
theorem getG_cut_step {f : Bool} {t x : Int} {r : List Int} (hf : f = true → x ≠ 128) (h : (getG f t (x :: r)).2.2 = 2) : 128 ≤ x ∧ (getG false (t * 128 + x % 128) r).2.2 = 2 := by
 rw [getG] at h
 split at h
 ·exact absurd h (by simp)
 ·split at h
  ·rename_i h1 h2; exact ⟨h2, h⟩
  ·split at h <;> exact absurd h (by simp)
theorem getG_first {t x : Int} {r : List Int} (h : (getG true t (x :: r)).2.2 = 2) : x ≠ 128 := by
 intro hx; subst hx
 rw [getG, if_pos (.inl ⟨rfl, rfl⟩)] at h
 exact absurd h (by simp)
theorem getG_short (l : List Int) (hl : IsB l) (h : (getG true 0 l).2.2 = 2) : l.length ≤ 4 := by
 cases l with
 |nil => simp
 |cons a r =>
  have ha := getG_first h
  obtain ⟨a1, h⟩ := getG_cut_step (fun _ => ha) h
  have ab := hl.head
  cases r with
  |nil => simp
  |cons b r =>
   obtain ⟨b1, h⟩ := getG_cut_step (fun e => by cases e) h
   cases r with
   |nil => simp
   |cons c r =>
    obtain ⟨c1, h⟩ := getG_cut_step (fun e => by cases e) h
    cases r with
    |nil => simp
    |cons d r =>
     obtain ⟨d1, h⟩ := getG_cut_step (fun e => by cases e) h
     have := getG_cut_big _ (by omega) r h
     subst this; simp
theorem idGet_short (l : List Int) (hl : IsB l) (h : (idGet l).2.2.2.2 = 2) : l.length ≤ 5 := by
 cases l with
 |nil => simp
 |cons x r =>
  rw [idGet] at h
  split at h
  ·split at h
   ·exact absurd h (by simp)
   ·have := getG_short r hl.tail h
    simp; omega
  ·exact absurd h (by simp)
theorem lenGet_short (l : List Int) (h : (lenGet l).2.2 = 2) : l.length ≤ 8 := by
 cases l with
 |nil => simp
 |cons x r =>
  rw [lenGet_cons] at h
  revert h
  repeat' split
  all_goals simp
  all_goals omega
theorem hdGet_short (l : List Int) (hl : IsB l) (h : (hdGet l).2.2.2.2.2 = 2) : l.length ≤ 13 := by
 rcases hdGet_cases l with ⟨c, t, k, n, e, h1, he⟩ | ⟨c, t, k, n, v, m, e, h1, h2, he⟩ | ⟨c, t, k, n, v, m, h1, h2⟩
 ·rw [hdGet_id h1 he] at h
  have := idGet_short l hl (by rw [h1]; exact h)
  omega
 ·rw [hdGet_len h1 h2 he] at h
  have a := lenGet_short (l.drop n) (by rw [h2]; exact h)
  obtain ⟨b1, b2, b3, b4⟩ := idGet_one l hl (by rw [h1])
  rw [h1] at b1 b2 b3 b4
  have b5 := (idPut_length (cons := k) b1).2
  have b6 := congrArg List.length b4
  simp only [List.length_take, List.length_drop] at a b6 b3
  simp only at b3 b5 b6
  omega
 ·rw [hdGet_ok h1 h2] at h; exact absurd h (by simp)
end Go.Proofs.Ytiiimhamfibdbaa
