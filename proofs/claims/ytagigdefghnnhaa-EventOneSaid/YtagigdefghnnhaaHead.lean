/- Heads, in plain words: an identifier and a length, put, got, and pushed byte by byte. They hold of numbers alone, under no condition on the program. -/
import Derived.Test.YtagigdefghnnhaaIdent
import Derived.Test.YtagigdefghnnhaaLen
namespace Go.Proofs.Ytagigdefghnnhaa
open Go.PlainAid
set_option linter.unusedVariables false
def hdOk (c t n : Int) : Bool := idOk c t && lenOk n
theorem hdOk_iff {c t n : Int} : hdOk c t n = true ↔ idOk c t = true ∧ lenOk n = true := by simp [hdOk]
/-- A head's bytes. -/
def hdPut (c t : Int) (k : Bool) (n : Int) : List Int := idPut c t k ++ lenPut n
theorem hdPut_isB {c t : Int} {k : Bool} {n : Int} (h : hdOk c t n = true) : IsB (hdPut c t k n) := by
  obtain ⟨h1, h2⟩ := hdOk_iff.1 h
  exact (idPut_isB h1).append (lenPut_isB h2)
theorem hdPut_length {c t : Int} {k : Bool} {n : Int} (h : hdOk c t n = true) : 2 ≤ (hdPut c t k n).length ∧ (hdPut c t k n).length ≤ 14 := by
  obtain ⟨h1, h2⟩ := hdOk_iff.1 h
  have := idPut_length (cons := k) h1
  have := lenPut_le h2
  rw [hdPut, List.length_append]; omega
/-- What stands at the head of bytes: class, tag, form, length, how many bytes, the error. -/
def hdGet (l : List Int) : Int × Int × Bool × Int × Nat × Int :=
  if (idGet l).2.2.2.2 = 0 then
    (if (lenGet (l.drop (idGet l).2.2.2.1)).2.2 = 0 then
      ((idGet l).1, (idGet l).2.1, (idGet l).2.2.1, (lenGet (l.drop (idGet l).2.2.2.1)).1, (idGet l).2.2.2.1 + (lenGet (l.drop (idGet l).2.2.2.1)).2.1, 0)
     else (0, 0, false, 0, (idGet l).2.2.2.1 + (lenGet (l.drop (idGet l).2.2.2.1)).2.1, (lenGet (l.drop (idGet l).2.2.2.1)).2.2))
  else (0, 0, false, 0, (idGet l).2.2.2.1, (idGet l).2.2.2.2)
theorem hdGet_id {l : List Int} {c t : Int} {k : Bool} {n : Nat} {e : Int} (h : idGet l = (c, t, k, n, e)) (he : e ≠ 0) : hdGet l = (0, 0, false, 0, n, e) := by
  unfold hdGet; rw [h]; exact if_neg he
theorem hdGet_len {l : List Int} {c t : Int} {k : Bool} {n : Nat} {v : Int} {m : Nat} {e : Int} (h : idGet l = (c, t, k, n, 0)) (h2 : lenGet (l.drop n) = (v, m, e)) (he : e ≠ 0) : hdGet l = (0, 0, false, 0, n + m, e) := by
  unfold hdGet; rw [h]; show (if (0 : Int) = 0 then _ else _) = _; rw [if_pos rfl]; show (if (lenGet (l.drop n)).2.2 = 0 then _ else _) = _; rw [h2]; exact if_neg he
theorem hdGet_ok {l : List Int} {c t : Int} {k : Bool} {n : Nat} {v : Int} {m : Nat} (h : idGet l = (c, t, k, n, 0)) (h2 : lenGet (l.drop n) = (v, m, 0)) : hdGet l = (c, t, k, v, n + m, 0) := by
  unfold hdGet; rw [h]; show (if (0 : Int) = 0 then _ else _) = _; rw [if_pos rfl]; show (if (lenGet (l.drop n)).2.2 = 0 then _ else _) = _; rw [h2]; exact if_pos rfl
theorem hdGet_cases (l : List Int) : (∃ c t k n e, idGet l = (c, t, k, n, e) ∧ e ≠ 0) ∨ (∃ c t k n v m e, idGet l = (c, t, k, n, 0) ∧ lenGet (l.drop n) = (v, m, e) ∧ e ≠ 0) ∨ (∃ c t k n v m, idGet l = (c, t, k, n, 0) ∧ lenGet (l.drop n) = (v, m, 0)) := by
  obtain ⟨c, t, k, n, e, h⟩ : ∃ c t k n e, idGet l = (c, t, k, n, e) := ⟨_, _, _, _, _, rfl⟩
  by_cases he : e = 0
  · subst he
    obtain ⟨v, m, e, h2⟩ : ∃ v m e, lenGet (l.drop n) = (v, m, e) := ⟨_, _, _, rfl⟩
    by_cases he : e = 0
    · subst he; exact .inr (.inr ⟨c, t, k, n, v, m, h, h2⟩)
    · exact .inr (.inl ⟨c, t, k, n, v, m, e, h, h2, he⟩)
  · exact .inl ⟨c, t, k, n, e, h, he⟩
theorem hdGet_le (l : List Int) (hl : IsB l) : (hdGet l).2.2.2.2.1 ≤ l.length := by
  have h0 := idGet_le l
  rcases hdGet_cases l with ⟨c, t, k, n, e, h, he⟩ | ⟨c, t, k, n, v, m, e, h, h2, he⟩ | ⟨c, t, k, n, v, m, h, h2⟩
  · rw [hdGet_id h he]; rw [h] at h0; exact h0
  · rw [hdGet_len h h2 he]; rw [h] at h0
    have := lenGet_le (l.drop n) (hl.drop n)
    rw [h2, List.length_drop] at this
    show n + m ≤ _; simp only at h0 this; omega
  · rw [hdGet_ok h h2]; rw [h] at h0
    have := lenGet_le (l.drop n) (hl.drop n)
    rw [h2, List.length_drop] at this
    show n + m ≤ _; simp only at h0 this; omega
theorem hdGet_bad (l : List Int) (h0 : (hdGet l).2.2.2.2.2 ≠ 0) : (hdGet l).1 = 0 ∧ (hdGet l).2.1 = 0 ∧ (hdGet l).2.2.1 = false ∧ (hdGet l).2.2.2.1 = 0 := by
  rcases hdGet_cases l with ⟨c, t, k, n, e, h, he⟩ | ⟨c, t, k, n, v, m, e, h, h2, he⟩ | ⟨c, t, k, n, v, m, h, h2⟩
  · rw [hdGet_id h he]; exact ⟨rfl, rfl, rfl, rfl⟩
  · rw [hdGet_len h h2 he]; exact ⟨rfl, rfl, rfl, rfl⟩
  · rw [hdGet_ok h h2] at h0; exact absurd rfl h0
theorem hdGet_bd (l : List Int) (hl : IsB l) : 0 ≤ (hdGet l).1 ∧ (hdGet l).1 ≤ 3 ∧ 0 ≤ (hdGet l).2.1 ∧ (hdGet l).2.1 ≤ 268435455 ∧ 0 ≤ (hdGet l).2.2.2.1 ∧ (hdGet l).2.2.2.1 ≤ 2305843009213693951 := by
  by_cases h0 : (hdGet l).2.2.2.2.2 ≠ 0
  · obtain ⟨h1, h2, _, h3⟩ := hdGet_bad l h0
    rw [h1, h2, h3]; decide
  · rcases hdGet_cases l with ⟨c, t, k, n, e, h, he⟩ | ⟨c, t, k, n, v, m, e, h, h2, he⟩ | ⟨c, t, k, n, v, m, h, h2⟩
    · rw [hdGet_id h he] at h0; exact absurd he h0
    · rw [hdGet_len h h2 he] at h0; exact absurd he h0
    · rw [hdGet_ok h h2]
      have a := idGet_bd l hl
      have b := lenGet_bd (l.drop n) (hl.drop n)
      rw [h] at a; rw [h2] at b
      simp only at a b
      exact ⟨a.1, a.2.1, a.2.2.1, a.2.2.2, b.1, b.2⟩
/-- What is put is got, whatever stands behind. -/
theorem hdGet_put {c t : Int} {k : Bool} {n : Int} (h : hdOk c t n = true) (r : List Int) : hdGet (hdPut c t k n ++ r) = (c, t, k, n, (hdPut c t k n).length, 0) := by
  obtain ⟨h1, h2⟩ := hdOk_iff.1 h
  have e1 : idGet (hdPut c t k n ++ r) = (c, t, k, (idPut c t k).length, 0) := by rw [hdPut, List.append_assoc]; exact idGet_put h1 _
  have e2 : lenGet ((hdPut c t k n ++ r).drop (idPut c t k).length) = (n, (lenPut n).length, 0) := by
    rw [hdPut, List.append_assoc, List.drop_left]; exact lenGet_put h2 r
  rw [hdGet_ok e1 e2, hdPut, List.length_append]
/-- A beginning is cut off, at its end. -/
theorem hdGet_cut {c t : Int} {k : Bool} {n : Int} (h : hdOk c t n = true) (j : Nat) (hj : j < (hdPut c t k n).length) : hdGet ((hdPut c t k n).take j) = (0, 0, false, 0, j, 2) := by
  obtain ⟨h1, h2⟩ := hdOk_iff.1 h
  by_cases hs : j < (idPut c t k).length
  · have e : (hdPut c t k n).take j = (idPut c t k).take j := by rw [hdPut, List.take_append_of_le_length (by omega)]
    rw [e]
    exact hdGet_id (idGet_cut h1 j hs) (by decide)
  · have e : (hdPut c t k n).take j = idPut c t k ++ (lenPut n).take (j - (idPut c t k).length) := by
      rw [hdPut, List.take_append, List.take_of_length_le (by omega)]
    rw [e]
    have e1 : idGet (idPut c t k ++ (lenPut n).take (j - (idPut c t k).length)) = (c, t, k, (idPut c t k).length, 0) := idGet_put h1 _
    have e2 : lenGet ((idPut c t k ++ (lenPut n).take (j - (idPut c t k).length)).drop (idPut c t k).length) = (0, j - (idPut c t k).length, 2) := by
      rw [List.drop_left]
      exact lenGet_cut h2 _ (by rw [hdPut, List.length_append] at hj; omega)
    rw [hdGet_len e1 e2 (by decide), show (idPut c t k).length + (j - (idPut c t k).length) = j by omega]
/-- What is got is put as it was. -/
theorem hdGet_one (l : List Int) (hl : IsB l) (h0 : (hdGet l).2.2.2.2.2 = 0) :
    hdOk (hdGet l).1 (hdGet l).2.1 (hdGet l).2.2.2.1 = true ∧ 2 ≤ (hdGet l).2.2.2.2.1 ∧ (hdGet l).2.2.2.2.1 ≤ l.length ∧ hdPut (hdGet l).1 (hdGet l).2.1 (hdGet l).2.2.1 (hdGet l).2.2.2.1 = l.take (hdGet l).2.2.2.2.1 := by
  have hle := hdGet_le l hl
  rcases hdGet_cases l with ⟨c, t, k, n, e, h, he⟩ | ⟨c, t, k, n, v, m, e, h, h2, he⟩ | ⟨c, t, k, n, v, m, h, h2⟩
  · rw [hdGet_id h he] at h0; exact absurd h0 he
  · rw [hdGet_len h h2 he] at h0; exact absurd h0 he
  · rw [hdGet_ok h h2] at hle ⊢
    obtain ⟨a1, a2, a3, a4⟩ := idGet_one l hl (by rw [h])
    obtain ⟨b1, b2, b3, b4⟩ := lenGet_one (l.drop n) (hl.drop n) (by rw [h2])
    rw [h] at a1 a2 a3 a4
    rw [h2] at b1 b2 b3 b4
    simp only at a1 a2 a3 a4 b1 b2 b3 b4 hle
    refine ⟨hdOk_iff.2 ⟨a1, b1⟩, by show 2 ≤ n + m; omega, hle, ?_⟩
    show hdPut c t k v = l.take (n + m)
    rw [hdPut, a4, b4, List.take_add]
/-- The bytes that came since the last whole head, and the error that stays. -/
structure HS where
  came : List Int
  over : Int
/-- A byte comes: what is told (class, tag, form, length, whether a head is whole, the error). -/
def HS.tell (s : HS) (b : Int) : Int × Int × Bool × Int × Bool × Int :=
  if s.over ≠ 0 then (0, 0, false, 0, false, s.over)
  else if (hdGet (s.came ++ [b])).2.2.2.2.2 = 2 then (0, 0, false, 0, false, 0)
  else if (hdGet (s.came ++ [b])).2.2.2.2.2 ≠ 0 then (0, 0, false, 0, false, (hdGet (s.came ++ [b])).2.2.2.2.2)
  else ((hdGet (s.came ++ [b])).1, (hdGet (s.came ++ [b])).2.1, (hdGet (s.came ++ [b])).2.2.1, (hdGet (s.came ++ [b])).2.2.2.1, true, 0)
def HS.next (s : HS) (b : Int) : HS :=
  if s.over ≠ 0 then s
  else if (hdGet (s.came ++ [b])).2.2.2.2.2 = 2 then ⟨s.came ++ [b], 0⟩
  else if (hdGet (s.came ++ [b])).2.2.2.2.2 ≠ 0 then ⟨s.came ++ [b], (hdGet (s.came ++ [b])).2.2.2.2.2⟩
  else ⟨[], 0⟩
end Go.Proofs.Ytagigdefghnnhaa
