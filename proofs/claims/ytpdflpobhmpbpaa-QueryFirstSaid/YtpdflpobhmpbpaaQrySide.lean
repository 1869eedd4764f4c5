/- Queries that a call has made, and blocks aside that its calls leave as they are; the reference's queries beside them. -/
import Derived.Test.YtpdflpobhmpbpaaQryLoop
import Derived.Test.YtpdflpobhmpbpaaStrsOn
namespace Go.Proofs.Ytpdflpobhmpbpaa
open Go.RowKit Go.PlainAid
set_option linter.unusedVariables false
/-- Queries in a world w in which, since the world z, the blocks S are as they were. -/
structure QSd (a z w : World) (S : Nat → Prop) (k : Nat) (F : Nat → Prop) (l : List ByteArray) (q : QS) : Prop where
  on : QOn QAt a w k F l q
  lt : ∀ i, S i → i < z.heap.size
  sz : z.heap.size ≤ w.heap.size
  dj : ∀ i, S i → ¬ F i
  same : ∀ i, S i → w.heap[i]? = z.heap[i]?
section
variable {a z w w' : World} {S F F' : Nat → Prop} {k : Nat} {l : List ByteArray} {q q' : QS}
theorem QSd.start (h : QOn QAt a z k F l q) (hlt : ∀ i, S i → i < z.heap.size) (hdj : ∀ i, S i → ¬ F i) : QSd a z z S k F l q := ⟨h, hlt, Nat.le_refl _, hdj, fun _ _ => rfl⟩
theorem QSd.row (h : QSd a z w S k F l q) {g : Nat} {t : TypeId} {L : List Value} (hr : Row z g t L) (hg : S g) : Row w g t L := (h.same g hg).trans hr
theorem QSd.next (h : QSd a z w S k F l q) (hon : QOn QAt a w' k F' l q') (hF : ∀ i, F' i → F i ∨ w.heap.size ≤ i) (hc : Chg F w w') : QSd a z w' S k F' l q' :=
  ⟨hon, h.lt, Nat.le_trans h.sz hc.size, fun i hi hf => by
    rcases hF i hf with p | p
    · exact h.dj i hi p
    · have := h.lt i hi; have := h.sz; omega, fun i hi => (hc.block i (Nat.lt_of_lt_of_le (h.lt i hi) h.sz) (h.dj i hi)).trans (h.same i hi)⟩
theorem QSd.below (h : QSd a z w S k F l q) (hb : Below w.heap.size w w') : QSd a z w' S k F l q :=
  ⟨h.on.below qrySpec hb, h.lt, Nat.le_trans h.sz hb.size, h.dj, fun i hi => (hb.block i (Nat.lt_of_lt_of_le (h.lt i hi) h.sz)).trans (h.same i hi)⟩
theorem QSd.begin (h : QSd a z w S k F l q) (hq : q.begin = q') :
    Calls Try.prog 15 #[.pointer (some ⟨k, 0, none⟩)] w fun r w' => ∃ F', r = .returned (.tuple #[]) ∧ QSd a z w' S k F' l q' := by
  refine (qrySpec.begin_on h.on hq).mono ?_
  rintro r w' ⟨F', rfl, h1, h2, h3⟩
  exact ⟨F', rfl, h.next h1 h2 h3⟩
theorem QSd.push (h : QSd a z w S k F l q) (b : Int) (hb : 0 ≤ b ∧ b ≤ 255) (hl : q.came.length < 1000000000) (hq : q.push b = q') :
    Calls Try.prog 16 #[.pointer (some ⟨k, 0, none⟩), .int .u8 b] w fun r w' => ∃ F', r = .returned (.tuple #[]) ∧ QSd a z w' S k F' l q' := by
  refine (qrySpec.push_on h.on b hb hl hq).mono ?_
  rintro r w' ⟨F', rfl, h1, h2, h3⟩
  exact ⟨F', rfl, h.next h1 h2 h3⟩
theorem QSd.date (h : QSd a z w S k F l q) (d : ByteArray) (hq : q.date d = q') :
    Calls Try.prog 17 #[.pointer (some ⟨k, 0, none⟩), .string d] w fun r w' => ∃ F', r = .returned (.tuple #[]) ∧ QSd a z w' S k F' l q' := by
  refine (qrySpec.date_on h.on d hq).mono ?_
  rintro r w' ⟨F', rfl, h1, h2, h3⟩
  exact ⟨F', rfl, h.next h1 h2 h3⟩
theorem QSd.answers (h : QSd a z w S k F l q) {A : List QAns} (hq : q.found l = A) :
    Calls Try.prog 13 #[.pointer (some ⟨k, 0, none⟩)] w fun r w' => ∃ v, r = .returned v ∧ Ans w' w.heap.size v A ∧ QSd a z w' S k F l q := by
  refine (qrySpec.answers_on h.on hq).mono ?_
  rintro r w' ⟨v, rfl, h1, _, h3⟩
  exact ⟨v, rfl, h1, h.below h3⟩
end
end Go.Proofs.Ytpdflpobhmpbpaa
