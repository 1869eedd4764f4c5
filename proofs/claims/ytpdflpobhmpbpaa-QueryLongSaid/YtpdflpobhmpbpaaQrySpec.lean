/- What the laws of layer 18 (and later ones) need of the calls of queries, whatever their memory is: QA says that block k holds queries for the texts l, whose state is q, that write the blocks F alone; and the same in a world in which nothing else has changed. -/
import Derived.Test.YtpdflpobhmpbpaaQry
import Derived.Test.YtpdflpobhmpbpaaAns
import Derived.Test.YtpdflpobhmpbpaaStrs
namespace Go.Proofs.Ytpdflpobhmpbpaa
open Go.RowKit Go.PlainAid
set_option linter.unusedVariables false
abbrev QryPred := World → Nat → (Nat → Prop) → List ByteArray → QS → Prop
structure QrySpec (QA : QryPred) : Prop where
  lt : ∀ {w k F l q}, QA w k F l q → ∀ i, F i → i < w.heap.size
  aside : ∀ {w w' k F F' l q}, QA w k F l q → Chg F' w w' → (∀ i, F i → ¬ F' i) → QA w' k F l q
  new : ∀ (w : World) (ox : Option Addr) (c : Nat) (l : List ByteArray), Came w ox (svs l) → l.length ≤ c → c ≤ maxLen → serAll l = true →
    Calls Try.prog 10 #[.slice ox l.length c] w fun e w' => ∃ k F, e = .returned (.tuple #[.pointer (some ⟨k, 0, none⟩), .int .i64 0]) ∧ (∀ i, F i → w.heap.size ≤ i) ∧ QA w' k F l QS.zero ∧ Below w.heap.size w w'
  bad : ∀ (w : World) (ox : Option Addr) (c : Nat) (l : List ByteArray), Came w ox (svs l) → l.length ≤ c → c ≤ maxLen → l.length ≤ 1000000 → (∀ x ∈ l, x.size ≤ maxLen) → serAll l = false →
    Calls Try.prog 10 #[.slice ox l.length c] w fun e w' => e = .returned (.tuple #[.pointer none, .int .i64 15]) ∧ Below w.heap.size w w'
  begin : ∀ {w k F l q}, QA w k F l q →
    Calls Try.prog 15 #[.pointer (some ⟨k, 0, none⟩)] w fun r w' => ∃ F', r = .returned (.tuple #[]) ∧ (∀ i, F' i → F i ∨ w.heap.size ≤ i) ∧ QA w' k F' l q.begin ∧ Chg F w w'
  push : ∀ {w k F l q} (b : Int), QA w k F l q → q.Ok → q.came.length < 1000000000 → 0 ≤ b ∧ b ≤ 255 →
    Calls Try.prog 16 #[.pointer (some ⟨k, 0, none⟩), .int .u8 b] w fun r w' => ∃ F', r = .returned (.tuple #[]) ∧ (∀ i, F' i → F i ∨ w.heap.size ≤ i) ∧ QA w' k F' l (q.push b) ∧ Chg F w w'
  date : ∀ {w k F l q} (d : ByteArray), QA w k F l q → q.Ok →
    Calls Try.prog 17 #[.pointer (some ⟨k, 0, none⟩), .string d] w fun r w' => ∃ F', r = .returned (.tuple #[]) ∧ (∀ i, F' i → F i ∨ w.heap.size ≤ i) ∧ QA w' k F' l (q.date d) ∧ Chg F w w'
  answers : ∀ {w k F l q}, QA w k F l q →
    Calls Try.prog 13 #[.pointer (some ⟨k, 0, none⟩)] w fun r w' => ∃ v, r = .returned v ∧ Ans w' w.heap.size v (q.found l) ∧ Below w.heap.size w w'
/-- Queries that a call has made, in a world in which nothing else has changed. -/
structure QOn (QA : QryPred) (a w : World) (k : Nat) (F : Nat → Prop) (l : List ByteArray) (q : QS) : Prop where
  at_ : QA w k F l q
  bel : Below a.heap.size a w
  own : ∀ i, F i → a.heap.size ≤ i
  ok : q.Ok
section
variable {QA : QryPred} {a w w' : World} {k : Nat} {F F' : Nat → Prop} {l : List ByteArray} {q q' : QS}
theorem QOn.below (H : QrySpec QA) (h : QOn QA a w k F l q) (hb : Below w.heap.size w w') : QOn QA a w' k F l q :=
  ⟨H.aside h.at_ (Chg.of_below (F := fun _ => False) hb) (fun _ _ h => h), h.bel.trans (hb.mono h.bel.size), h.own, h.ok⟩
theorem QOn.drewN (H : QrySpec QA) (h : QOn QA a w k F l q) (n : Nat) : QOn QA a (w.drewN n) k F l q :=
  h.below H ⟨rfl, rfl, rfl, Nat.le_refl _, fun _ _ => rfl⟩
theorem QOn.next (H : QrySpec QA) (h : QOn QA a w k F l q) (h1 : ∀ i, F' i → F i ∨ w.heap.size ≤ i) (h2 : QA w' k F' l q') (h3 : Chg F w w') (hok : q'.Ok) : QOn QA a w' k F' l q' := by
  refine ⟨h2, Chg.to_below h.bel h3 h.own, fun i hi => ?_, hok⟩
  rcases h1 i hi with p | p
  · exact h.own i p
  · exact Nat.le_trans h.bel.size p
theorem QOn.beside (H : QrySpec QA) (h : QOn QA a w k F l q) (hc : Chg F' w w') (hF : ∀ i, F i → ¬ F' i) (hB : Below a.heap.size a w') : QOn QA a w' k F l q :=
  ⟨H.aside h.at_ hc hF, hB, h.own, h.ok⟩
theorem QrySpec.new_on (H : QrySpec QA) {ox : Option Addr} {c : Nat} (hC : Came w ox (svs l)) (hl : l.length ≤ c) (hc : c ≤ maxLen) (hs : serAll l = true) (hB : Below a.heap.size a w) :
    Calls Try.prog 10 #[.slice ox l.length c] w fun e w' => ∃ k F, e = .returned (.tuple #[.pointer (some ⟨k, 0, none⟩), .int .i64 0]) ∧ QOn QA a w' k F l QS.zero ∧ Below w.heap.size w w' ∧ (∀ i, F i → w.heap.size ≤ i) := by
  refine (H.new w ox c l hC hl hc hs).mono ?_
  rintro e w' ⟨k, F, rfl, h1, h2, h3⟩
  exact ⟨k, F, rfl, ⟨h2, hB.trans (h3.mono hB.size), fun i hi => Nat.le_trans hB.size (h1 i hi), QS.zero_ok⟩, h3, h1⟩
theorem QrySpec.begin_on (H : QrySpec QA) (hA : QOn QA a w k F l q) (hq : q.begin = q') :
    Calls Try.prog 15 #[.pointer (some ⟨k, 0, none⟩)] w fun r w' => ∃ F', r = .returned (.tuple #[]) ∧ QOn QA a w' k F' l q' ∧ (∀ i, F' i → F i ∨ w.heap.size ≤ i) ∧ Chg F w w' := by
  refine (H.begin hA.at_).mono ?_
  rintro r w' ⟨F', rfl, h1, h2, h3⟩
  subst hq
  exact ⟨F', rfl, hA.next H h1 h2 h3 (QS.begin_ok q), h1, h3⟩
theorem QrySpec.push_on (H : QrySpec QA) (hA : QOn QA a w k F l q) (b : Int) (hb : 0 ≤ b ∧ b ≤ 255) (hl : q.came.length < 1000000000) (hq : q.push b = q') :
    Calls Try.prog 16 #[.pointer (some ⟨k, 0, none⟩), .int .u8 b] w fun r w' => ∃ F', r = .returned (.tuple #[]) ∧ QOn QA a w' k F' l q' ∧ (∀ i, F' i → F i ∨ w.heap.size ≤ i) ∧ Chg F w w' := by
  refine (H.push b hA.at_ hA.ok hl hb).mono ?_
  rintro r w' ⟨F', rfl, h1, h2, h3⟩
  subst hq
  exact ⟨F', rfl, hA.next H h1 h2 h3 (QS.push_ok hA.ok hb hl), h1, h3⟩
theorem QrySpec.date_on (H : QrySpec QA) (hA : QOn QA a w k F l q) (d : ByteArray) (hq : q.date d = q') :
    Calls Try.prog 17 #[.pointer (some ⟨k, 0, none⟩), .string d] w fun r w' => ∃ F', r = .returned (.tuple #[]) ∧ QOn QA a w' k F' l q' ∧ (∀ i, F' i → F i ∨ w.heap.size ≤ i) ∧ Chg F w w' := by
  refine (H.date d hA.at_ hA.ok).mono ?_
  rintro r w' ⟨F', rfl, h1, h2, h3⟩
  subst hq
  exact ⟨F', rfl, hA.next H h1 h2 h3 (QS.date_ok hA.ok d), h1, h3⟩
theorem QrySpec.answers_on (H : QrySpec QA) (hA : QOn QA a w k F l q) {A : List QAns} (hq : q.found l = A) :
    Calls Try.prog 13 #[.pointer (some ⟨k, 0, none⟩)] w fun r w' => ∃ v, r = .returned v ∧ Ans w' w.heap.size v A ∧ QOn QA a w' k F l q ∧ Below w.heap.size w w' := by
  refine (H.answers hA.at_).mono ?_
  rintro r w' ⟨v, rfl, h1, h2⟩
  subst hq
  exact ⟨v, rfl, h1, hA.below H h2, h2⟩
end
end Go.Proofs.Ytpdflpobhmpbpaa
