/- Two queries that calls have made side by side, and blocks aside. -/
import Derived.Test.YtpdflpobhmpbpaaQrySide
namespace Go.Proofs.Ytpdflpobhmpbpaa
open Go.RowKit Go.PlainAid
set_option linter.unusedVariables false
structure QTw (a z w : World) (S : Nat → Prop) (k : Nat) (F : Nat → Prop) (l : List ByteArray) (q : QS) (g : Nat) (G : Nat → Prop) (m : List ByteArray) (p : QS) : Prop where
  x : QSd a z w S k F l q
  y : QSd a z w S g G m p
  dj : ∀ i, F i → ¬ G i
section
variable {a z w w' : World} {S S' F F' G : Nat → Prop} {k g : Nat} {l m : List ByteArray} {q q' p : QS}
theorem QTw.symm (h : QTw a z w S k F l q g G m p) : QTw a z w S g G m p k F l q := ⟨h.y, h.x, fun i hi hf => h.dj i hf hi⟩
theorem QTw.again (h : QTw a z w S k F l q g G m p) (hlt : ∀ i, S' i → i < w.heap.size) (hF : ∀ i, S' i → ¬ F i) (hG : ∀ i, S' i → ¬ G i) : QTw a w w S' k F l q g G m p :=
  ⟨QSd.start h.x.on hlt hF, QSd.start h.y.on hlt hG, h.dj⟩
theorem QTw.below (h : QTw a z w S k F l q g G m p) (hb : Below w.heap.size w w') : QTw a z w' S k F l q g G m p := ⟨h.x.below hb, h.y.below hb, h.dj⟩
theorem QTw.next (h : QTw a z w S k F l q g G m p) (hon : QOn QAt a w' k F' l q') (hF : ∀ i, F' i → F i ∨ w.heap.size ≤ i) (hc : Chg F w w') : QTw a z w' S k F' l q' g G m p :=
  ⟨h.x.next hon hF hc, ⟨h.y.on.beside qrySpec hc (fun i hg hf => h.dj i hf hg) hon.bel, h.y.lt, Nat.le_trans h.y.sz hc.size, h.y.dj, fun i hi => (hc.block i (Nat.lt_of_lt_of_le (h.y.lt i hi) h.y.sz) (h.x.dj i hi)).trans (h.y.same i hi)⟩, fun i hi hg => by
    rcases hF i hi with e | e
    · exact h.dj i e hg
    · have := qrySpec.lt h.y.on.at_ i hg; omega⟩
theorem QTw.begin (h : QTw a z w S k F l q g G m p) (hq : q.begin = q') :
    Calls Try.prog 15 #[.pointer (some ⟨k, 0, none⟩)] w fun r w' => ∃ F', r = .returned (.tuple #[]) ∧ QTw a z w' S k F' l q' g G m p := by
  refine (qrySpec.begin_on h.x.on hq).mono ?_
  rintro r w' ⟨F', rfl, h1, h2, h3⟩
  exact ⟨F', rfl, h.next h1 h2 h3⟩
theorem QTw.push (h : QTw a z w S k F l q g G m p) (b : Int) (hb : 0 ≤ b ∧ b ≤ 255) (hl : q.came.length < 1000000000) (hq : q.push b = q') :
    Calls Try.prog 16 #[.pointer (some ⟨k, 0, none⟩), .int .u8 b] w fun r w' => ∃ F', r = .returned (.tuple #[]) ∧ QTw a z w' S k F' l q' g G m p := by
  refine (qrySpec.push_on h.x.on b hb hl hq).mono ?_
  rintro r w' ⟨F', rfl, h1, h2, h3⟩
  exact ⟨F', rfl, h.next h1 h2 h3⟩
theorem QTw.date (h : QTw a z w S k F l q g G m p) (d : ByteArray) (hq : q.date d = q') :
    Calls Try.prog 17 #[.pointer (some ⟨k, 0, none⟩), .string d] w fun r w' => ∃ F', r = .returned (.tuple #[]) ∧ QTw a z w' S k F' l q' g G m p := by
  refine (qrySpec.date_on h.x.on d hq).mono ?_
  rintro r w' ⟨F', rfl, h1, h2, h3⟩
  exact ⟨F', rfl, h.next h1 h2 h3⟩
theorem QTw.answers (h : QTw a z w S k F l q g G m p) {A : List QAns} (hq : q.found l = A) :
    Calls Try.prog 13 #[.pointer (some ⟨k, 0, none⟩)] w fun r w' => ∃ v, r = .returned v ∧ Ans w' w.heap.size v A ∧ QTw a z w' S k F l q g G m p ∧ Below w.heap.size w w' := by
  refine (qrySpec.answers_on h.x.on hq).mono ?_
  rintro r w' ⟨v, rfl, h1, _, h3⟩
  exact ⟨v, rfl, h1, h.below h3, h3⟩
theorem QTw.made (hx : QOn QAt a w k F l q) (hy : QOn QAt a w' g G m p) (hb : Below w.heap.size w w') (hG : ∀ i, G i → w.heap.size ≤ i) : QTw a w' w' (fun _ => False) k F l q g G m p :=
  ⟨QSd.start (hx.below qrySpec hb) (fun _ h => h.elim) (fun _ h => h.elim), QSd.start hy (fun _ h => h.elim) (fun _ h => h.elim), fun i hi hg => by have := qrySpec.lt hx.at_ i hi; have := hG i hg; omega⟩
end
/-- What an act does to a state. -/
def QS.act (q : QS) (kd : Int) (t : ByteArray) : QS := if kd = 1 then q.begin else if kd = 2 then q.all (bl t) else if kd = 3 then q.date t else q
theorem QS.act_len (q : QS) (kd : Int) (t : ByteArray) : (q.act kd t).came.length ≤ q.came.length + t.size := by
  unfold QS.act
  split
  · show 0 ≤ _; omega
  · split
    · show (q.came ++ bl t).length ≤ _; rw [List.length_append, bl_length]; omega
    · split
      · show q.came.length ≤ _; omega
      · omega
end Go.Proofs.Ytpdflpobhmpbpaa
