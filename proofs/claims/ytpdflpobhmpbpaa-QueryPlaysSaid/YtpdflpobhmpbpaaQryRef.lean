/- Queries of the code's and the reference's side by side: QR says that the code's state is q, the reference's p, and that nothing else has changed since the world a. -/
import Derived.Test.YtpdflpobhmpbpaaQrySide
namespace Go.Proofs.Ytpdflpobhmpbpaa
open Go.RowKit Go.PlainAid
set_option linter.unusedVariables false
theorem Ans.rowOf {w : World} {base g n c : Nat} {l : List QAns} (h : Ans w base (.slice (some ⟨g, 0, none⟩) n c) l) : ∃ L, Row w g 43 L ∧ n * 2 ≤ L.length := by
  obtain ⟨hl, ⟨hv, _⟩ | ⟨gv, cap, cur, hv, hg, hh, hn, hcp, hs, ht⟩⟩ := h
  · cases hv
  · injection hv with e1 e2 e3
    injection e1 with e1
    injection e1 with e1
    subst e1; subst e3
    refine ⟨cur.toList, ?_, by rw [Array.length_toList, hs, e2]; omega⟩
    unfold Row; simpa using hh
theorem chg_set18 (w : World) (g o : Nat) (u : Value) : Chg (fun i => i = g) w (w.setCell ⟨g, o, none⟩ u) := ⟨rfl, rfl, rfl, by simp, fun i hi hn => Below.heap_setCell w _ _ i hn⟩
structure QR (a w : World) (ox : Option Addr) (c : Nat) (l : List ByteArray) (k : Nat) (F : Nat → Prop) (q : QS) (g : Nat) (p : QS) (v : Value) : Prop where
  on : QOn QAt a w k F l q
  r : ∃ base, RQ w g base ox c l p v ∧ base ≤ w.heap.size
  dg : ¬ F g
  dv : ∀ b, v.ownBlock = some b → ¬ F b ∧ b ≠ g
  gw : a.heap.size ≤ g
section
variable {a w w' : World} {ox : Option Addr} {c : Nat} {l : List ByteArray} {k : Nat} {F F' : Nat → Prop} {q q' : QS} {g : Nat} {p p' : QS} {v v' : Value}
theorem QR.row (h : QR a w ox c l k F q g p v) : Row w g 39 [.slice ox l.length c, v, .string (strOfNums p.came), .bool p.begun] := by
  obtain ⟨_, h1, _⟩ := h.r; exact h1.1
theorem QR.ans (h : QR a w ox c l k F q g p v) : ∃ base, Ans w base v (p.found l) := by
  obtain ⟨b, h1, _⟩ := h.r; exact ⟨b, h1.2⟩
theorem QR.vlt (h : QR a w ox c l k F q g p v) {b : Nat} (hb : v.ownBlock = some b) : b < w.heap.size := by
  obtain ⟨_, h1, _⟩ := h.r; exact (h1.2.ob hb).2
theorem QR.below (h : QR a w ox c l k F q g p v) (hb : Below w.heap.size w w') : QR a w' ox c l k F q g p v := by
  obtain ⟨base, h1, h2⟩ := h.r
  exact ⟨h.on.below qrySpec hb, ⟨base, ⟨h1.1.below hb h1.1.lt, h1.2.below hb⟩, Nat.le_trans h2 hb.size⟩, h.dg, h.dv, h.gw⟩
theorem QR.drewN (h : QR a w ox c l k F q g p v) (n : Nat) : QR a (w.drewN n) ox c l k F q g p v := h.below ⟨rfl, rfl, rfl, Nat.le_refl _, fun _ _ => rfl⟩
/-- One block aside changes. -/
theorem QR.aside (h : QR a w ox c l k F q g p v) {b : Nat} (hc : Chg (fun i => i = b) w w') (hf : ¬ F b) (hg : b ≠ g) (hv : v.ownBlock ≠ some b) (hb : a.heap.size ≤ b) : QR a w' ox c l k F q g p v := by
  obtain ⟨base, h1, h2⟩ := h.r
  refine ⟨h.on.beside qrySpec hc (fun i hi e => hf (by subst e; exact hi)) (Chg.to_below h.on.bel hc (fun i e => by subst e; exact hb)), ⟨base, ⟨h1.1.chg hc (fun e => hg e.symm), h1.2.chg hc (fun i hi e => hv (by subst e; exact hi))⟩, Nat.le_trans h2 hc.size⟩, h.dg, h.dv, h.gw⟩
/-- The blocks that the code's calls leave as they are: a box, and the reference's. -/
def QR.S (kb g : Nat) (v : Value) : Nat → Prop := fun i => i = kb ∨ i = g ∨ v.ownBlock = some i
theorem QR.side (h : QR a w ox c l k F q g p v) {kb : Nat} (hk : kb < w.heap.size) (hf : ¬ F kb) : QSd a w w (QR.S kb g v) k F l q :=
  QSd.start h.on (fun i hi => by
    rcases hi with rfl | rfl | hi
    · exact hk
    · exact h.row.lt
    · exact h.vlt hi) (fun i hi hF => by
    rcases hi with rfl | rfl | hi
    · exact hf hF
    · exact h.dg hF
    · exact (h.dv i hi).1 hF)
theorem QR.back (h : QR a w ox c l k F q g p v) {kb : Nat} (hs : QSd a w w' (QR.S kb g v) k F' l q') : QR a w' ox c l k F' q' g p v := by
  obtain ⟨base, h1, h2⟩ := h.r
  refine ⟨hs.on, ⟨base, ⟨hs.row h1.1 (.inr (.inl rfl)), ?_⟩, Nat.le_trans h2 hs.sz⟩, fun f => hs.dj g (.inr (.inl rfl)) f, fun b hb => ⟨fun f => hs.dj b (.inr (.inr hb)) f, (h.dv b hb).2⟩, h.gw⟩
  obtain ⟨hl, h3 | ⟨gv, cap, cur, hv, hg, hh, hn⟩⟩ := h1.2
  · exact ⟨hl, .inl h3⟩
  · refine ⟨hl, .inr ⟨gv, cap, cur, hv, hg, ?_, hn⟩⟩
    rw [hs.same gv (.inr (.inr (by rw [hv]; rfl)))]; exact hh
/-- The reference's row changes in two cells. -/
theorem QR.came (h : QR a w ox c l k F q g p v) (s : List Int) : QR a (w.setCell ⟨g, 2, none⟩ (.string (strOfNums s))) ox c l k F q g ⟨p.ans, s, p.begun⟩ v := by
  have hc : Chg (fun i => i = g) w (w.setCell ⟨g, 2, none⟩ (.string (strOfNums s))) := ⟨rfl, rfl, rfl, by simp, fun i hi hn => Below.heap_setCell w _ _ i hn⟩
  obtain ⟨base, h1, h2⟩ := h.r
  refine ⟨h.on.beside qrySpec hc (fun i hi e => h.dg (by subst e; exact hi)) (Chg.to_below h.on.bel hc (fun i e => by subst e; exact h.gw)), ⟨base, ⟨?_, h1.2.chg hc (fun i hi e => (h.dv i hi).2 e)⟩, Nat.le_trans h2 hc.size⟩, h.dg, h.dv, h.gw⟩
  exact h1.1.set 2 _
theorem QR.begun (h : QR a w ox c l k F q g p v) (b : Bool) : QR a (w.setCell ⟨g, 3, none⟩ (.bool b)) ox c l k F q g ⟨p.ans, p.came, b⟩ v := by
  have hc : Chg (fun i => i = g) w (w.setCell ⟨g, 3, none⟩ (.bool b)) := ⟨rfl, rfl, rfl, by simp, fun i hi hn => Below.heap_setCell w _ _ i hn⟩
  obtain ⟨base, h1, h2⟩ := h.r
  refine ⟨h.on.beside qrySpec hc (fun i hi e => h.dg (by subst e; exact hi)) (Chg.to_below h.on.bel hc (fun i e => by subst e; exact h.gw)), ⟨base, ⟨?_, h1.2.chg hc (fun i hi e => (h.dv i hi).2 e)⟩, Nat.le_trans h2 hc.size⟩, h.dg, h.dv, h.gw⟩
  exact h1.1.set 3 _
theorem QR.dateR (h : QR a w ox c l k F q g p v) (d : ByteArray) (hC : Came w ox (svs l)) (hl : l.length ≤ c) (hc : c ≤ maxLen) (hn : l.length ≤ 100000000) (hok : p.Ok) :
    Calls Try.prog 18 #[.pointer (some ⟨g, 0, none⟩), .string d] w fun r w' => ∃ v', r = .returned (.tuple #[]) ∧ QR a w' ox c l k F q g (p.date d) v' := by
  obtain ⟨base, h1, h2⟩ := h.r
  refine (refQDate_any d h1 hC hl hc hn hok h2 (fun b hb => (h.dv b hb).2)).mono ?_
  rintro r w' ⟨v', rfl, h3, h4⟩
  refine ⟨v', rfl, h.on.beside qrySpec h4 (fun i hi e => h.dg (by subst e; exact hi)) (Chg.to_below h.on.bel h4 (fun i e => by subst e; exact h.gw)), ⟨w.heap.size, h3, h4.size⟩, h.dg, fun b hb => ?_, h.gw⟩
  have hb1 := (h3.2.ob hb).1
  exact ⟨fun f => by have := qrySpec.lt h.on.at_ b f; omega, fun e => by have := h1.1.lt; omega⟩
theorem QR.newR (hx : QOn QAt a w k F l q) (ox : Option Addr) (c : Nat) (hl : l.length ≤ 100000000) :
    Calls Try.prog 14 #[.slice ox l.length c] w fun r w' => ∃ v g, r = .returned (.pointer (some ⟨g, 0, none⟩)) ∧ QR a w' ox c l k F q g QS.zero v := by
  refine (refQNew_any ox c l w hl).mono ?_
  rintro r w' ⟨v, rfl, h1, h2⟩
  refine ⟨v, w.heap.size, rfl, hx.below qrySpec h2, ⟨_, h1, h1.1.lt⟩, fun f => by have := qrySpec.lt hx.at_ _ f; omega, fun b hb => ?_, hx.bel.size⟩
  have hb1 := (h1.2.ob hb).1
  exact ⟨fun f => by have := qrySpec.lt hx.at_ b f; omega, fun e => by omega⟩
theorem QR.answers (h : QR a w ox c l k F q g p v) {A : List QAns} (hq : q.found l = A) :
    Calls Try.prog 13 #[.pointer (some ⟨k, 0, none⟩)] w fun r w' => ∃ u, r = .returned u ∧ Ans w' w.heap.size u A ∧ QR a w' ox c l k F q g p v ∧ ∀ b, u.ownBlock = some b → ¬ F b ∧ b ≠ g ∧ v.ownBlock ≠ some b ∧ a.heap.size ≤ b := by
  refine (qrySpec.answers_on h.on hq).mono ?_
  rintro r w' ⟨u, rfl, h1, _, h3⟩
  refine ⟨u, rfl, h1, h.below h3, fun b hb => ?_⟩
  have hb1 := (h1.ob hb).1
  exact ⟨fun f => by have := qrySpec.lt h.on.at_ b f; omega, fun e => by have := h.row.lt; omega, fun e => by have := h.vlt e; omega, Nat.le_trans h.on.bel.size hb1⟩
end
end Go.Proofs.Ytpdflpobhmpbpaa
