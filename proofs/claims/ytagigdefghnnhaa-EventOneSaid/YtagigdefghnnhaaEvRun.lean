/- A machine's run, piece by piece, in plain words. They hold of numbers alone. -/
import Derived.Test.YtagigdefghnnhaaEvent
namespace Go.Proofs.Ytagigdefghnnhaa
set_option linter.unusedVariables false
/-- The machine and the events behind some bytes; none: one of them brought an error. -/
def EM.all (d : Nat) : EM → List Int → List Ev → Option (EM × List Ev)
  | m, [], acc => some (m, acc)
  | m, x :: r, acc => if (m.step d x).1 ≠ 0 then none else EM.all d (m.step d x).2.2 r (acc ++ (m.step d x).2.1)
theorem EM.all_append (d : Nat) (l r : List Int) : ∀ (m : EM) (acc : List Ev), EM.all d m (l ++ r) acc = (EM.all d m l acc).bind fun q => EM.all d q.1 r q.2 := by
  induction l with
  | nil => intro m acc; rfl
  | cons x l ih =>
    intro m acc
    rw [List.cons_append, EM.all, EM.all]
    by_cases h : (m.step d x).1 ≠ 0
    · rw [if_pos h, if_pos h]; rfl
    · rw [if_neg h, if_neg h, ih]
theorem EM.run_some (d : Nat) (l : List Int) : ∀ (m : EM) (acc : List Ev) {q : EM × List Ev}, EM.all d m l acc = some q → ∀ r, EM.run d m (l ++ r) acc = EM.run d q.1 r q.2 := by
  induction l with
  | nil => intro m acc q h r; cases h; rfl
  | cons x l ih =>
    intro m acc q h r
    rw [EM.all] at h
    by_cases h1 : (m.step d x).1 ≠ 0
    · rw [if_pos h1] at h; cases h
    · rw [if_neg h1] at h
      rw [List.cons_append, EM.run, if_neg h1]
      exact ih _ _ h r
theorem EM.run_done (d : Nat) {l : List Int} {m : EM} {acc : List Ev} {q : EM × List Ev} (h : EM.all d m l acc = some q) : EM.run d m l acc = (q.2, if q.1.done = true then 0 else 2, q.1.at_) := by
  have := EM.run_some d l m acc h []
  rw [List.append_nil] at this
  rw [this]; rfl
theorem EM.run_none (d : Nat) (l : List Int) : ∀ (m : EM) (acc : List Ev), EM.all d m l acc = none → ∀ r, EM.run d m (l ++ r) acc = EM.run d m l acc := by
  induction l with
  | nil => intro m acc h; cases h
  | cons x l ih =>
    intro m acc h r
    rw [EM.all] at h
    rw [List.cons_append, EM.run, EM.run]
    by_cases h1 : (m.step d x).1 ≠ 0
    · rw [if_pos h1, if_pos h1]
    · rw [if_neg h1] at h
      rw [if_neg h1, if_neg h1]
      exact ih _ _ h r
/-- A byte that brings no error: one more came, and there is none still. -/
theorem EM.step_ok {d : Nat} {m : EM} {x : Int} (h : (m.step d x).1 = 0) : (m.step d x).2.2.at_ = m.at_ + 1 ∧ (m.step d x).2.2.over = 0 ∧ m.over = 0 ∧ m.done = false := by
  revert h
  unfold EM.step headM
  by_cases h0 : m.over ≠ 0
  · rw [if_pos h0]; intro h; exact absurd h h0
  · rw [if_neg h0]
    have hov : m.over = 0 := by simpa using h0
    by_cases h1 : m.done = true
    · rw [if_pos h1]; simp
    · rw [if_neg h1]
      have hdn : m.done = false := by simpa using h1
      by_cases h2 : 0 < m.leaf
      · rw [if_pos h2]
        by_cases h3 : m.leaf = 1
        · rw [if_pos h3]; intro _; exact ⟨rfl, rfl, hov, hdn⟩
        · rw [if_neg h3]; intro _; exact ⟨rfl, hov, hov, hdn⟩
      · rw [if_neg h2]
        by_cases h4 : m.st.head? = some 0
        · rw [if_pos h4]; simp
        · rw [if_neg h4]
          by_cases h5 : (hdGet (m.hd ++ [x])).2.2.2.2.2 = 2
          · rw [if_pos h5]; intro _; exact ⟨rfl, hov, hov, hdn⟩
          · rw [if_neg h5]
            by_cases h6 : (hdGet (m.hd ++ [x])).2.2.2.2.2 ≠ 0
            · rw [if_pos h6]; intro h; exact absurd h h6
            · rw [if_neg h6]
              by_cases h7 : headE d (pays m.st 1) (hdGet (m.hd ++ [x])).2.2.1 (hdGet (m.hd ++ [x])).2.2.2.1 ≠ 0
              · rw [if_pos h7]; intro h; exact absurd h h7
              · rw [if_neg h7]
                intro _
                refine ⟨?_, ?_, hov, hdn⟩
                · show (if _ then _ else _ : EM).at_ = _
                  split
                  · rfl
                  · split <;> rfl
                · show (if _ then _ else _ : EM).over = _
                  split
                  · rfl
                  · split <;> rfl
theorem headE_vals (d : Nat) (st : List Int) (f : Bool) (n : Int) : headE d st f n = 0 ∨ headE d st f n = 5 ∨ headE d st f n = 10 := by
  unfold headE
  split <;> (repeat' split) <;> simp
/-- No byte is told to be cut off. -/
theorem EM.step_two {d : Nat} {m : EM} {x : Int} (h : m.over ≠ 2) : (m.step d x).1 ≠ 2 := by
  unfold EM.step
  by_cases h0 : m.over ≠ 0
  · rw [if_pos h0]; exact h
  · rw [if_neg h0]
    by_cases h1 : m.done = true
    · rw [if_pos h1]; simp
    · rw [if_neg h1]
      by_cases h2 : 0 < m.leaf
      · rw [if_pos h2]; split <;> simp
      · rw [if_neg h2]
        by_cases h4 : m.st.head? = some 0
        · rw [if_pos h4]; simp
        · rw [if_neg h4]
          by_cases h5 : (hdGet (m.hd ++ [x])).2.2.2.2.2 = 2
          · rw [if_pos h5]; simp
          · rw [if_neg h5]
            by_cases h6 : (hdGet (m.hd ++ [x])).2.2.2.2.2 ≠ 0
            · rw [if_pos h6]; exact h5
            · rw [if_neg h6]
              by_cases h7 : headE d (pays m.st 1) (hdGet (m.hd ++ [x])).2.2.1 (hdGet (m.hd ++ [x])).2.2.2.1 ≠ 0
              · rw [if_pos h7]
                show headE d (pays m.st 1) (hdGet (m.hd ++ [x])).2.2.1 (hdGet (m.hd ++ [x])).2.2.2.1 ≠ 2
                have := headE_vals d (pays m.st 1) (hdGet (m.hd ++ [x])).2.2.1 (hdGet (m.hd ++ [x])).2.2.2.1
                omega
              · rw [if_neg h7]; simp
theorem EM.all_at (d : Nat) (l : List Int) : ∀ (m : EM) (acc : List Ev) {q : EM × List Ev}, EM.all d m l acc = some q → m.over = 0 → q.1.at_ = m.at_ + l.length ∧ q.1.over = 0 := by
  induction l with
  | nil => intro m acc q h h0; cases h; exact ⟨rfl, h0⟩
  | cons x l ih =>
    intro m acc q h h0
    rw [EM.all] at h
    by_cases h1 : (m.step d x).1 ≠ 0
    · rw [if_pos h1] at h; cases h
    · rw [if_neg h1] at h
      obtain ⟨s1, s2, _, _⟩ := EM.step_ok (d := d) (m := m) (x := x) (by simpa using h1)
      obtain ⟨q1, q2⟩ := ih _ _ h s2
      exact ⟨by rw [q1, s1, List.length_cons]; omega, q2⟩
theorem EM.all_none (d : Nat) (l : List Int) : ∀ (m : EM) (acc : List Ev), EM.all d m l acc = none → m.over = 0 → (EM.run d m l acc).2.1 ≠ 0 ∧ (EM.run d m l acc).2.1 ≠ 2 ∧ m.at_ ≤ (EM.run d m l acc).2.2 ∧ (EM.run d m l acc).2.2 < m.at_ + l.length := by
  induction l with
  | nil => intro m acc h; cases h
  | cons x l ih =>
    intro m acc h h0
    rw [EM.all] at h
    rw [EM.run]
    by_cases h1 : (m.step d x).1 ≠ 0
    · rw [if_pos h1]
      exact ⟨h1, EM.step_two (by omega), Nat.le_refl _, by simp⟩
    · rw [if_neg h1] at h ⊢
      obtain ⟨s1, s2, _, _⟩ := EM.step_ok (d := d) (m := m) (x := x) (by simpa using h1)
      obtain ⟨q1, q2, q3, q4⟩ := ih _ _ h s2
      rw [s1] at q3 q4
      exact ⟨q1, q2, by omega, by rw [List.length_cons]; omega⟩
/-- A whole element: what stands behind is more; a beginning is cut off. -/
theorem whole_ok {d : Nat} {l : List Int} {L : List Ev} {a : Nat} (h : evWhole d l = (L, 0, a)) :
    a = l.length ∧ (∀ x r, evWhole d (l ++ x :: r) = (L, 6, l.length)) ∧ ∀ n, n < l.length → ∃ L', evWhole d (l.take n) = (L', 2, n) := by
  unfold evWhole at h ⊢
  have h0 : EM.new.over = 0 := rfl
  cases hq : EM.all d EM.new l [] with
  | none =>
    have := (EM.all_none d l EM.new [] hq h0).1
    rw [h] at this
    exact absurd rfl this
  | some q =>
    obtain ⟨q1, q2⟩ := EM.all_at d l EM.new [] hq h0
    have q1 : q.1.at_ = l.length := by rw [q1]; show 0 + l.length = l.length; omega
    have hr := EM.run_done d hq
    rw [h] at hr
    have hdone : q.1.done = true := by
      by_cases hd : q.1.done = true
      · exact hd
      · rw [if_neg hd] at hr
        simp at hr
    rw [if_pos hdone] at hr
    simp only [Prod.mk.injEq] at hr
    refine ⟨by rw [hr.2.2, q1], ?_, ?_⟩
    · intro x r
      rw [EM.run_some d l EM.new [] hq (x :: r), EM.run]
      have hst : EM.step d q.1 x = (6, [], { q.1 with over := 6 }) := by
        unfold EM.step
        rw [if_neg (by simpa using q2), if_pos hdone]
      rw [hst, if_pos (show (6 : Int) ≠ 0 by decide), hr.1, q1]
    · intro n hn
      have hsp : l.take n ++ l.drop n = l := List.take_append_drop n l
      have hal := EM.all_append d (l.take n) (l.drop n) EM.new []
      rw [hsp, hq] at hal
      cases hq2 : EM.all d EM.new (l.take n) [] with
      | none => rw [hq2] at hal; cases hal
      | some q' =>
        rw [hq2] at hal
        obtain ⟨p1, p2⟩ := EM.all_at d _ EM.new [] hq2 h0
        have hnd : q'.1.done = false := by
          obtain ⟨x, r, hx⟩ : ∃ x r, l.drop n = x :: r := by
            cases hd : l.drop n with
            | nil => have := congrArg List.length hd; rw [List.length_drop] at this; simp at this; omega
            | cons x r => exact ⟨x, r, rfl⟩
          have hal : some q = EM.all d q'.1 (l.drop n) q'.2 := hal
          rw [hx, EM.all] at hal
          by_cases hs : (q'.1.step d x).1 ≠ 0
          · rw [if_pos hs] at hal; cases hal
          · exact (EM.step_ok (d := d) (m := q'.1) (x := x) (by simpa using hs)).2.2.2
        refine ⟨q'.2, ?_⟩
        rw [EM.run_done d hq2, if_neg (by simp [hnd]), p1]
        show (_, _, 0 + (l.take n).length) = _
        rw [List.length_take]
        congr 2
        omega
end Go.Proofs.Ytagigdefghnnhaa
