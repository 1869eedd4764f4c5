/- Layer 9: what a text's beginning brings about, in plain words. -/
import Derived.Test.YtoklcnfpeipalaaE4
namespace Go.Proofs.Ytoklcnfpeipalaa
open Go.RowKit Go.PlainAid
set_option linter.unusedVariables false
theorem popE_at (st : List Int) (p : Nat) : ∀ e ∈ popE st p, e.at_ = (p : Int) := by
  induction st with
  | nil => intro e he; simp [popE] at he
  | cons x r ih =>
    intro e he
    rw [popE] at he
    by_cases h : x = 0
    · rw [if_pos h] at he
      rcases List.mem_cons.1 he with rfl | h2
      · rfl
      · exact ih e h2
    · rw [if_neg h] at he; simp at he
/-- A byte's events have its place. -/
theorem EM.step_at {d : Nat} {m : EM} {x : Int} : ∀ e ∈ (m.step d x).2.1, e.at_ = (m.at_ : Int) := by
  intro e he
  unfold EM.step at he
  by_cases h0 : m.over ≠ 0
  · rw [if_pos h0] at he; simp at he
  · rw [if_neg h0] at he
    by_cases h1 : m.done = true
    · rw [if_pos h1] at he; simp at he
    · rw [if_neg h1] at he
      by_cases h2 : 0 < m.leaf
      · rw [if_pos h2] at he
        by_cases h3 : m.leaf = 1
        · rw [if_pos h3] at he
          rcases List.mem_cons.1 he with rfl | h4
          · rfl
          · rcases List.mem_cons.1 h4 with rfl | h5
            · rfl
            · exact popE_at _ _ e h5
        · rw [if_neg h3] at he
          have : e = evByte m.at_ x := by simpa using he
          subst this; rfl
      · rw [if_neg h2] at he
        by_cases h4 : m.st.head? = some 0
        · rw [if_pos h4] at he; simp at he
        · rw [if_neg h4] at he
          by_cases h5 : (hdGet (m.hd ++ [x])).2.2.2.2.2 = 2
          · rw [if_pos h5] at he; simp at he
          · rw [if_neg h5] at he
            by_cases h6 : (hdGet (m.hd ++ [x])).2.2.2.2.2 ≠ 0
            · rw [if_pos h6] at he; simp at he
            · rw [if_neg h6] at he
              by_cases h7 : headE d (pays m.st 1) (hdGet (m.hd ++ [x])).2.2.1 (hdGet (m.hd ++ [x])).2.2.2.1 ≠ 0
              · rw [if_pos h7] at he; simp at he
              · rw [if_neg h7] at he
                have he : e ∈ headL (pays m.st 1) m.at_ (hdGet (m.hd ++ [x])).1 (hdGet (m.hd ++ [x])).2.1 (hdGet (m.hd ++ [x])).2.2.1 (hdGet (m.hd ++ [x])).2.2.2.1 := he
                generalize (hdGet (m.hd ++ [x])).2.2.1 = f at he
                generalize (hdGet (m.hd ++ [x])).2.2.2.1 = n at he
                cases f with
                | true =>
                  rw [headL_open] at he
                  rcases List.mem_cons.1 he with rfl | h8
                  · rfl
                  · exact popE_at _ _ e h8
                | false =>
                  by_cases hn : n = 0
                  · subst hn
                    rw [headL_none] at he
                    rcases List.mem_cons.1 he with rfl | h8
                    · rfl
                    · rcases List.mem_cons.1 h8 with rfl | h9
                      · rfl
                      · exact popE_at _ _ e h9
                  · rw [headL_leaf hn] at he
                    have := List.mem_singleton.1 he
                    subst this; rfl
/-- What a run adds has the places of its bytes. -/
theorem EM.run_at (d : Nat) (l : List Int) : ∀ (m : EM) (acc : List Ev), m.over = 0 → ∃ R, (EM.run d m l acc).1 = acc ++ R ∧ ∀ e ∈ R, (m.at_ : Int) ≤ e.at_ ∧ e.at_ < (EM.run d m l acc).2.2 := by
  induction l with
  | nil => intro m acc _; exact ⟨[], by simp [EM.run], by simp⟩
  | cons x l ih =>
    intro m acc h0
    rw [EM.run]
    by_cases h1 : (m.step d x).1 ≠ 0
    · rw [if_pos h1]; exact ⟨[], by simp, by simp⟩
    · rw [if_neg h1]
      obtain ⟨s1, s2, _, _⟩ := EM.step_ok (d := d) (m := m) (x := x) (by simpa using h1)
      obtain ⟨R, r1, r2⟩ := ih (m.step d x).2.2 (acc ++ (m.step d x).2.1) s2
      refine ⟨(m.step d x).2.1 ++ R, by rw [r1, List.append_assoc], ?_⟩
      have hge : m.at_ + 1 ≤ (EM.run d (m.step d x).2.2 l (acc ++ (m.step d x).2.1)).2.2 := by
        cases hq : EM.all d (m.step d x).2.2 l (acc ++ (m.step d x).2.1) with
        | none => have := (EM.all_none d l _ _ hq s2).2.2.1; omega
        | some q =>
          rw [EM.run_done d hq]
          have := (EM.all_at d l _ _ hq s2).1
          show m.at_ + 1 ≤ q.1.at_
          omega
      intro e he
      rcases List.mem_append.1 he with h2 | h2
      · rw [EM.step_at e h2]; omega
      · have := r2 e h2
        omega
/-- A beginning's events are those that its bytes bring about. -/
theorem evW_front {b : ByteArray} {dep : Int} {n : Nat} (hn : n ≤ b.size) {L L' : List Ev} {E E' : Int} {P P' : Nat} (h : evW b dep = (L, E, P)) (h' : evW (b.extract 0 n) dep = (L', E', P')) :
    L.filter (fun e => decide (e.at_ < (n : Int))) = L' ∧ P' ≤ n ∧ (P' < n ∨ E' = 0 ∨ E' = 2) := by
  unfold evW evWhole at h h'
  rw [bl_extract _ _ _ hn, List.drop_zero, Nat.sub_zero] at h'
  have hsp : (bl b).take n ++ (bl b).drop n = bl b := List.take_append_drop n (bl b)
  have hlen : ((bl b).take n).length = n := by rw [List.length_take, bl_length]; omega
  rw [← hsp] at h
  cases hq : EM.all (evMost dep) EM.new ((bl b).take n) [] with
  | none =>
    rw [EM.run_none _ _ _ _ hq] at h
    rw [h] at h'
    simp only [Prod.mk.injEq] at h'
    obtain ⟨rfl, rfl, rfl⟩ := h'
    obtain ⟨_, _, _, q4⟩ := EM.all_none _ _ _ _ hq rfl
    rw [h] at q4
    have q4 : P < 0 + ((bl b).take n).length := q4
    obtain ⟨R, r1, r2⟩ := EM.run_at (evMost dep) ((bl b).take n) EM.new [] rfl
    rw [h] at r1 r2
    have r1 : L = [] ++ R := r1
    rw [List.nil_append] at r1
    subst r1
    refine ⟨List.filter_eq_self.2 (fun e he => ?_), by omega, .inl (by omega)⟩
    have h2 := (r2 e he).2
    have h2 : e.at_ < (P : Int) := h2
    simp; omega
  | some q =>
    obtain ⟨q1, q2⟩ := EM.all_at _ _ _ _ hq rfl
    have q1 : q.1.at_ = n := by rw [q1, hlen]; show 0 + n = n; omega
    rw [EM.run_done _ hq, q1] at h'
    simp only [Prod.mk.injEq] at h'
    obtain ⟨rfl, hE, rfl⟩ := h'
    rw [EM.run_some _ _ _ _ hq] at h
    obtain ⟨R, r1, r2⟩ := EM.run_at (evMost dep) ((bl b).drop n) q.1 q.2 q2
    rw [h] at r1 r2
    have r1 : L = q.2 ++ R := r1
    obtain ⟨S, s1, s2⟩ := EM.run_at (evMost dep) ((bl b).take n) EM.new [] rfl
    rw [EM.run_done _ hq, q1] at s1 s2
    have s1 : q.2 = [] ++ S := s1
    rw [List.nil_append] at s1
    refine ⟨?_, Nat.le_refl _, .inr ?_⟩
    · rw [r1, List.filter_append, List.filter_eq_self.2, List.filter_eq_nil_iff.2, List.append_nil]
      · intro e he
        have := (r2 e he).1
        rw [q1] at this
        simp; omega
      · intro e he
        have h2 := (s2 e (s1 ▸ he)).2
        have h2 : e.at_ < (n : Int) := h2
        simp; omega
    · rw [← hE]
      split
      · exact .inl rfl
      · exact .inr rfl
end Go.Proofs.Ytoklcnfpeipalaa
