/- A stack of open elements, in plain words: how many bytes each has left, the innermost first. Under no condition on the program. -/
import Derived.Test.YtagigdefghnnhaaNum
namespace Go.Proofs.Ytagigdefghnnhaa
set_option linter.unusedVariables false
/-- How many can be open, and what each has left, the innermost first. -/
structure SS where
  most : Nat
  st : List Int
/-- Each has a number of bytes left, and no more are open than can be. -/
structure SS.ok (s : SS) : Prop where
  most : s.most ≤ 64
  len : s.st.length ≤ s.most
  bd : ∀ x ∈ s.st, 0 ≤ x ∧ x ≤ 9223372036854775807
def SS.new (depth : Int) : SS := ⟨(max 0 (min depth 64)).toNat, []⟩
def SS.last (s : SS) : Int := match s.st with | [] => -1 | x :: _ => x
def SS.depth (s : SS) : Int := s.st.length
/-- Enter: what is told, and the stack behind it. -/
def SS.enterE (s : SS) (n : Int) : Int :=
  if n < 0 then 1
  else if 0 ≤ s.last ∧ s.last < n then 5
  else if s.most ≤ s.st.length then 10
  else 0
/-- The innermost one has so many bytes fewer left. -/
def pay : List Int → Int → List Int
  | [], _ => []
  | x :: r, n => (x - n) :: r
def SS.enter (s : SS) (n : Int) : SS :=
  if s.enterE n = 0 then ⟨s.most, n :: pay s.st n⟩ else s
def SS.takeE (s : SS) : Int := if s.last = 0 then 5 else 0
def SS.take (s : SS) : SS := match s.st with | [] => s | x :: r => if x = 0 then s else ⟨s.most, (x - 1) :: r⟩
def SS.leaveB (s : SS) : Bool := decide (s.last = 0)
def SS.leave (s : SS) : SS := if s.last = 0 then ⟨s.most, s.st.tail⟩ else s
theorem SS.new_ok (depth : Int) : (SS.new depth).ok := ⟨by unfold SS.new; simp only []; omega, by unfold SS.new; simp, by unfold SS.new; simp⟩
theorem SS.last_bd {s : SS} (h : s.ok) : -1 ≤ s.last ∧ s.last ≤ 9223372036854775807 := by
  unfold SS.last
  split
  · decide
  · rename_i x r hs
    have := h.bd x (by rw [hs]; exact List.mem_cons_self ..)
    omega
theorem SS.last_none {s : SS} (h : s.ok) : s.last = -1 ↔ s.st = [] := by
  unfold SS.last
  split
  · rename_i hs; simp [hs]
  · rename_i x r hs
    have := h.bd x (by rw [hs]; exact List.mem_cons_self ..)
    simp [hs]; omega
theorem SS.enter_ok {s : SS} (h : s.ok) (n : Int) (hn : n ≤ 9223372036854775807) : (s.enter n).ok := by
  unfold SS.enter
  split
  · rename_i he
    unfold SS.enterE at he
    by_cases c1 : n < 0
    · rw [if_pos c1] at he; simp at he
    · rw [if_neg c1] at he
      by_cases c2 : 0 ≤ s.last ∧ s.last < n
      · rw [if_pos c2] at he; simp at he
      · rw [if_neg c2] at he
        by_cases c3 : s.most ≤ s.st.length
        · rw [if_pos c3] at he; simp at he
        · refine ⟨h.most, ?_, ?_⟩
          · show (n :: _).length ≤ s.most
            rw [List.length_cons]
            cases hs : s.st with
            | nil => rw [hs] at c3; simp [pay] at c3 ⊢; omega
            | cons x r => rw [hs] at c3; simp [pay] at c3 ⊢; omega
          · intro y hy
            have hy2 : y = n ∨ y ∈ pay s.st n := by simpa using hy
            rcases hy2 with rfl | hy2
            · omega
            · cases hs : s.st with
              | nil => rw [hs] at hy2; simp [pay] at hy2
              | cons x r =>
                rw [hs] at hy2
                have hx := h.bd x (by rw [hs]; exact List.mem_cons_self ..)
                have hl : s.last = x := by unfold SS.last; rw [hs]
                rcases List.mem_cons.1 hy2 with rfl | hy3
                · rw [hl] at c2; omega
                · exact h.bd y (by rw [hs]; exact List.mem_cons_of_mem _ hy3)
  · exact h
theorem SS.take_ok {s : SS} (h : s.ok) : s.take.ok := by
  unfold SS.take
  split
  · exact h
  · rename_i x r hs
    have hx := h.bd x (by rw [hs]; exact List.mem_cons_self ..)
    split
    · exact h
    · refine ⟨h.most, ?_, ?_⟩
      · have := h.len; rw [hs] at this; exact this
      · intro y hy
        rcases List.mem_cons.1 hy with rfl | hy2
        · omega
        · exact h.bd y (by rw [hs]; exact List.mem_cons_of_mem _ hy2)
theorem SS.leave_ok {s : SS} (h : s.ok) : s.leave.ok := by
  unfold SS.leave
  split
  · refine ⟨h.most, ?_, fun y hy => h.bd y (List.mem_of_mem_tail hy)⟩
    have := h.len
    show s.st.tail.length ≤ s.most
    rw [List.length_tail]; omega
  · exact h
end Go.Proofs.Ytagigdefghnnhaa
