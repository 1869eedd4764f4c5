/- A window's states: what a peek and a take make of them, and what stays. -/
import Derived.Test.YtlaeoacaihooiaaWin
import Derived.PlainAid
namespace Go.Proofs.Ytlaeoacaihooiaa
open Go.PlainAid
set_option linter.unusedVariables false
def clampI (n low high : Int) : Int := if n < low then low else if high < n then high else n
theorem clampI_in {n low high : Int} (h : low ≤ high) : low ≤ clampI n low high ∧ clampI n low high ≤ high := by
  unfold clampI; split
  · omega
  · split <;> omega
/-- How much was given, how much taken, how often it was read, the source's end, the window's. -/
structure WS where
  g : Nat
  at_ : Nat
  c : Nat
  o : Int
  e : Int
  deriving DecidableEq
structure WS.ok (D : ByteArray) (S : List (Int × Int)) (m : Int) (z : Nat) (s : WS) : Prop where
  top : s.g ≤ D.size
  low : s.at_ ≤ s.g
  held : (s.g : Int) - s.at_ ≤ m
  on : s.e = 0 → s.o = 0 ∧ s.c ≤ S.length + s.g ∧ s.c ≤ (1 + z) * s.g
  err : s.e = 0 ∨ s.e = 12 ∨ s.e = 13 ∨ s.e = 14
  cost : s.c ≤ (1 + z) * (s.g + 1)
  src : s.o = 0 ∨ s.o = 1 ∨ s.o = 2
def WS.start : WS := ⟨0, 0, 0, 0, 0⟩
def WS.peek (D : ByteArray) (S : List (Int × Int)) (m : Int) (z : Nat) (s : WS) : WS :=
  if s.at_ = s.g ∧ s.e = 0 then ⟨(fillM D S m z (fuel D S s.c) 0 s.g s.c).1, s.at_, (fillM D S m z (fuel D S s.c) 0 s.g s.c).2.1, (fillM D S m z (fuel D S s.c) 0 s.g s.c).2.2.1, (fillM D S m z (fuel D S s.c) 0 s.g s.c).2.2.2⟩ else s
def WS.take (s : WS) : WS := if s.at_ < s.g then { s with at_ := s.at_ + 1 } else s
def WS.byte (D : ByteArray) (s : WS) : Int := if s.at_ < s.g then bt D s.at_ else 0
def WS.code (s : WS) : Int := if s.at_ < s.g then 0 else s.e
def WS.run (D : ByteArray) (S : List (Int × Int)) (m : Int) (z : Nat) (s : WS) : Nat × Nat × Int :=
  if s.e = 0 then runM D S m z (fuel D S s.c) 0 s.g s.c else (s.g, s.c, s.e)
section
variable {D : ByteArray} {S : List (Int × Int)} {m : Int} {z : Nat}
theorem fill_cost : ∀ (f nn g c : Nat), nn ≤ z → (fillM D S m z f nn g c).2.1 ≤ c + (z + 1 - nn)
  | 0, nn, g, c, h => by simp [fillM]
  | f + 1, nn, g, c, h => by
    rw [fillM_succ]
    split
    · simp; omega
    · split
      · simp; omega
      · split
        · simp; omega
        · split
          · simp; omega
          · have := fill_cost f (nn + 1) g (c + 1) (by omega)
            omega
theorem WS.start_ok (hm : 1 ≤ m) : WS.start.ok D S m z := ⟨Nat.zero_le _, Nat.le_refl _, by simp [WS.start]; omega, fun _ => ⟨rfl, Nat.zero_le _, Nat.zero_le _⟩, .inl rfl, Nat.zero_le _, .inl rfl⟩
theorem WS.peek_ok (hm : 1 ≤ m) {s : WS} (h : s.ok D S m z) : (s.peek D S m z).ok D S m z := by
  unfold WS.peek
  split
  · next hc =>
    obtain ⟨h1, h2⟩ := hc
    obtain ⟨ho, hcs, hcz⟩ := h.on h2
    have hf := fill_spec (z := z) hm (fuel D S s.c) 0 s.g s.c h.top hcs (by unfold fuel; have := h.top; omega)
    have hk := fill_cost (D := D) (S := S) (m := m) (z := z) (fuel D S s.c) 0 s.g s.c (Nat.zero_le _)
    generalize fillM D S m z (fuel D S s.c) 0 s.g s.c = r at *
    have hup := hf.up
    have hmul : (1 + z) * s.g ≤ (1 + z) * r.1 := Nat.mul_le_mul_left _ hup
    refine ⟨hf.top, by show s.at_ ≤ r.1; omega, by show (r.1 : Int) - s.at_ ≤ m; have := hf.room; omega, fun e => ?_, ?_, ?_, ?_⟩
    · rcases hf.ends with ⟨_, e2, e3, e4⟩ | ⟨e1, _⟩ | ⟨e1, _⟩ | ⟨e1, _⟩
      · refine ⟨e2, e4, ?_⟩
        show r.2.1 ≤ (1 + z) * r.1
        have : (1 + z) * (s.g + 1) ≤ (1 + z) * r.1 := Nat.mul_le_mul_left _ e3
        rw [Nat.mul_add] at this
        omega
      all_goals (exact absurd (e1.symm.trans e) (by decide))
    · show r.2.2.2 = 0 ∨ _
      rcases hf.ends with ⟨e1, _⟩ | ⟨e1, _⟩ | ⟨e1, _⟩ | ⟨e1, _⟩ <;> simp [e1]
    · show r.2.1 ≤ (1 + z) * (r.1 + 1)
      rw [Nat.mul_add]; omega
    · show r.2.2.1 = 0 ∨ _
      rcases hf.ends with ⟨_, e1, _⟩ | ⟨_, e1⟩ | ⟨_, e1, _⟩ | ⟨_, e1, _⟩ <;> simp [e1]
  · exact h
theorem WS.peek_at (s : WS) : (s.peek D S m z).at_ = s.at_ := by unfold WS.peek; split <;> rfl
theorem WS.peek_run (hm : 1 ≤ m) {s : WS} (h : s.ok D S m z) : (s.peek D S m z).run D S m z = s.run D S m z := by
  unfold WS.peek
  split
  · next hc =>
    obtain ⟨h1, h2⟩ := hc
    obtain ⟨ho, hcs, _⟩ := h.on h2
    have hr := run_fill (z := z) hm (fuel D S s.c) 0 s.g s.c h.top hcs (by unfold fuel; have := h.top; omega)
    unfold WS.run
    rw [if_pos h2, hr]
  · rfl
theorem WS.peek_done (hm : 1 ≤ m) {s : WS} (h : s.ok D S m z) (hd : (s.peek D S m z).at_ = (s.peek D S m z).g) : (s.peek D S m z).e ≠ 0 := by
  unfold WS.peek at hd ⊢
  split at hd
  · next hc =>
    rw [if_pos hc]
    obtain ⟨h1, h2⟩ := hc
    obtain ⟨ho, hcs, _⟩ := h.on h2
    have hf := fill_spec (z := z) hm (fuel D S s.c) 0 s.g s.c h.top hcs (by unfold fuel; have := h.top; omega)
    generalize fillM D S m z (fuel D S s.c) 0 s.g s.c = r at *
    simp only at hd ⊢
    rcases hf.ends with ⟨_, _, e3, _⟩ | ⟨e1, _⟩ | ⟨e1, _⟩ | ⟨e1, _⟩
    · omega
    all_goals rw [e1]; decide
  · next hc =>
    rw [if_neg hc]
    exact fun e => hc ⟨hd, e⟩
theorem WS.peek_same {s : WS} (h : ¬ (s.at_ = s.g ∧ s.e = 0)) : s.peek D S m z = s := by unfold WS.peek; rw [if_neg h]
theorem WS.peek_peek (hm : 1 ≤ m) {s : WS} (h : s.ok D S m z) : (s.peek D S m z).peek D S m z = s.peek D S m z :=
  WS.peek_same fun hc => WS.peek_done hm h hc.1 hc.2
theorem WS.peek_over {s : WS} (h : s.e ≠ 0) : s.peek D S m z = s := WS.peek_same fun hc => h hc.2
theorem WS.take_ok {s : WS} (h : s.ok D S m z) : s.take.ok D S m z := by
  unfold WS.take
  split
  · next hl => exact ⟨h.top, hl, by have := h.held; simp; omega, h.on, h.err, h.cost, h.src⟩
  · exact h
theorem WS.take_run (s : WS) : s.take.run D S m z = s.run D S m z := by unfold WS.take; split <;> rfl
theorem WS.run_ge (hm : 1 ≤ m) {s : WS} (h : s.ok D S m z) : s.g ≤ (s.run D S m z).1 ∧ (s.run D S m z).1 ≤ D.size := by
  unfold WS.run
  split
  · exact Go.Proofs.Ytlaeoacaihooiaa.run_ge hm _ _ _ _ h.top
  · exact ⟨Nat.le_refl _, h.top⟩
theorem WS.run_over {s : WS} (h : s.e ≠ 0) : s.run D S m z = (s.g, s.c, s.e) := by unfold WS.run; rw [if_neg h]
/-- One byte more, if there is one: then the run goes on; else the window is over, and the run is what it is. -/
theorem WS.next_cases (hm : 1 ≤ m) {s : WS} (h : s.ok D S m z) : (s.at_ < (s.run D S m z).1 ∧ (s.peek D S m z).at_ < (s.peek D S m z).g) ∨ (s.at_ = (s.run D S m z).1 ∧ (s.peek D S m z).at_ = (s.peek D S m z).g ∧ (s.peek D S m z).e ≠ 0 ∧ s.run D S m z = ((s.peek D S m z).g, (s.peek D S m z).c, (s.peek D S m z).e)) := by
  have hp := WS.peek_ok hm h
  have hr := WS.peek_run hm h
  have ha := WS.peek_at (D := D) (S := S) (m := m) (z := z) s
  have hd := WS.peek_done hm h
  have hge := WS.run_ge hm hp
  rw [hr] at hge
  have hlow := hp.low
  rcases Nat.lt_or_ge (s.peek D S m z).at_ (s.peek D S m z).g with hlt | hge2
  · exact .inl ⟨by omega, hlt⟩
  · have he := hd (by omega)
    have hro := WS.run_over (D := D) (S := S) (m := m) (z := z) he
    rw [hr] at hro
    refine .inr ⟨?_, by omega, he, hro⟩
    rw [hro]; show s.at_ = (s.peek D S m z).g
    omega
end
end Go.Proofs.Ytlaeoacaihooiaa
