/- A window over a source whose calls all give bytes: how often it has read behind so many bytes taken; a greater window reads no more often. -/
import Derived.Test.YtlaeoacaihooiaaWinSpec
namespace Go.Proofs.Ytlaeoacaihooiaa
open Go.RowKit Go.PlainAid
set_option linter.unusedVariables false
section
variable {D : ByteArray} {M : Nat}
theorem even_take {g c : Nat} (hg : g ≤ D.size) : sTake D [] g c 0 (M : Int) = min M (D.size - g) := by
  have hM : sMost D [] g c = (D.size - g : Nat) := by unfold sMost; rw [dif_neg (by simp)]
  unfold sTake
  rw [if_pos rfl, hM]
  omega
theorem even_over {g c : Nat} (hg : g ≤ D.size) : sOver D [] g c 0 (M : Int) = if g = D.size then 1 else 0 := by
  have hK : sKind D [] g c = if g = D.size then 1 else 0 := by unfold sKind; rw [dif_neg (by simp)]
  unfold sOver
  rw [if_pos rfl, hK, even_take hg]
  by_cases h : g = D.size
  · rw [if_pos h, if_neg (by decide), if_pos ⟨rfl, by omega⟩]
  · rw [if_neg h, if_neg (by decide), if_neg (by intro h; exact absurd h.1 (by decide))]
theorem even_fill {f g c : Nat} (hM : 1 ≤ M) (hg : g < D.size) : fillM D [] (M : Int) 0 (f + 1) 0 g c = (g + min M (D.size - g), c + 1, 0, 0) := by
  rw [fillM_succ, even_over (by omega), even_take (by omega), if_neg (by omega : g ≠ D.size), if_neg (by decide), if_neg (by decide), if_pos (by omega)]
theorem even_fill_end {f c : Nat} : fillM D [] (M : Int) 0 (f + 1) 0 D.size c = (D.size, c + 1, 1, 14) := by
  rw [fillM_succ, even_over (Nat.le_refl _), even_take (Nat.le_refl _), if_pos rfl, if_pos rfl]
  simp
/-- i bytes are taken, no read but for a byte. -/
structure Even (D : ByteArray) (M i : Nat) (s : WS) : Prop where
  e : s.e = 0
  at_ : s.at_ = i
  g : s.g = min (M * s.c) D.size
  low : i ≤ s.g
  c : s.c = 0 ∨ M * (s.c - 1) < i
theorem Even.start : Even D M 0 WS.start := ⟨rfl, rfl, by simp [WS.start], Nat.zero_le _, .inl rfl⟩
theorem Even.c_le (hM : 1 ≤ M) {i : Nat} {s : WS} (h : Even D M i s) : s.c ≤ i := by
  rcases h.c with h1 | h1
  · omega
  · have := Nat.mul_le_mul_right (s.c - 1) hM
    omega
/-- A byte more. -/
theorem Even.next (hM : 1 ≤ M) {i : Nat} {s : WS} (h : Even D M i s) (hi : i < D.size) :
    Even D M (i + 1) (s.peek D [] (M : Int) 0).take ∧ (s.peek D [] (M : Int) 0).byte D = bt D i ∧ (s.peek D [] (M : Int) 0).code = 0 := by
  have hc := h.c_le hM
  by_cases hs : s.at_ = s.g
  · have hf : fuel D [] s.c = (D.size + 1 - s.c) + 1 := by unfold fuel; simp; omega
    have hig : s.g = i := by rw [← hs, h.at_]
    have hcm : M * s.c = i := by have := h.g; omega
    have hp : s.peek D [] (M : Int) 0 = ⟨i + min M (D.size - i), i, s.c + 1, 0, 0⟩ := by
      unfold WS.peek
      rw [if_pos ⟨hs, h.e⟩, hf, hig, even_fill hM hi, h.at_]
    rw [hp]
    have hlt : i < i + min M (D.size - i) := by omega
    have hm : M * (s.c + 1) = i + M := by rw [Nat.mul_add, hcm, Nat.mul_one]
    refine ⟨?_, ?_, ?_⟩
    · unfold WS.take
      rw [if_pos hlt]
      exact ⟨rfl, rfl, by show i + min M (D.size - i) = min (M * (s.c + 1)) D.size; rw [hm]; omega, by show i + 1 ≤ i + min M (D.size - i); omega, .inr (by show M * (s.c + 1 - 1) < i + 1; rw [Nat.add_sub_cancel, hcm]; omega)⟩
    · unfold WS.byte; rw [if_pos hlt]
    · unfold WS.code; rw [if_pos hlt]
  · have hp : s.peek D [] (M : Int) 0 = s := WS.peek_same (fun hx => hs hx.1)
    have hlt : s.at_ < s.g := by have := h.low; have := h.at_; omega
    rw [hp]
    refine ⟨?_, ?_, ?_⟩
    · unfold WS.take
      rw [if_pos hlt]
      exact ⟨h.e, by show s.at_ + 1 = i + 1; rw [h.at_], h.g, by show i + 1 ≤ s.g; rw [← h.at_]; exact hlt, h.c.imp id Nat.lt_succ_of_lt⟩
    · rw [WS.byte_on hlt, h.at_]
    · exact WS.code_on hlt
/-- Behind the last byte. -/
theorem Even.last (hM : 1 ≤ M) {s : WS} (h : Even D M D.size s) : s.peek D [] (M : Int) 0 = ⟨D.size, D.size, s.c + 1, 1, 14⟩ := by
  have hc := h.c_le hM
  have hg : s.g = D.size := by have := h.low; have := h.g; omega
  have hf : fuel D [] s.c = (D.size + 1 - s.c) + 1 := by unfold fuel; simp; omega
  unfold WS.peek
  rw [if_pos ⟨by rw [h.at_, hg], h.e⟩, hf, hg, even_fill_end, h.at_]
/-- The greater window has read no more often. -/
theorem Even.calls {M' : Nat} (hMM : M ≤ M') {s s' : WS} (h : Even D M D.size s) (h' : Even D M' D.size s') : s'.c ≤ s.c := by
  have h1 : D.size ≤ M * s.c := by have := h.low; have := h.g; omega
  rcases h'.c with h2 | h2
  · omega
  · rcases Nat.lt_or_ge s.c s'.c with h3 | h3
    · exfalso
      have h4 := Nat.mul_le_mul hMM (by omega : s.c ≤ s'.c - 1)
      omega
    · exact h3
end
end Go.Proofs.Ytlaeoacaihooiaa
