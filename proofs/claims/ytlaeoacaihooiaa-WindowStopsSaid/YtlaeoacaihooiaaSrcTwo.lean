/- Two sources side by side: what one does leaves the other. -/
import Derived.Test.YtlaeoacaihooiaaSrcPass
namespace Go.Proofs.Ytlaeoacaihooiaa
open Go.RowKit Go.PlainAid
set_option linter.unusedVariables false
theorem Row.type {w : World} {g : Nat} {t t' : TypeId} {L L' : List Value} (h : Row w g t L) (h' : Row w g t' L') : t = t' := by
  unfold Row at h h'
  rw [h] at h'
  simp only [Option.some.injEq, Obj.cells.injEq] at h'
  exact h'.2.1
theorem SrcAt.row {w : World} {g : Nat} {D : ByteArray} {S : List (Int × Int)} {at_ calls : Nat} {over : Int} (h : SrcAt w g D S at_ calls over) : ∃ L, Row w g 52 L := by
  obtain ⟨_, _, _, _, _, _, h, _⟩ := h; exact ⟨_, h⟩
/-- What is written into a block that holds no steps, and isn't the source's own, leaves the source. -/
theorem SrcAt.aside {w w' : World} {g k : Nat} {D : ByteArray} {S : List (Int × Int)} {at_ calls : Nat} {over : Int} {t : TypeId} {L : List Value} (h : SrcAt w g D S at_ calls over) (hb : w.grownBy w' (some k)) (hk : g ≠ k) (hr : Row w k t L) (ht : t ≠ 39) : SrcAt w' g D S at_ calls over := by
  obtain ⟨h1, h2, oa, n, cap, rest, h3, h4⟩ := h
  refine ⟨h1, h2, oa, n, cap, rest, h3.grown hb (by simpa using hk), fun e => ⟨(h4 e).1, ?_⟩⟩
  obtain ⟨s1, s2, s3, s4⟩ := (h4 e).2
  refine ⟨s1, s2, s3, ?_⟩
  rcases s4 with s4 | ⟨gs, off, L', s5, s6, s7, s8⟩
  · exact .inl s4
  · refine .inr ⟨gs, off, L', s5, s6, s7.grown hb ?_, s8⟩
    intro e'
    cases e'
    exact ht (Row.type hr s7)
end Go.Proofs.Ytlaeoacaihooiaa
