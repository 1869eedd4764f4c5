/- What the laws of layer 7 (and later ones) need of a reader's calls, whatever its memory is: RD says that block k holds a reader in state s, that writes the blocks F alone. -/
import Derived.Test.YtkokjeakpecndaaChg
import Derived.Test.YtkokjeakpecndaaRefHead
namespace Go.Proofs.Ytkokjeakpecndaa
open Go.RowKit Go.PlainAid
set_option linter.unusedVariables false
abbrev RdPred := World → Nat → (Nat → Prop) → HS → Prop
def tellV (q : Int × Int × Bool × Int × Bool × Int) : Value := .tuple #[.agg #[.int .i64 q.1, .int .i64 q.2.1, .bool q.2.2.1, .int .i64 q.2.2.2.1], .bool q.2.2.2.2.1, .int .i64 q.2.2.2.2.2]
structure RdSpec (RD : RdPred) : Prop where
  lt : ∀ {w k F s}, RD w k F s → ∀ i, F i → i < w.heap.size
  below : ∀ {w w' k F s}, RD w k F s → Below w.heap.size w w' → RD w' k F s
  new : ∀ w : World, Calls Try.prog 14 #[] w fun e w' => ∃ k F, e = .returned (.pointer (some ⟨k, 0, none⟩)) ∧ (∀ i, F i → w.heap.size ≤ i) ∧ RD w' k F ⟨[], 0⟩ ∧ Below w.heap.size w w'
  push : ∀ {w k F s} (b : Int), RD w k F s → 0 ≤ b → b ≤ 255 →
    Calls Try.prog 15 #[.pointer (some ⟨k, 0, none⟩), .int .u8 b] w fun e w' => ∃ F', e = .returned (tellV (s.tell b)) ∧ (∀ i, F' i → F i ∨ w.heap.size ≤ i) ∧ RD w' k F' (s.next b) ∧ Chg F w w'
/-- Push, seen from a call's own start. -/
theorem RdSpec.push_on {RD : RdPred} (H : RdSpec RD) {a w : World} {k : Nat} {F : Nat → Prop} {s : HS} (b : Int) (h : RD w k F s) (h0 : 0 ≤ b) (h1 : b ≤ 255) (hB : Below a.heap.size a w) (hF : ∀ i, F i → a.heap.size ≤ i) {c t : Int} {f : Bool} {v : Int} {d : Bool} {er : Int} {s' : HS} (hq : s.tell b = (c, t, f, v, d, er)) (hs : s.next b = s') :
    Calls Try.prog 15 #[.pointer (some ⟨k, 0, none⟩), .int .u8 b] w fun e w' => e = .returned (.tuple #[.agg #[.int .i64 c, .int .i64 t, .bool f, .int .i64 v], .bool d, .int .i64 er]) ∧ ∃ F', (∀ i, F' i → a.heap.size ≤ i) ∧ RD w' k F' s' ∧ Below a.heap.size a w' ∧ Chg F w w' := by
  subst hs
  refine (H.push b h h0 h1).mono ?_
  rintro e w' ⟨F', e1, e2, e3, e4⟩
  rw [hq] at e1
  exact ⟨e1, F', fun i hi => by rcases e2 i hi with g | g; exact hF i g; exact Nat.le_trans hB.size g, e3, e4.to_below hB hF, e4⟩
end Go.Proofs.Ytkokjeakpecndaa
