/- Events behind a list of a call's own: append, the list behind it nil or not. -/
import Derived.Test.YtagigdefghnnhaaEvMem
import Derived.Laws.AppendOwnNone
import Derived.Maps.AppendAt
namespace Go.Proofs.Ytagigdefghnnhaa
open Go.RowKit Go.PlainAid
set_option linter.unusedVariables false
/-- Events behind a list of one's own, each of them nil or not. -/
theorem wpList_append_evs {w : World} {ops : Array Oper} {rest : List Oper} {o : Oper} {a : Act} {Q : Exit → Act → World → Prop} (hgd : o.guard = none) (s x : Operand)
    (ho : o.op = .call { callee := .builtin .append, args := #[s, x], argTypes := #[24, 24] })
    (base : Nat) {v1 : Value} {l1 : List Ev} (hv : a.eval s = v1) (hs : Evs w base v1 l1) {base2 : Nat} {v2 : Value} {l2 : List Ev} (hx : a.eval x = v2) (h2 : Evs w base2 v2 l2) (hb : base ≤ w.heap.size) (h63 : l1.length + l2.length ≤ 1000000000)
    (h : ∀ v' w', Evs w' base v' (l1 ++ l2) → w.grownBy w' v1.ownBlock → (v'.ownBlock = v1.ownBlock ∨ v'.ownBlock = some w.heap.size) → wpList Try.prog ops Q rest (a.put o.dst v') w') : wpList Try.prog ops Q (o :: rest) a w := by
  obtain ⟨i0, hi, hz0, hz1, hz2⟩ := info_parts infoEv
  rcases h2.shape with ⟨rfl, rfl⟩ | ⟨g, c, rfl, _⟩
  · refine wpList_append_own_none hgd s x 24 ho base 42 i0 7 Try.underlying24 hi v1 l1.length (evCs l1) hv hs hx ?_
    exact h v1 w (by rw [List.append_nil]; exact hs) (World.grownBy.refl w _) (.inl rfl)
  · refine wpList_append_own_at (w := w) hgd s x 24 ho base 42 i0 _ 7 56 Try.underlying24 hi hz0 hz1 hz2 rfl (by decide) v1 l1.length (evCs l1) hv hs ⟨g, 0, none⟩ l2.length c (evCs l2) hx (by rw [evCs_length]) h2.cells (evCs_one _) (by unfold maxLen; omega) (by omega) hb ?_
    intro v' w' q1 q2 _ q4
    refine h v' w' ?_ q2 q4
    unfold Evs
    rw [List.length_append, evCs_append]; exact q1
end Go.Proofs.Ytagigdefghnnhaa
