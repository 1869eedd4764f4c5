/- Slices of bytes of a call's own that may be nil as well: what keeps them, one byte more, the text that they make. Of any of at most 10^12 bytes. -/
import Derived.Test.YtfkfkoebplpooaaByteSl
import Derived.Test.YtfkfkoebplpooaaOwn
namespace Go.Proofs.Ytfkfkoebplpooaa
open Go.RowKit Go.PlainAid
set_option linter.unusedVariables false
/-- v is a slice, nil or of the call's own, that holds the bytes l. -/
def Bs (w : World) (base : Nat) (v : Value) (l : List Int) : Prop := w.ownsRow base 5 1 v l.length (u8s l)
theorem Bs.nil (w : World) (base : Nat) : Bs w base (.slice none 0 0) [] := World.ownsRow_nil _ _ _ _
theorem Bs.below {w w' : World} {base : Nat} {v : Value} {l : List Int} (h : Bs w base v l) (hb : Below w.heap.size w w') : Bs w' base v l := own_below h hb
theorem Bs.grown {a w w' : World} {base : Nat} {v : Value} {l : List Int} (h : Bs w base v l) (hB : Below base a w) (hbs : base ≤ w.heap.size) (hg : w.grownBy w' v.ownBlock) : Below base a w' := by
  refine hB.grown hg hbs ?_
  intro k hk
  rcases own_shape h with ⟨rfl, _⟩ | ⟨g, c, rfl, _, _, h1, _⟩
  · cases hk
  · cases hk; exact h1
theorem Bs.shape {w : World} {base : Nat} {v : Value} {l : List Int} (h : Bs w base v l) (hl : l ≠ []) : ∃ g c, v = .slice (some ⟨g, 0, none⟩) l.length c ∧ l.length ≤ c ∧ c ≤ maxLen ∧ base ≤ g ∧ ∀ j (hj : j < l.length), w.cell? ⟨g, j, none⟩ = some (.int .u8 l[j]) := by
  rcases own_shape h with ⟨_, h0⟩ | ⟨g, c, hv, h1, h2, h3, _⟩
  · exact absurd (List.length_eq_zero_iff.1 h0) hl
  · subst hv
    refine ⟨g, c, rfl, h1, h2, h3, ?_⟩
    intro j hj
    have := World.ownsRow.cells h rfl j (.int .u8 l[j]) (u8s_at hj)
    rwa [addr0] at this
theorem conv_bs {w : World} {base : Nat} {v : Value} {l : List Int} (h : Bs w base v l) (hl : l ≠ []) : (convert 41 9 v).run Try.prog w = .ok (.string (strOfNums l)) w := by
  obtain ⟨g, c, rfl, _, _, _, hc⟩ := h.shape hl
  exact run_convert_bytes_arg (P := Try.prog) w 41 5 Try.underlying41 Try.underlying5 g 0 l.length c l rfl (fun i hi => by
    rw [Nat.zero_add, hc i hi]
    simp [List.getD, hi]) 9 Try.underlying9
/-- One byte more. -/
theorem wpList_append_bs1 {w : World} {ops : Array Oper} {rest : List Oper} {o : Oper} {a : Act} {Q : Exit → Act → World → Prop} (hgd : o.guard = none) (s x : Operand)
    (ho : o.op = .call { callee := .builtin .append, args := #[s, x], argTypes := #[41, 41] })
    {v : Value} {l : List Int} {base : Nat} (hv : a.eval s = v) (hs : Bs w base v l) (hb : base ≤ w.heap.size)
    (gx c : Nat) (b : Int) (hx : a.eval x = .slice (some ⟨gx, 0, none⟩) 1 c) (hc : w.cell? ⟨gx, 0, none⟩ = some (.int .u8 b)) (h63 : l.length ≤ 1000000000000)
    (h : ∀ v' w', Bs w' base v' (l ++ [b]) → w.grownBy w' v.ownBlock → wpList Try.prog ops Q rest (a.put o.dst v') w') : wpList Try.prog ops Q (o :: rest) a w := by
  obtain ⟨i0, hi, hz0, hz1, hz2⟩ := info_parts infoU8
  refine wpList_append_own _ hgd s x 41 ho base 5 i0 (.int .u8 0) 1 1 Try.underlying41 hi hz0 hz1 hz2 rfl (by decide) v l.length (u8s l) hv hs ⟨gx, 0, none⟩ 1 c [.int .u8 b] hx rfl ?_ ?_ (by unfold maxLen; omega) (by omega) hb ?_
  · intro j u hj
    match j, hj with
    | 0, hj => simp at hj; subst hj; rw [addr0]; exact hc
  · intro u hu; simp at hu; subst hu; rfl
  · intro v' w' h1 h2 _
    refine h v' w' ?_ h2
    unfold Bs
    rw [List.length_append, u8s_append]
    exact h1
end Go.Proofs.Ytfkfkoebplpooaa
