/- append onto a slice of texts as a guarded operation of a walk. Of any slice from a block's head on. -/
import Derived.Test.YtpdflpobhmpbpaaStrs
namespace Go.Proofs.Ytpdflpobhmpbpaa
open Go.RowKit
set_option linter.unusedVariables false
/-- As many as memory bears. -/
theorem run_append_strs_big (w : World) (ty : TypeId) {v : Value} {l : List ByteArray} {g : Nat} (hs : Sl w 9 v (svs l) g)
    (ox : Option Addr) (m c : Nat) (l2 : List ByteArray) (hm : l2.length = m) (hc : Came w ox (svs l2)) (h63 : (l.length + l2.length) * 16 ≤ 140737488355328) :
    ∃ v' w' g', (Builtin.append_ #[22, 22] ty #[v, .slice ox m c]).run Try.prog w = .ok v' w' ∧ Sl w' 9 v' (svs (l ++ l2)) g' ∧ (g' = g ∨ g' = w.heap.size) ∧ w.grownBy w' (some g) := by
  obtain ⟨i0, hi, hz0, hz1, hz2⟩ := info_parts infoStr
  by_cases h0 : ox = none
  · subst h0
    have hl2 : l2 = [] := by
      cases l2 with
      | nil => rfl
      | cons x r =>
        obtain ⟨a, h, _⟩ := hc 0 _ rfl
        cases h
    subst hl2
    have hm0 : m = 0 := hm.symm
    subst hm0
    obtain ⟨cb, rfl, hcb, _⟩ := hs.open rfl
    exact ⟨_, w, g, run_append_empty w _ _ _ i0 _ _ _ _ Try.underlying22 hi hcb, by rw [List.append_nil]; exact hs, .inl rfl, grown_refl _ _⟩
  · obtain ⟨ad, rfl⟩ := Option.ne_none_iff_exists'.1 h0
    obtain ⟨v', w', g', hrun, h2, h3, h4⟩ := run_append_sl (P := Try.prog) w 22 ty 9 i0 (.string ⟨#[]⟩) 16 Try.underlying22 hi hz0 hz1 hz2 rfl hs ad m c (svs l2) (by rw [svs_length]; exact hm) (fun j u hj => by
      obtain ⟨a, h, h'⟩ := hc j u hj
      cases h; exact h') (svs_one _) (by rw [svs_length]; unfold maxLen; omega) (by rw [svs_length]; omega)
    exact ⟨v', w', g', hrun, by rw [svs_append]; exact h2, h3, h4⟩
theorem wpList_append_strs_on {w : World} {ops : Array Oper} {rest : List Oper} {o : Oper} {a : Act} {Q : Exit → Act → World → Prop} (hgd : Region.wanted o (yielded ops a.tmps) = true) (s x : Operand)
    (ho : o.op = .call { callee := .builtin .append, args := #[s, x], argTypes := #[22, 22] })
    {v : Value} {l : List ByteArray} {g : Nat} (hv : a.eval s = v) (hs : Sl w 9 v (svs l) g)
    (ox : Option Addr) (m c : Nat) (l2 : List ByteArray) (hx : a.eval x = .slice ox m c) (hm : l2.length = m) (hc : Came w ox (svs l2)) (h63 : (l.length + l2.length) * 16 ≤ 140737488355328)
    (h : ∀ v' w' g', Sl w' 9 v' (svs (l ++ l2)) g' → (g' = g ∨ g' = w.heap.size) → w.grownBy w' (some g) → wpList Try.prog ops Q rest (a.put o.dst v') w') : wpList Try.prog ops Q (o :: rest) a w := by
  refine wpList_step fun K hK => ?_
  rw [if_pos hgd]
  obtain ⟨v', w', g', hr, h2, h3, h4⟩ := run_append_strs_big w o.type hs ox m c l2 hm hc h63
  unfold Oper.wp execOp
  simp only [ho, resolve, invoke, builtin, Sem.run_bind, Sem.run_pure, Result.andThen_ok, List.map_toArray, List.map_cons, List.map_nil, hv, hx, hr]
  exact hK _ _ (h v' w' g' h2 h3 h4)
end Go.Proofs.Ytpdflpobhmpbpaa
