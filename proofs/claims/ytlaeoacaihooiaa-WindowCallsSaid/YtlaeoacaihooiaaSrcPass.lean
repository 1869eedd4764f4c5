/- Steps that came in, handed on as a list of one's own ('append([]api.Step{}, steps...)'), and a source made of them. -/
import Derived.Test.YtlaeoacaihooiaaSrcIs
namespace Go.Proofs.Ytlaeoacaihooiaa
open Go.RowKit Go.PlainAid
set_option linter.unusedVariables false
theorem run_append_none (w : World) (t ty e : TypeId) (i : TypeInfo) (size gb c : Nat) {P : Program} (ht : P.underlying t = some (.slice e)) (hi : P.info? e = some i) :
    (Builtin.append_ #[t, t] ty #[.slice (some ⟨gb, 0, none⟩) 0 0, .slice none 0 c]).run P w = .ok (.slice (some ⟨gb, 0, none⟩) 0 0) w := by
  simp [Builtin.append_, run_underlying ht, sizeOf, typeInfo, hi, Builtin.lenOf, Builtin.firstCells, storeCells]
theorem wpList_append_steps {w : World} {ops : Array Oper} {rest : List Oper} {o : Oper} {a : Act} {Q : Exit → Act → World → Prop} (hgd : o.guard = none) (s x : Operand)
    (ho : o.op = .call { callee := .builtin .append, args := #[s, x], argTypes := #[23, 23] })
    (gb : Nat) (hs : a.eval s = .slice (some ⟨gb, 0, none⟩) 0 0) (hown : w.ownsRow gb 39 2 (.slice (some ⟨gb, 0, none⟩) 0 0) 0 []) (hb : gb ≤ w.heap.size)
    (S : List (Int × Int)) (oa : Option Addr) (n c : Nat) (hx : a.eval x = .slice oa n c) (hl : S.length = n) (hn : n ≤ 1000000) (hc : Came w oa (pvs S))
    (h : ∀ ob cb w', Came w' ob (pvs S) → w.grownBy w' (some gb) → wpList Try.prog ops Q rest (a.put o.dst (.slice ob n cb)) w') : wpList Try.prog ops Q (o :: rest) a w := by
  obtain ⟨i0, hi, hz0, hz1, hz2⟩ := (by
    obtain ⟨i0, hi, h⟩ := Option.map_eq_some_iff.1 infoStep
    simp only [Prod.mk.injEq] at h
    exact ⟨i0, hi, h.1, h.2.1, h.2.2⟩ : ∃ i0, Try.prog.info? 39 = some i0 ∧ i0.zero = some (.agg #[.int .i64 0, .int .i64 0]) ∧ i0.size = 2 ∧ i0.bytes = 16)
  rcases hc.parts with ⟨rfl, he⟩ | ⟨ad, rfl, hcell⟩
  · obtain rfl := pvs_nil he
    obtain rfl : n = 0 := hl.symm
    refine wpList_plain hgd fun K hK => ?_
    have hrun := run_append_none w 23 o.type 39 i0 2 gb c Try.underlying23 hi
    have hfin := h (some ⟨gb, 0, none⟩) 0 w (Came.nil _ _) (grown_refl _ _)
    unfold Oper.wp
    simp [execOp, ho, resolve, invoke, builtin, hs, hx, hrun, Result.andThen]
    exact hK _ _ hfin
  · refine wpList_append_own _ hgd s x 23 ho gb 39 i0 (.agg #[.int .i64 0, .int .i64 0]) 2 16 Try.underlying23 hi hz0 hz1 hz2 rfl (by omega) _ _ _ hs hown ad n c (pvs S) hx (by rw [pvs_length, hl]; omega) hcell (pvs_one S) (by unfold maxLen; omega) (by omega) hb ?_
    intro v' w' ho' hg' hnil
    obtain ⟨hlen, ⟨hv, _⟩ | ⟨gs, cb, cur, rfl, hgs, hheap, hcb, hcm, hcs, htk⟩⟩ := ho'
    · exact absurd (hnil.1 hv).1 (by simp)
    · have hrow : Row w' gs 39 cur.toList := by unfold Row; simpa using hheap
      simp only [Nat.zero_add, List.nil_append] at htk ⊢
      refine h (some ⟨gs, 0, none⟩) cb w' ?_ hg'
      rw [← htk]
      intro j u hj
      have hjl := (List.getElem?_eq_some_iff.1 hj).1
      rw [List.length_take] at hjl
      rw [List.getElem?_take_of_lt (by omega)] at hj
      exact Came.row hrow j u hj
theorem made_steps (w : World) : (w.alloc (.cells #[] 39)).ownsRow w.heap.size 39 2 (.slice (some ⟨w.heap.size, 0, none⟩) 0 0) 0 [] :=
  World.ownsRow_made w #[] 0 (Nat.le_refl _) (Nat.zero_le _) (by simp)
end Go.Proofs.Ytlaeoacaihooiaa
