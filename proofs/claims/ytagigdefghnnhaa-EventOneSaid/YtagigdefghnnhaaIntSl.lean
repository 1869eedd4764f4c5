/- Slices of integers of a call's own: others appended. Of any slice from a block's head on. -/
import Derived.Test.YtagigdefghnnhaaChecked
import Derived.Test.YtagigdefghnnhaaMem
import Derived.Test.YtagigdefghnnhaaGrown
import Derived.WalkKit
import Derived.WalkSpells
import Derived.Lib.Hide
import Derived.Deep.RegionLaw
namespace Go.Proofs.Ytagigdefghnnhaa
open Go.RowKit
set_option linter.unusedVariables false
theorem addr0i (g j : Nat) : (⟨g, 0, none⟩ : Addr).add j = ⟨g, j, none⟩ := by unfold Addr.add; split <;> simp_all
def i64s (l : List Int) : List Value := l.map (Value.int .i64)
theorem i64s_length (l : List Int) : (i64s l).length = l.length := by simp [i64s]
theorem i64s_append (l m : List Int) : i64s (l ++ m) = i64s l ++ i64s m := by simp [i64s]
theorem i64s_one (l : List Int) : ∀ u ∈ i64s l, u.oneCell' = true := by
  intro u hu
  obtain ⟨x, _, rfl⟩ := List.mem_map.1 hu
  rfl
theorem i64s_get (l : List Int) (j : Nat) (h : j < (i64s l).length) : (i64s l)[j] = .int .i64 (l[j]'(by rw [i64s_length] at h; exact h)) := by simp [i64s]
theorem infoI64 : (Try.prog.info? 3).map (fun i => (i.zero, i.size, i.bytes)) = some (some (.int .i64 0), 1, 8) := by kernel_rfl
theorem sl_new_ints (w : World) (l : List Int) (hl : l.length ≤ maxLen) : Sl (w.alloc (.cells (i64s l).toArray 3)) 3 (.slice (some ⟨w.heap.size, 0, none⟩) l.length l.length) (i64s l) w.heap.size := by
  have := Sl.new w 3 (i64s l) (by rw [i64s_length]; exact hl)
  rwa [i64s_length] at this
/-- Integers of another slice, behind a slice's own. -/
theorem wpList_append_ints {w : World} {ops : Array Oper} {rest : List Oper} {o : Oper} {a : Act} {Q : Exit → Act → World → Prop} (hgd : o.guard = none) (s x : Operand)
    (ho : o.op = .call { callee := .builtin .append, args := #[s, x], argTypes := #[68, 68] })
    {v : Value} {l : List Int} {g : Nat} (hv : a.eval s = v) (hs : Sl w 3 v (i64s l) g)
    (gx m c : Nat) (l2 : List Int) (hx : a.eval x = .slice (some ⟨gx, 0, none⟩) m c) (hm : l2.length = m) (hc : ∀ j (h : j < l2.length), w.cell? ⟨gx, j, none⟩ = some (.int .i64 l2[j])) (h63 : l.length + l2.length ≤ 1000000000000)
    (h : ∀ v' w' g', Sl w' 3 v' (i64s (l ++ l2)) g' → (g' = g ∨ g' = w.heap.size) → w.grownBy w' (some g) → wpList Try.prog ops Q rest (a.put o.dst v') w') : wpList Try.prog ops Q (o :: rest) a w := by
  obtain ⟨i0, hi, hz0, hz1, hz2⟩ := info_parts infoI64
  refine wpList_append_sl hgd s x 68 ho 3 i0 (.int .i64 0) 8 Try.underlying68 hi hz0 hz1 hz2 rfl hv hs ⟨gx, 0, none⟩ m c (i64s l2) hx (by rw [i64s_length]; exact hm) ?_ (i64s_one _) ?_ ?_ ?_
  · intro j u hj
    have hj' := (List.getElem?_eq_some_iff.1 hj).1
    rw [i64s_length] at hj'
    rw [addr0i, hc j hj']
    simp [i64s, hj'] at hj
    rw [hj]
  · rw [i64s_length]; unfold maxLen; omega
  · rw [i64s_length]; omega
  · intro v' w' g' h1 h2 h3
    refine h v' w' g' ?_ h2 h3
    rwa [i64s_append]
/-- One integer more. -/
theorem wpList_append_int1 {w : World} {ops : Array Oper} {rest : List Oper} {o : Oper} {a : Act} {Q : Exit → Act → World → Prop} (hgd : o.guard = none) (s x : Operand)
    (ho : o.op = .call { callee := .builtin .append, args := #[s, x], argTypes := #[68, 68] })
    {v : Value} {l : List Int} {g : Nat} (hv : a.eval s = v) (hs : Sl w 3 v (i64s l) g)
    (gx c : Nat) (b : Int) (hx : a.eval x = .slice (some ⟨gx, 0, none⟩) 1 c) (hc : w.cell? ⟨gx, 0, none⟩ = some (.int .i64 b)) (h63 : l.length ≤ 1000000000)
    (h : ∀ v' w' g', Sl w' 3 v' (i64s (l ++ [b])) g' → (g' = g ∨ g' = w.heap.size) → w.grownBy w' (some g) → wpList Try.prog ops Q rest (a.put o.dst v') w') : wpList Try.prog ops Q (o :: rest) a w := by
  refine wpList_append_ints hgd s x ho hv hs gx 1 c [b] hx rfl ?_ (by simp; omega) h
  intro j hj
  have : j = 0 := by simpa using hj
  subst this
  exact hc
/-- append of integers, as one step of a region that draws. -/
theorem step_append_ints {ops : Array Oper} {o : Oper} {a : Act} {w : World} {K : Act → World → Prop} {Q : Exit → Act → World → Prop} {E : Prop} (hg : o.guard = none) (s x : Operand)
    (hop : o.op = .call { callee := .builtin .append, args := #[s, x], argTypes := #[68, 68] })
    {v : Value} {l : List Int} {g : Nat} (hv : a.eval s = v) (hs : Sl w 3 v (i64s l) g)
    (gx m c : Nat) (l2 : List Int) (hx : a.eval x = .slice (some ⟨gx, 0, none⟩) m c) (hm : l2.length = m) (hc : ∀ j (h : j < l2.length), w.cell? ⟨gx, j, none⟩ = some (.int .i64 l2[j])) (h63 : l.length + l2.length ≤ 1000000000000)
    (hK : ∀ v' w' g', Sl w' 3 v' (i64s (l ++ l2)) g' → (g' = g ∨ g' = w.heap.size) → w.grownBy w' (some g) → K (a.put o.dst v') w') :
    if Region.wanted o (yielded ops a.tmps) = true then Oper.wp Try.prog o a w K Q else E := by
  have hw : Region.wanted o (yielded ops a.tmps) = true := by simp [Region.wanted, hg]
  rw [if_pos hw]
  obtain ⟨i0, hi, hz0, hz1, hz2⟩ := info_parts infoI64
  obtain ⟨v', w', g', hrun, h2, h3, h4⟩ := run_append_sl (P := Try.prog) w 68 o.type 3 i0 (.int .i64 0) 8 Try.underlying68 hi hz0 hz1 hz2 rfl hs ⟨gx, 0, none⟩ m c (i64s l2) (by rw [i64s_length]; exact hm) (fun j u hj => by
    have hj' := (List.getElem?_eq_some_iff.1 hj).1
    rw [i64s_length] at hj'
    rw [addr0i, hc j hj']
    simp [i64s, hj'] at hj
    rw [hj]) (i64s_one _) (by rw [i64s_length]; unfold maxLen; omega) (by rw [i64s_length]; omega)
  unfold Oper.wp
  simp only [execOp, hop, resolve, invoke, builtin, Sem.run_bind, Sem.run_pure, Result.andThen_ok, List.map_toArray, List.map_cons, List.map_nil, hv, hx, hrun]
  exact hK v' w' g' (by rwa [i64s_append]) h3 h4
end Go.Proofs.Ytagigdefghnnhaa
