/- Slices of uint64: of a call's own (Sl) and as they came (Came): appended to, and read. Of any slice from a block's head on. -/
import Derived.Test.YtjdkpdaekmogkaaChecked
import Derived.Test.YtjdkpdaekmogkaaMem
import Derived.Test.YtjdkpdaekmogkaaGrown
import Derived.Test.YtjdkpdaekmogkaaCame
import Derived.WalkKit
import Derived.WalkSpells
import Derived.Lib.Hide
namespace Go.Proofs.Ytjdkpdaekmogkaa
open Go.RowKit
set_option linter.unusedVariables false
theorem ivs_length (k : IntKind) (l : List Int) : (ivs k l).length = l.length := by simp [ivs]
theorem ivs_append (k : IntKind) (l m : List Int) : ivs k (l ++ m) = ivs k l ++ ivs k m := by simp [ivs]
theorem ivs_one (k : IntKind) (l : List Int) : ∀ u ∈ ivs k l, u.oneCell' = true := by
  intro u hu
  obtain ⟨x, _, rfl⟩ := List.mem_map.1 hu
  rfl
theorem ivs_get {k : IntKind} {l : List Int} {j : Nat} (h : j < l.length) : (ivs k l)[j]? = some (.int k l[j]) := by simp [ivs, h]
theorem addr0u (g j : Nat) : (⟨g, 0, none⟩ : Addr).add j = ⟨g, j, none⟩ := by unfold Addr.add; split <;> simp_all
theorem addr_zero (a : Addr) : a.add 0 = a := by unfold Addr.add; split <;> simp_all
theorem addr_one (a : Addr) : a.add 1 = ⟨a.block, a.off + 1, none⟩ := by unfold Addr.add; simp
theorem addr_succ (a : Addr) (n : Nat) (h : n ≠ 0) : a.add n = ⟨a.block, a.off + n, none⟩ := by unfold Addr.add; rw [if_neg h]
theorem infoU64 : (Try.prog.info? 40).map (fun i => (i.zero, i.size, i.bytes)) = some (some (.int .u64 0), 1, 8) := by kernel_rfl
theorem sl_new_u64 (w : World) (l : List Int) (hl : l.length ≤ maxLen) : Sl (w.alloc (.cells (ivs .u64 l).toArray 40)) 40 (.slice (some ⟨w.heap.size, 0, none⟩) l.length l.length) (ivs .u64 l) w.heap.size := by
  have := Sl.new w 40 (ivs .u64 l) (by rw [ivs_length]; exact hl)
  rwa [ivs_length] at this
theorem Came.sl {w : World} {t : TypeId} {v : Value} {L : List Value} {g : Nat} (h : Sl w t v L g) : Came w (some ⟨g, 0, none⟩) L := by
  obtain ⟨sp, _, _, hr⟩ := h
  intro j u hj
  refine ⟨_, rfl, ?_⟩
  have hj' := (List.getElem?_eq_some_iff.1 hj).1
  rw [addr0u, hr.cell, List.getElem?_append_left hj', hj]
theorem Came.alloc {w : World} {oa : Option Addr} {l : List Value} (h : Came w oa l) (o : Obj) : Came (w.alloc o) oa l := h.below ((Below.refl _ w).alloc (Nat.le_refl _) o)
theorem Came.drew {w : World} {oa : Option Addr} {l : List Value} (h : Came w oa l) : Came w.drew oa l := h
/-- Its cells, the place as the walk has it. -/
theorem Came.at {w : World} {oa : Option Addr} {l : List Value} (h : Came w oa l) (hl : 0 < l.length) : ∃ a, oa = some a ∧ a.block < w.heap.size ∧ w.cell? a = l[0]? ∧ ∀ j, j < l.length → w.cell? (a.add j) = l[j]? := by
  obtain ⟨a, h1, h2, h3⟩ := h.first hl
  have h4 : ∀ j, j < l.length → w.cell? (a.add j) = l[j]? := fun j hj => by rw [h3 j l[j] (List.getElem?_eq_getElem hj), List.getElem?_eq_getElem hj]
  refine ⟨a, h1, h2, ?_, h4⟩
  have := h4 0 hl
  rwa [addr_zero] at this
theorem run_append_empty (w : World) (t ty e : TypeId) (i : TypeInfo) (ad : Option Addr) (n cb c : Nat) {P : Program} (ht : P.underlying t = some (.slice e)) (hi : P.info? e = some i) (hn : n ≤ cb) :
    (Builtin.append_ #[t, t] ty #[.slice ad n cb, .slice none 0 c]).run P w = .ok (.slice ad n cb) w := by
  cases ad <;> simp [Builtin.append_, run_underlying ht, sizeOf, typeInfo, hi, Builtin.lenOf, Builtin.firstCells, storeCells, hn]
/-- Numbers of any slice, behind a slice's own. -/
theorem run_append_u64 (w : World) (ty : TypeId) {v : Value} {l : List Int} {g : Nat} (hs : Sl w 40 v (ivs .u64 l) g)
    (ox : Option Addr) (m c : Nat) (l2 : List Int) (hm : l2.length = m) (hc : Came w ox (ivs .u64 l2)) (h63 : l.length + l2.length ≤ 1000000000000) :
    ∃ v' w' g', (Builtin.append_ #[30, 30] ty #[v, .slice ox m c]).run Try.prog w = .ok v' w' ∧ Sl w' 40 v' (ivs .u64 (l ++ l2)) g' ∧ (g' = g ∨ g' = w.heap.size) ∧ w.grownBy w' (some g) := by
  obtain ⟨i0, hi, hz0, hz1, hz2⟩ := info_parts infoU64
  by_cases h0 : ox = none
  · subst h0
    have hl2 : l2 = [] := by
      cases l2 with
      | nil => rfl
      | cons x r =>
        obtain ⟨a, h, _⟩ := hc 0 _ rfl
        cases h
    subst hl2
    have hm0 : m = 0 := hm.symm
    subst hm0
    obtain ⟨cb, rfl, hcb, _⟩ := hs.open rfl
    exact ⟨_, w, g, run_append_empty w _ _ _ i0 _ _ _ _ Try.underlying30 hi hcb, by rw [List.append_nil]; exact hs, .inl rfl, grown_refl _ _⟩
  · obtain ⟨ad, rfl⟩ := Option.ne_none_iff_exists'.1 h0
    obtain ⟨v', w', g', hrun, h2, h3, h4⟩ := run_append_sl (P := Try.prog) w 30 ty 40 i0 (.int .u64 0) 8 Try.underlying30 hi hz0 hz1 hz2 rfl hs ad m c (ivs .u64 l2) (by rw [ivs_length]; exact hm) (fun j u hj => by
      obtain ⟨a, h, h'⟩ := hc j u hj
      cases h; exact h') (ivs_one _ _) (by rw [ivs_length]; unfold maxLen; omega) (by rw [ivs_length]; omega)
    exact ⟨v', w', g', hrun, by rw [ivs_append]; exact h2, h3, h4⟩
theorem wpList_append_u64 {w : World} {ops : Array Oper} {rest : List Oper} {o : Oper} {a : Act} {Q : Exit → Act → World → Prop} (hgd : o.guard = none) (s x : Operand)
    (ho : o.op = .call { callee := .builtin .append, args := #[s, x], argTypes := #[30, 30] })
    {v : Value} {l : List Int} {g : Nat} (hv : a.eval s = v) (hs : Sl w 40 v (ivs .u64 l) g)
    (ox : Option Addr) (m c : Nat) (l2 : List Int) (hx : a.eval x = .slice ox m c) (hm : l2.length = m) (hc : Came w ox (ivs .u64 l2)) (h63 : l.length + l2.length ≤ 1000000000000)
    (h : ∀ v' w' g', Sl w' 40 v' (ivs .u64 (l ++ l2)) g' → (g' = g ∨ g' = w.heap.size) → w.grownBy w' (some g) → wpList Try.prog ops Q rest (a.put o.dst v') w') : wpList Try.prog ops Q (o :: rest) a w := by
  refine wpList_plain hgd fun K hK => ?_
  obtain ⟨v', w', g', hr, h2, h3, h4⟩ := run_append_u64 w o.type hs ox m c l2 hm hc h63
  unfold Oper.wp execOp
  simp only [ho, resolve, invoke, builtin, Sem.run_bind, Sem.run_pure, Result.andThen_ok, List.map_toArray, List.map_cons, List.map_nil, hv, hx, hr]
  exact hK _ _ (h v' w' g' h2 h3 h4)
/-- append, as one step of a region that draws. -/
theorem step_append_u64 {ops : Array Oper} {o : Oper} {a : Act} {w : World} {K : Act → World → Prop} {Q : Exit → Act → World → Prop} {E : Prop} (hg : o.guard = none) (s x : Operand)
    (hop : o.op = .call { callee := .builtin .append, args := #[s, x], argTypes := #[30, 30] })
    {v : Value} {l : List Int} {g : Nat} (hv : a.eval s = v) (hs : Sl w 40 v (ivs .u64 l) g)
    (ox : Option Addr) (m c : Nat) (l2 : List Int) (hx : a.eval x = .slice ox m c) (hm : l2.length = m) (hc : Came w ox (ivs .u64 l2)) (h63 : l.length + l2.length ≤ 1000000000000)
    (hK : ∀ v' w' g', Sl w' 40 v' (ivs .u64 (l ++ l2)) g' → (g' = g ∨ g' = w.heap.size) → w.grownBy w' (some g) → K (a.put o.dst v') w') :
    if Region.wanted o (yielded ops a.tmps) = true then Oper.wp Try.prog o a w K Q else E := by
  have hw : Region.wanted o (yielded ops a.tmps) = true := by simp [Region.wanted, hg]
  rw [if_pos hw]
  obtain ⟨v', w', g', hrun, h2, h3, h4⟩ := run_append_u64 w o.type hs ox m c l2 hm hc h63
  unfold Oper.wp
  simp only [execOp, hop, resolve, invoke, builtin, Sem.run_bind, Sem.run_pure, Result.andThen_ok, List.map_toArray, List.map_cons, List.map_nil, hv, hx, hrun]
  exact hK v' w' g' h2 h3 h4
end Go.Proofs.Ytjdkpdaekmogkaa
