/- Slices of uint64: of a call's own (Sl) and as they came (Came): appended to, and read. Of any slice from a block's head on. -/
import Derived.Test.YtpdflpobhmpbpaaMem
import Derived.Test.YtpdflpobhmpbpaaGrown
import Derived.Test.YtpdflpobhmpbpaaCame
import Derived.Test.YtpdflpobhmpbpaaChecked
import Derived.WalkKit
import Derived.WalkSpells
import Derived.Lib.Hide
namespace Go.Proofs.Ytpdflpobhmpbpaa
open Go.RowKit
set_option linter.unusedVariables false
theorem ivs_length (k : IntKind) (l : List Int) : (ivs k l).length = l.length := by simp [ivs]
theorem ivs_append (k : IntKind) (l m : List Int) : ivs k (l ++ m) = ivs k l ++ ivs k m := by simp [ivs]
theorem ivs_one (k : IntKind) (l : List Int) : ∀ u ∈ ivs k l, u.oneCell' = true := by
  intro u hu
  obtain ⟨x, _, rfl⟩ := List.mem_map.1 hu
  rfl
theorem ivs_get {k : IntKind} {l : List Int} {j : Nat} (h : j < l.length) : (ivs k l)[j]? = some (.int k l[j]) := by simp [ivs, h]
theorem addr0u (g j : Nat) : (⟨g, 0, none⟩ : Addr).add j = ⟨g, j, none⟩ := by unfold Addr.add; split <;> simp_all
theorem addr_zero (a : Addr) : a.add 0 = a := by unfold Addr.add; split <;> simp_all
theorem addr_one (a : Addr) : a.add 1 = ⟨a.block, a.off + 1, none⟩ := by unfold Addr.add; simp
theorem addr_succ (a : Addr) (n : Nat) (h : n ≠ 0) : a.add n = ⟨a.block, a.off + n, none⟩ := by unfold Addr.add; rw [if_neg h]
theorem Came.sl {w : World} {t : TypeId} {v : Value} {L : List Value} {g : Nat} (h : Sl w t v L g) : Came w (some ⟨g, 0, none⟩) L := by
  obtain ⟨sp, _, _, hr⟩ := h
  intro j u hj
  refine ⟨_, rfl, ?_⟩
  have hj' := (List.getElem?_eq_some_iff.1 hj).1
  rw [addr0u, hr.cell, List.getElem?_append_left hj', hj]
theorem Came.alloc {w : World} {oa : Option Addr} {l : List Value} (h : Came w oa l) (o : Obj) : Came (w.alloc o) oa l := h.below ((Below.refl _ w).alloc (Nat.le_refl _) o)
theorem Came.drew {w : World} {oa : Option Addr} {l : List Value} (h : Came w oa l) : Came w.drew oa l := h
/-- Its cells, the place as the walk has it. -/
theorem Came.at {w : World} {oa : Option Addr} {l : List Value} (h : Came w oa l) (hl : 0 < l.length) : ∃ a, oa = some a ∧ a.block < w.heap.size ∧ w.cell? a = l[0]? ∧ ∀ j, j < l.length → w.cell? (a.add j) = l[j]? := by
  obtain ⟨a, h1, h2, h3⟩ := h.first hl
  have h4 : ∀ j, j < l.length → w.cell? (a.add j) = l[j]? := fun j hj => by rw [h3 j l[j] (List.getElem?_eq_getElem hj), List.getElem?_eq_getElem hj]
  refine ⟨a, h1, h2, ?_, h4⟩
  have := h4 0 hl
  rwa [addr_zero] at this
theorem run_append_empty (w : World) (t ty e : TypeId) (i : TypeInfo) (ad : Option Addr) (n cb c : Nat) {P : Program} (ht : P.underlying t = some (.slice e)) (hi : P.info? e = some i) (hn : n ≤ cb) :
    (Builtin.append_ #[t, t] ty #[.slice ad n cb, .slice none 0 c]).run P w = .ok (.slice ad n cb) w := by
  cases ad <;> simp [Builtin.append_, run_underlying ht, sizeOf, typeInfo, hi, Builtin.lenOf, Builtin.firstCells, storeCells, hn]
end Go.Proofs.Ytpdflpobhmpbpaa
