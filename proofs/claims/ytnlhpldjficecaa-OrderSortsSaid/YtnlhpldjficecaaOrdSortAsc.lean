/- Package order: sorted elements are in order; what stands ahead of a place. -/
import Derived.Test.YtnlhpldjficecaaOrdSorted
namespace Go.Proofs.Ytnlhpldjficecaa
open Go.Shelf Go.RowKit Go.Lib Go.Sort Go.PlainAid
set_option linter.unusedVariables false
theorem sorted_asc {l : List ByteArray} (hl : ∀ x ∈ l, x.size ≤ 1000) (i : Nat) (hi : i + 1 < (sortS l).length) : cmpL (bl (sortS l)[i]) (bl (sortS l)[i + 1]) ≤ 0 := by
  have h := asc_srt elO _ (l.map elOf) rfl
  have e := srt_is _ (l.map elOf) rfl
  rw [map_elOf hl] at e
  have hlen : (srt elL (l.map elOf)).length = (sortS l).length := by rw [← e, List.length_map]
  have h2 := List.pairwise_iff_getElem.1 h i (i + 1) (by omega) (by omega) (by omega)
  have k1 : ((srt elL (l.map elOf))[i]'(by omega)).1 = (sortS l)[i] := by simp only [← e, List.getElem_map]
  have k2 : ((srt elL (l.map elOf))[i + 1]'(by omega)).1 = (sortS l)[i + 1] := by simp only [← e, List.getElem_map]
  rw [← k1, ← k2]
  exact elL_false.1 h2
end Go.Proofs.Ytnlhpldjficecaa
