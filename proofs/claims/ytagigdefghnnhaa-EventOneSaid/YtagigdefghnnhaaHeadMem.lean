/- A head in memory, stored as a whole. Of any program that holds package api's Head. -/
import Derived.Test.YtagigdefghnnhaaHeadCells
namespace Go.Proofs.Ytagigdefghnnhaa
open Go.RowKit Go.PlainAid
set_option linter.unusedVariables false
/-- A head stored over another one. -/
theorem head_set {W : World} {g : Nat} {c0 t0 l0 : Int} {b0 : Bool} (h : Row W g 40 (hdC c0 t0 b0 l0)) (c t : Int) (k : Bool) (v : Int) :
    Row ((((W.setCell ⟨g, 0, none⟩ (.int .i64 c)).setCell ⟨g, 1, none⟩ (.int .i64 t)).setCell ⟨g, 2, none⟩ (.bool k)).setCell ⟨g, 3, none⟩ (.int .i64 v)) g 40 (hdC c t k v) :=
  (((h.set 0 (.int .i64 c)).set 1 (.int .i64 t)).set 2 (.bool k)).set 3 (.int .i64 v)
theorem head_below {B : Nat} {a W : World} {g : Nat} (h : Below B a W) (hg : B ≤ g) (c t : Int) (k : Bool) (v : Int) :
    Below B a ((((W.setCell ⟨g, 0, none⟩ (.int .i64 c)).setCell ⟨g, 1, none⟩ (.int .i64 t)).setCell ⟨g, 2, none⟩ (.bool k)).setCell ⟨g, 3, none⟩ (.int .i64 v)) :=
  (((h.setCell hg _).setCell hg _).setCell hg _).setCell hg _
theorem size_set4 (W : World) (g : Nat) (a b c d : Value) : ((((W.setCell ⟨g, 0, none⟩ a).setCell ⟨g, 1, none⟩ b).setCell ⟨g, 2, none⟩ c).setCell ⟨g, 3, none⟩ d).heap.size = W.heap.size := by simp
end Go.Proofs.Ytagigdefghnnhaa
