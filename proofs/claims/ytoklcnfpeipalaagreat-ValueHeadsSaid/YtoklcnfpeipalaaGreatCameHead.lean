/- A head that came in. Of any program. -/
import Derived.Test.YtoklcnfpeipalaaGreatB0
import Derived.OpenShut
import Derived.ChangeArms
namespace Go.Proofs.YtoklcnfpeipalaaGreat
open Go.RowKit Go.ChangeShapes Go.WideShapes Go.Deep
set_option linter.unusedVariables false
theorem came_head {H : Type} {enc : TypeId × Value → H} {P : Program} {w : World} {base b0 : Nat} {spare : Nat → Bool} {held : Bool} {r : Reach} {t : TypeId} {f0 f1 f2 f3 : Field} {v : Value} {d : DataW H} {p : List MemPlace}
    (ht : P.underlying t = some (.struct #[f0, f1, f2, f3])) (ct : P.cellsOf t = 4) (o0 : f0.offset = 0) (o1 : f1.offset = 1) (o2 : f2.offset = 2) (o3 : f3.offset = 3)
    (c0 : P.cellsOf f0.type = 1) (c1 : P.cellsOf f1.type = 1) (c2 : P.cellsOf f2.type = 1) (c3 : P.cellsOf f3.type = 1)
    (k0 : P.underlying f0.type = some (.int .i64)) (k1 : P.underlying f1.type = some (.int .i64)) (k2 : P.underlying f2.type = some .bool) (k3 : P.underlying f3.type = some (.int .i64))
    (hv : Value.okWide P w r b0 t v) (h : DataW.Trod enc P w base spare held t v d p) : ∃ (x y : Int) (k : Bool) (z : Int), v = .agg #[.int .i64 x, .int .i64 y, .bool k, .int .i64 z] ∧ InI x ∧ InI y ∧ InI z := by
  simp only [Value.okWide, ht] at hv
  obtain ⟨cs, rfl, h2, _⟩ := hv
  rw [ct] at h2
  obtain ⟨fuel, hf⟩ := h
  obtain ⟨xs, k, _, _, hl, hx, hi⟩ := DataW.trod_struct ht hf
  obtain ⟨l⟩ := cs
  match l, h2 with
  | [u0, u1, u2, u3], _ =>
    have g0 := hi 0 f0 rfl
    have g1 := hi 1 f1 rfl
    have g2 := hi 2 f2 rfl
    have g3 := hi 3 f3 rfl
    simp [o0, o1, o2, o3, c0, c1, c2, c3, Value.cells] at g0 g1 g2 g3
    match xs, hx with
    | [y0, y1, y2, y3], _ =>
      obtain ⟨a, ea, _, wa⟩ := DataW.trod_int k0 g0
      obtain ⟨b, eb, _, wb⟩ := DataW.trod_int k1 g1
      obtain ⟨c, ec, _⟩ := DataW.trod_bool k2 g2
      obtain ⟨e, ee, _, we⟩ := DataW.trod_int k3 g3
      simp at ea eb ec ee
      exact ⟨a, b, c, e, by rw [ea, eb, ec, ee], inK_of wa, inK_of wb, inK_of we⟩
end Go.Proofs.YtoklcnfpeipalaaGreat
