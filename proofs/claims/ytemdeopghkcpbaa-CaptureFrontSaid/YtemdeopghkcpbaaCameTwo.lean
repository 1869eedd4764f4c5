/- An array of two integers that came in. Of any program. -/
import Derived.Test.YtemdeopghkcpbaaCame
import Derived.OpenShut
namespace Go.Proofs.Ytemdeopghkcpbaa
open Go.RowKit Go.ChangeShapes Go.WideShapes Go.Deep
set_option linter.unusedVariables false
theorem came_two {H : Type} {enc : TypeId × Value → H} {P : Program} {w : World} {base b0 : Nat} {spare : Nat → Bool} {held : Bool} {r : Reach} {t e : TypeId} {v : Value} {d : DataW H} {p : List MemPlace}
    (ht : P.underlying t = some (.array 2 e)) (he : P.underlying e = some (.int .i64)) (ce : P.cellsOf e = 1) (ct : P.cellsOf t = 2)
    (hv : Value.okWide P w r b0 t v) (h : DataW.Trod enc P w base spare held t v d p) : ∃ x y : Int, v = .agg #[.int .i64 x, .int .i64 y] ∧ InI x ∧ InI y := by
  simp only [Value.okWide, ht] at hv
  obtain ⟨cs, rfl, h2, _⟩ := hv
  rw [ct] at h2
  obtain ⟨fuel, hf⟩ := h
  obtain ⟨xs, k, _, _, hl, hx, hi⟩ := DataW.trod_array ht hf
  obtain ⟨l⟩ := cs
  match l, h2 with
  | [u0, u1], _ =>
    have h0 := hi 0 (by omega)
    have h1 := hi 1 (by omega)
    rw [ce] at h0 h1
    simp [Value.cells] at h0 h1
    match xs, hx with
    | [y0, y1], _ =>
      obtain ⟨a, ea, _, wa⟩ := DataW.trod_int he h0
      obtain ⟨b, eb, _, wb⟩ := DataW.trod_int he h1
      simp at ea eb
      exact ⟨a, b, by rw [ea, eb], inK_of wa, inK_of wb⟩
end Go.Proofs.Ytemdeopghkcpbaa
