/- What the calls of layer 5 answer, in one form for all inputs. They hold of numbers and texts alone. -/
import Derived.Test.YtagigdefghnnhaaHeadCells
namespace Go.Proofs.Ytagigdefghnnhaa
open Go.RowKit Go.PlainAid
set_option linter.unusedVariables false
/-- What Put answers. -/
def putS (cls tag : Int) (cons : Bool) : ByteArray := if idOk cls tag = true then strOfNums (idPut cls tag cons) else ⟨#[]⟩
def putE (cls tag : Int) : Int := if idOk cls tag = true then 0 else 1
/-- What Get tells at a place: class, tag, form, the place, the error. -/
def gAt (b : ByteArray) (at_ : Int) : Int × Int × Bool × Int × Int :=
  if at_ < 0 ∨ (b.size : Int) < at_ then (0, 0, false, 0, 1)
  else ((idGet ((bl b).drop at_.toNat)).1, (idGet ((bl b).drop at_.toNat)).2.1, (idGet ((bl b).drop at_.toNat)).2.2.1, at_ + (idGet ((bl b).drop at_.toNat)).2.2.2.1, (idGet ((bl b).drop at_.toNat)).2.2.2.2)
def gV (g : Int × Int × Bool × Int × Int) : Value := .tuple #[.agg #[.int .i64 g.1, .int .i64 g.2.1, .bool g.2.2.1, .int .i64 0], .int .i64 g.2.2.2.1, .int .i64 g.2.2.2.2]
theorem gV_at (b : ByteArray) (i : Nat) (hi : i ≤ b.size) : idAns b i = gV (gAt b i) := by
  unfold gAt
  rw [if_neg (by omega)]
  rfl
theorem gV_arg (b : ByteArray) (at_ : Int) (h : at_ < 0 ∨ (b.size : Int) < at_) : gV (gAt b at_) = .tuple #[hdV 0 0 false 0, .int .i64 0, .int .i64 1] := by
  unfold gAt
  rw [if_pos h]
  rfl
end Go.Proofs.Ytagigdefghnnhaa
