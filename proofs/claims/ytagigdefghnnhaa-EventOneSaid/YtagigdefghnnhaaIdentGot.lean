/- What the landed code gives for an identifier's bytes, in one form for all inputs. -/
import Derived.Test.YtagigdefghnnhaaIdentGet
import Derived.Test.YtagigdefghnnhaaIdentDefs
namespace Go.Proofs.Ytagigdefghnnhaa
open Go.RowKit Go.PlainAid
set_option linter.unusedVariables false
theorem identGet_all (b : ByteArray) (at_ : Int) (hb : b.size ≤ maxLen) (w : World) :
    Calls Try.prog 49 #[.string b, .int .i64 at_] w fun e w' => e = .returned (gV (gAt b at_)) ∧ Below w.heap.size w w' := by
  by_cases h : at_ < 0 ∨ (b.size : Int) < at_
  · rw [gV_arg b at_ h]; exact identGet_arg b at_ hb h w
  · obtain ⟨i, rfl⟩ := Int.eq_ofNat_of_zero_le (show 0 ≤ at_ by omega)
    rw [← gV_at b i (by omega)]; exact identGet_any b i hb (by omega) w
/-- The same, the parts laid open. -/
theorem identGet_is (b : ByteArray) (at_ : Int) (hb : b.size ≤ maxLen) {c t : Int} {k : Bool} {n e : Int} (h : gAt b at_ = (c, t, k, n, e)) (w : World) :
    Calls Try.prog 49 #[.string b, .int .i64 at_] w fun r w' => r = .returned (.tuple #[.agg #[.int .i64 c, .int .i64 t, .bool k, .int .i64 0], .int .i64 n, .int .i64 e]) ∧ Below w.heap.size w w' := by
  have := identGet_all b at_ hb w
  rw [h] at this
  exact this
end Go.Proofs.Ytagigdefghnnhaa
