/- What the calls of layer 5 give, in one form for all inputs. -/
import Derived.Test.YtkokjeakpecndaaIdentPut
import Derived.Test.YtkokjeakpecndaaIdentGet
import Derived.Test.YtkokjeakpecndaaIdentDefs
namespace Go.Proofs.Ytkokjeakpecndaa
open Go.RowKit Go.PlainAid
set_option linter.unusedVariables false
theorem identPut_all (cls tag : Int) (cons : Bool) (len : Int) (w : World) :
    Calls Try.prog 16 #[.agg #[.int .i64 cls, .int .i64 tag, .bool cons, .int .i64 len]] w fun e w' => e = .returned (.tuple #[.string (putS cls tag cons), .int .i64 (putE cls tag)]) ∧ Below w.heap.size w w' := by
  unfold putS putE
  cases h : idOk cls tag
  · simpa using identPut_bad cls tag cons len h w
  · simpa using identPut_any cls tag cons len h w
theorem identGet_all (b : ByteArray) (at_ : Int) (hb : b.size ≤ maxLen) (w : World) :
    Calls Try.prog 20 #[.string b, .int .i64 at_] w fun e w' => e = .returned (gV (gAt b at_)) ∧ Below w.heap.size w w' := by
  by_cases h : at_ < 0 ∨ (b.size : Int) < at_
  · rw [gV_arg b at_ h]; exact identGet_arg b at_ hb h w
  · obtain ⟨i, rfl⟩ := Int.eq_ofNat_of_zero_le (show 0 ≤ at_ by omega)
    rw [← gV_at b i (by omega)]; exact identGet_any b i hb (by omega) w
/-- The same, the parts laid open. -/
theorem identGet_is (b : ByteArray) (at_ : Int) (hb : b.size ≤ maxLen) {c t : Int} {k : Bool} {n e : Int} (h : gAt b at_ = (c, t, k, n, e)) (w : World) :
    Calls Try.prog 20 #[.string b, .int .i64 at_] w fun r w' => r = .returned (.tuple #[.agg #[.int .i64 c, .int .i64 t, .bool k, .int .i64 0], .int .i64 n, .int .i64 e]) ∧ Below w.heap.size w w' := by
  have := identGet_all b at_ hb w
  rw [h] at this
  exact this
end Go.Proofs.Ytkokjeakpecndaa
