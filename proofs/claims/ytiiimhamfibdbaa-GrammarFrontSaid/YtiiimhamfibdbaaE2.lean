/- What the reference's Put gives. -/
import Derived.Test.YtiiimhamfibdbaaB0
import Derived.Test.YtiiimhamfibdbaaE1
import Derived.Test.YtiiimhamfibdbaaP0
import Derived.Handy
import Derived.Laws.BytesArg
import Derived.Lib.Strings
import Derived.Laws.Cover1
namespace Go.Proofs.Ytiiimhamfibdbaa
open Go.RowKit Go.PlainAid
set_option linter.unusedVariables false
end Go.Proofs.Ytiiimhamfibdbaa
/- What the reference's Get gives. -/
namespace Go.Proofs.Ytiiimhamfibdbaa
open Go.RowKit Go.PlainAid
set_option linter.unusedVariables false
end Go.Proofs.Ytiiimhamfibdbaa
/- Layer 5: what the laws need beside the contracts. -/
namespace Go.Proofs.Ytiiimhamfibdbaa
open Go.RowKit Go.PlainAid
set_option linter.unusedVariables false
theorem gAt_in (b : ByteArray) (i : Nat) (hi : i ≤ b.size) {c t : Int} {k : Bool} {n : Nat} {e : Int} (h : idGet ((bl b).drop i) = (c, t, k, n, e)) : gAt b (i : Int) = (c, t, k, (i : Int) + n, e) := by
 unfold gAt
 rw [if_neg (by omega), Int.toNat_natCast, h]
/-! ### Sizes -/
end Go.Proofs.Ytiiimhamfibdbaa
/- What the reference's Put and Get of lengths give. -/
namespace Go.Proofs.Ytiiimhamfibdbaa
open Go.RowKit Go.PlainAid
set_option linter.unusedVariables false
def lgAt (b : ByteArray) (at_ : Int) : Int × Int × Int :=
 if at_ < 0 ∨ (b.size : Int) < at_ then (0, 0, 1)
 else ((lenGet ((bl b).drop at_.toNat)).1, at_ + (lenGet ((bl b).drop at_.toNat)).2.1, (lenGet ((bl b).drop at_.toNat)).2.2)
theorem lgAt_in (b : ByteArray) (i : Nat) (hi : i ≤ b.size) {v : Int} {n : Nat} {e : Int} (h : lenGet ((bl b).drop i) = (v, n, e)) : lgAt b (i : Int) = (v, (i : Int) + n, e) := by
 unfold lgAt
 rw [if_neg (by omega), Int.toNat_natCast, h]
theorem lgAt_out (b : ByteArray) (at_ : Int) (h : at_ < 0 ∨ (b.size : Int) < at_) : lgAt b at_ = (0, 0, 1) := by
 unfold lgAt; rw [if_pos h]
theorem val_step (l : List Int) (i : Nat) (h : i < l.length) : val (l.take (i + 1)) 0 = val (l.take i) 0 * 256 + l[i] := by
 rw [List.take_add_one, List.getElem?_eq_getElem h, Option.toList_some, val_append]; rfl
end Go.Proofs.Ytiiimhamfibdbaa
/- Layer 6: what the laws need beside the contracts. -/
namespace Go.Proofs.Ytiiimhamfibdbaa
open Go.RowKit Go.PlainAid
set_option linter.unusedVariables false
/-! ### Sizes -/
/-! ### Order -/
end Go.Proofs.Ytiiimhamfibdbaa
/- What the reference's Put and Get of heads give. -/
namespace Go.Proofs.Ytiiimhamfibdbaa
open Go.RowKit Go.PlainAid
set_option linter.unusedVariables false
def hgAt (b : ByteArray) (at_ : Int) : Int × Int × Bool × Int × Int × Int :=
 if at_ < 0 ∨ (b.size : Int) < at_ then (0, 0, false, 0, 0, 1)
 else ((hdGet ((bl b).drop at_.toNat)).1, (hdGet ((bl b).drop at_.toNat)).2.1, (hdGet ((bl b).drop at_.toNat)).2.2.1, (hdGet ((bl b).drop at_.toNat)).2.2.2.1, at_ + (hdGet ((bl b).drop at_.toNat)).2.2.2.2.1, (hdGet ((bl b).drop at_.toNat)).2.2.2.2.2)
theorem hgAt_in (b : ByteArray) (i : Nat) (hi : i ≤ b.size) {c t : Int} {k : Bool} {v : Int} {n : Nat} {e : Int} (h : hdGet ((bl b).drop i) = (c, t, k, v, n, e)) : hgAt b (i : Int) = (c, t, k, v, (i : Int) + n, e) := by
 unfold hgAt
 rw [if_neg (by omega), Int.toNat_natCast, h]
theorem hgAt_out (b : ByteArray) (at_ : Int) (h : at_ < 0 ∨ (b.size : Int) < at_) : hgAt b at_ = (0, 0, false, 0, 0, 1) := by
 unfold hgAt; rw [if_pos h]
def hgV (g : Int × Int × Bool × Int × Int × Int) : Value := .tuple #[.agg #[.int .i64 g.1, .int .i64 g.2.1, .bool g.2.2.1, .int .i64 g.2.2.2.1], .int .i64 g.2.2.2.2.1, .int .i64 g.2.2.2.2.2]
theorem hgAt_cases (b : ByteArray) (at_ : Int) (ha : -9223372036854775808 ≤ at_ ∧ at_ ≤ 9223372036854775807) (hb : b.size ≤ maxLen) :
  (∃ n e, gAt b at_ = (0, 0, false, n, e) ∧ e ≠ 0 ∧ hgAt b at_ = (0, 0, false, 0, n, e)) ∨
  (∃ c t k n m e, gAt b at_ = (c, t, k, n, 0) ∧ 0 ≤ n ∧ n ≤ b.size ∧ lgAt b n = (0, m, e) ∧ e ≠ 0 ∧ hgAt b at_ = (0, 0, false, 0, m, e)) ∨
  (∃ c t k n v m, gAt b at_ = (c, t, k, n, 0) ∧ 0 ≤ n ∧ n ≤ b.size ∧ lgAt b n = (v, m, 0) ∧ hgAt b at_ = (c, t, k, v, m, 0)) := by
 by_cases h : at_ < 0 ∨ (b.size : Int) < at_
 ·left
  refine ⟨0, 1, ?_, by decide, hgAt_out b at_ h⟩
  unfold gAt; rw [if_pos h]
 ·obtain ⟨i, rfl⟩ := Int.eq_ofNat_of_zero_le (show 0 ≤ at_ by omega)
  have hi : i ≤ b.size := by omega
  have hle := idGet_le ((bl b).drop i)
  rw [List.length_drop, bl_length] at hle
  rcases hdGet_cases ((bl b).drop i) with ⟨c, t, k, n, e, h1, he⟩ | ⟨c, t, k, n, v, m, e, h1, h2, he⟩ | ⟨c, t, k, n, v, m, h1, h2⟩
  ·left
   obtain ⟨z1, z2, z3⟩ := idGet_bad ((bl b).drop i) (by rw [h1]; exact he)
   rw [h1] at z1 z2 z3
   simp only at z1 z2 z3
   subst z1 z2 z3
   exact ⟨(i : Int) + n, e, gAt_in b i hi h1, he, hgAt_in b i hi (hdGet_id h1 he)⟩
  ·right; left
   rw [h1] at hle
   simp only at hle
   have z := lenGet_bad (((bl b).drop i).drop n) (by rw [h2]; exact he)
   rw [h2] at z
   simp only at z
   subst z
   rw [List.drop_drop] at h2
   have e2 := lgAt_in b (i + n) (by omega) h2
   rw [show ((i + n : Nat) : Int) = (i : Int) + n by omega, show (i : Int) + (n : Int) + (m : Int) = (i : Int) + ((n + m : Nat) : Int) by omega] at e2
   exact ⟨c, t, k, (i : Int) + n, _, e, gAt_in b i hi h1, by omega, by omega, e2, he, hgAt_in b i hi (hdGet_len h1 (by rw [List.drop_drop]; exact h2) he)⟩
  ·right; right
   rw [h1] at hle
   simp only at hle
   rw [List.drop_drop] at h2
   have e2 := lgAt_in b (i + n) (by omega) h2
   rw [show ((i + n : Nat) : Int) = (i : Int) + n by omega, show (i : Int) + (n : Int) + (m : Int) = (i : Int) + ((n + m : Nat) : Int) by omega] at e2
   exact ⟨c, t, k, (i : Int) + n, v, _, gAt_in b i hi h1, by omega, by omega, e2, hgAt_in b i hi (hdGet_ok h1 (by rw [List.drop_drop]; exact h2))⟩
theorem hb9_of {b : ByteArray} (h : b.size ≤ maxLen) : (b.size : Int) ≤ 9223372036854775807 := by unfold maxLen at h; omega
end Go.Proofs.Ytiiimhamfibdbaa
