/- What the laws of layer 9 (and later ones) need of a machine's calls, whatever its memory is: MA says that block k holds a machine in state m, that writes the blocks F alone. -/
import Derived.Test.YtagigdefghnnhaaRefEvWhole
import Derived.Test.YtagigdefghnnhaaRefSame
import Derived.Test.YtagigdefghnnhaaChg
namespace Go.Proofs.Ytagigdefghnnhaa
open Go.RowKit Go.PlainAid
set_option linter.unusedVariables false
abbrev EvPred := World → Nat → (Nat → Prop) → Nat → EM → Prop
structure EvSpec (MA : EvPred) : Prop where
  lt : ∀ {w k F d m}, MA w k F d m → ∀ i, F i → i < w.heap.size
  aside : ∀ {w w' k F F' d m}, MA w k F d m → Chg F' w w' → (∀ i, F i → ¬ F' i) → MA w' k F d m
  new : ∀ (depth : Int) (w : World), -9223372036854775808 ≤ depth ∧ depth ≤ 9223372036854775807 →
    Calls Try.prog 16 #[.int .i64 depth] w fun e w' => ∃ k F, e = .returned (.pointer (some ⟨k, 0, none⟩)) ∧ (∀ i, F i → w.heap.size ≤ i) ∧ MA w' k F (evMost depth) EM.new ∧ Below w.heap.size w w'
  push : ∀ {w k F d m} (b : Int), MA w k F d m → 0 ≤ b → b ≤ 255 → m.at_ ≤ 1000000 →
    Calls Try.prog 17 #[.pointer (some ⟨k, 0, none⟩), .int .u8 b] w fun e w' => ∃ v F', e = .returned (.tuple #[v, .int .i64 (m.step d b).1]) ∧ Evs w' w.heap.size v (m.step d b).2.1 ∧ (∀ i, F' i → F i ∨ w.heap.size ≤ i) ∧ (∀ i, v.ownBlock = some i → ¬ F' i) ∧ MA w' k F' d (m.step d b).2.2 ∧ Chg F w w'
  done : ∀ {w k F d m}, MA w k F d m →
    Calls Try.prog 19 #[.pointer (some ⟨k, 0, none⟩)] w fun e w' => e = .returned (.bool m.done) ∧ ∃ n, w' = w.drewN n
  at_ : ∀ {w k F d m}, MA w k F d m →
    Calls Try.prog 18 #[.pointer (some ⟨k, 0, none⟩)] w fun e w' => e = .returned (.int .i64 (m.at_ : Int)) ∧ ∃ n, w' = w.drewN n
  copy : ∀ {w k F d m}, MA w k F d m →
    Calls Try.prog 20 #[.pointer (some ⟨k, 0, none⟩)] w fun e w' => ∃ k' F', e = .returned (.pointer (some ⟨k', 0, none⟩)) ∧ (∀ i, F' i → w.heap.size ≤ i) ∧ MA w' k' F' d m ∧ Below w.heap.size w w'
  whole : ∀ (b : ByteArray) (depth : Int) (w : World), b.size ≤ 1000000 → -9223372036854775808 ≤ depth ∧ depth ≤ 9223372036854775807 →
    Calls Try.prog 13 #[.string b, .int .i64 depth] w fun e w' => ∃ v, e = .returned (.tuple #[v, .int .i64 (evW b depth).2.1, .int .i64 ((evW b depth).2.2 : Int)]) ∧ Evs w' w.heap.size v (evW b depth).1 ∧ Below w.heap.size w w'
/-- Whole, the parts laid open. -/
theorem EvSpec.whole_is {MA : EvPred} (H : EvSpec MA) (b : ByteArray) (depth : Int) (hs : b.size ≤ 1000000) (hd : -9223372036854775808 ≤ depth ∧ depth ≤ 9223372036854775807) {l : List Ev} {e : Int} {a : Nat} (hw : evW b depth = (l, e, a)) (w : World) :
    Calls Try.prog 13 #[.string b, .int .i64 depth] w fun r w' => ∃ oa n c, r = .returned (.tuple #[.slice oa n c, .int .i64 e, .int .i64 (a : Int)]) ∧ Evs w' w.heap.size (.slice oa n c) l ∧ n = l.length ∧ Below w.heap.size w w' := by
  have h := H.whole b depth w hs hd
  rw [hw] at h
  refine h.mono ?_
  rintro r w' ⟨v, h1, h2, h3⟩
  obtain ⟨oa, c, rfl⟩ := h2.form
  exact ⟨oa, _, c, h1, h2, rfl, h3⟩
theorem refEvWhole_is (b : ByteArray) (depth : Int) (hs : b.size ≤ 1000000) (hd : -9223372036854775808 ≤ depth ∧ depth ≤ 9223372036854775807) {l : List Ev} {e : Int} {a : Nat} (hw : evW b depth = (l, e, a)) (w : World) :
    Calls Try.prog 14 #[.string b, .int .i64 depth] w fun r w' => ∃ oa n c, r = .returned (.agg #[.slice oa n c, .int .i64 e, .int .i64 (a : Int)]) ∧ Evs w' w.heap.size (.slice oa n c) l ∧ n = l.length ∧ Below w.heap.size w w' := by
  have h := refEvWhole_any b depth hs hd w
  rw [hw] at h
  refine h.mono ?_
  rintro r w' ⟨v, h1, h2, h3⟩
  obtain ⟨oa, c, rfl⟩ := h2.form
  exact ⟨oa, _, c, h1, h2, rfl, h3⟩
theorem ev_k1 : evW ⟨#[48, 3, 2, 1, 7]⟩ 2 = ([⟨1, 1, 0, 16, true, 3, 0⟩, ⟨2, 3, 0, 2, false, 1, 0⟩, ⟨3, 4, 0, 0, false, 0, 7⟩, ⟨4, 4, 0, 0, false, 0, 0⟩, ⟨5, 4, 0, 0, false, 0, 0⟩], 0, 5) := by kernel_rfl
theorem ev_k2 : evW ⟨#[48, 2, 2, 1]⟩ 2 = ([⟨1, 1, 0, 16, true, 2, 0⟩], 5, 3) := by kernel_rfl
theorem ev_k3 : evW ⟨#[48, 0]⟩ 0 = ([], 10, 1) := by kernel_rfl
end Go.Proofs.Ytagigdefghnnhaa
