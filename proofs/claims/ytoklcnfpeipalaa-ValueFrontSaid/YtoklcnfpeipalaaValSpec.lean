/- What the laws of layer 15 (and later ones) need of a checker's calls, whatever its memory is: VA says that block k holds a checker that knows s, that writes the blocks F alone; and the document's fixed answers. -/
import Derived.Test.YtoklcnfpeipalaaValAll
import Derived.Test.YtoklcnfpeipalaaE1
import Derived.Test.YtoklcnfpeipalaaB0
namespace Go.Proofs.Ytoklcnfpeipalaa
open Go.RowKit Go.PlainAid
set_option linter.unusedVariables false
abbrev ValPred := World → Nat → (Nat → Prop) → VS → Prop
structure ValSpec (VA : ValPred) : Prop where
  lt : ∀ {w k F s}, VA w k F s → ∀ i, F i → i < w.heap.size
  aside : ∀ {w w' k F F' s}, VA w k F s → Chg F' w w' → (∀ i, F i → ¬ F' i) → VA w' k F s
  new : ∀ (w : World), Calls Try.prog 10 #[] w fun e w' => ∃ k F, e = .returned (.pointer (some ⟨k, 0, none⟩)) ∧ (∀ i, F i → w.heap.size ≤ i) ∧ VA w' k F VS.new ∧ Below w.heap.size w w'
  push : ∀ {w k F s} (e : Ev), VA w k F s → s.Ok → s.fits e →
    Calls Try.prog 12 #[.pointer (some ⟨k, 0, none⟩), evV e] w fun r w' => ∃ F', r = .returned (.int .i64 (if (s.next e).bad = true then 7 else 0)) ∧ (∀ i, F' i → F i ∨ w.heap.size ≤ i) ∧ VA w' k F' (s.next e) ∧ Chg F w w'
  whole : ∀ (b : ByteArray) (depth : Int) (w : World), b.size ≤ 900000 → -9223372036854775808 ≤ depth ∧ depth ≤ 9223372036854775807 →
    Calls Try.prog 6 #[.string b, .int .i64 depth] w fun e w' => e = .returned (.tuple #[.int .i64 (valW b depth).1, .int .i64 (valW b depth).2]) ∧ Below w.heap.size w w'
/-- Whole, the parts laid open. -/
theorem ValSpec.whole_is {VA : ValPred} (H : ValSpec VA) (b : ByteArray) (depth : Int) (hs : b.size ≤ 900000) (hd : -9223372036854775808 ≤ depth ∧ depth ≤ 9223372036854775807) {e a : Int} (hw : valW b depth = (e, a)) (w : World) :
    Calls Try.prog 6 #[.string b, .int .i64 depth] w fun r w' => r = .returned (.tuple #[.int .i64 e, .int .i64 a]) ∧ Below w.heap.size w w' := by
  have h := H.whole b depth w hs hd
  rw [hw] at h
  exact h
theorem val_k1 : valW ⟨#[1, 1, 5]⟩ 9 = (7, 2) := by kernel_rfl
theorem val_k2 : valW ⟨#[36, 0]⟩ 9 = (7, 1) := by kernel_rfl
theorem val_k3 : valW ⟨#[48, 3, 2, 1, 5]⟩ 9 = (0, 5) := by kernel_rfl
theorem val_k4 : valW ⟨#[16, 0]⟩ 9 = (7, 1) := by kernel_rfl
set_option maxRecDepth 100000 in
set_option maxHeartbeats 4000000 in
theorem awake15_any {VA : ValPred} (H : ValSpec VA) (w : World) :
    Calls Try.prog 5 #[] w fun e w' => e = .returned (.bool true) ∧ Below w.heap.size w w' := by
  have H1 := Lib.hid (H.whole_is _ 9 (by decide +kernel) (by decide) val_k1)
  have H2 := Lib.hid (H.whole_is _ 9 (by decide +kernel) (by decide) val_k2)
  have H3 := Lib.hid (H.whole_is _ 9 (by decide +kernel) (by decide) val_k3)
  have H4 := Lib.hid (H.whole_is _ 9 (by decide +kernel) (by decide) val_k4)
  go_enter Try.func5, Try.ntmps5
  go_wp2_with fail
  refine (H1.out _).mono ?_
  rintro r w1 ⟨rfl, hB1⟩
  go_wp2_with fail
  refine (H2.out _).mono ?_
  rintro r w2 ⟨rfl, hb⟩
  have hB2 := hB1.trans (hb.mono hB1.size)
  clear hb
  go_wp2_with fail
  refine (H3.out _).mono ?_
  rintro r w3 ⟨rfl, hb⟩
  have hB3 := hB2.trans (hb.mono hB2.size)
  clear hb
  go_wp2_with fail
  refine (H4.out _).mono ?_
  rintro r w4 ⟨rfl, hb⟩
  have hB4 := hB3.trans (hb.mono hB3.size)
  clear hb
  go_wp2
  go_returns
  exact ⟨rfl, hB4⟩
end Go.Proofs.Ytoklcnfpeipalaa
