/- What the walks of layer 21's laws want: a text's bytes, one behind the other, and the kit. -/
import Derived.Test.YtfkfkoebplpooaaTapAwake
import Derived.Test.YtfkfkoebplpooaaBytes
import Derived.Deep.LoopGhost
import Derived.Deep.Cut
import Derived.Deep.QuietTactic
import Derived.BigQuiet
import Derived.Deep.RegionHeld3
import Derived.Handy
namespace Go.Proofs.Ytfkfkoebplpooaa
open Go.RowKit Go.PlainAid
theorem ext_next (a : ByteArray) (j : Nat) (h : j < a.size) : a.extract 0 j ++ byteS (bt a j) = a.extract 0 (j + 1) := by
  have hb : IsB [bt a j] := IsB.cons (bt_nonneg a j) (bt_le a j) (fun _ h => by simp at h)
  apply bl_inj
  rw [bl_append, bl_extract a 0 j (by omega), show bl (byteS (bt a j)) = [bt a j] from bl_str hb, bl_extract a 0 (j + 1) (by omega)]
  simp only [List.drop_zero, Nat.sub_zero]
  rw [List.take_add_one, bl_at a j h]; rfl
theorem TpS.pushes_next (s : TpS) (a : ByteArray) (j : Nat) (h : j < a.size) : (s.pushes (a.extract 0 j)).push (bt a j) = s.pushes (a.extract 0 (j + 1)) := by
  rw [TpS.push_byte, TpS.pushes_pushes, ext_next a j h]
theorem ext_zero (a : ByteArray) : a.extract 0 0 = .empty := by
  apply bl_inj
  rw [bl_extract a 0 0 (by omega)]
  rfl
theorem ext_all (a : ByteArray) : a.extract 0 a.size = a := by
  apply bl_inj
  rw [bl_extract a 0 a.size (Nat.le_refl _)]
  have := bl_length a
  simp only [List.drop_zero, Nat.sub_zero]
  exact List.take_of_length_le (by omega)
theorem TpS.pushes_size (s : TpS) (a : ByteArray) : (s.pushes a).head.size = s.head.size + a.size ∧ (s.pushes a).part.size ≤ s.part.size + a.size := by
  refine ⟨ByteArray.size_append, ?_⟩
  show (if s.on = true then s.part ++ a else s.part).size ≤ _
  split
  · rw [ByteArray.size_append]; exact Nat.le_refl _
  · omega
theorem TpS.pushes_room (s : TpS) (a : ByteArray) (j : Nat) (h1 : s.head.size ≤ 100000) (h2 : s.part.size ≤ 100000) (h : a.size ≤ 1000) : (s.pushes (a.extract 0 j)).head.size < 500000 ∧ (s.pushes (a.extract 0 j)).part.size < 500000 := by
  obtain ⟨q1, q2⟩ := s.pushes_size (a.extract 0 j)
  have : (a.extract 0 j).size ≤ a.size := by rw [ByteArray.size_extract]; omega
  omega
theorem TpS.pushes_on (a : ByteArray) : (TpS.mk .empty .empty true true).pushes a = ⟨a, a, true, true⟩ := by simp [TpS.pushes]
theorem TpS.pushes_on2 (h a : ByteArray) : (TpS.mk .empty h true true).pushes a = ⟨a, h ++ a, true, true⟩ := by simp [TpS.pushes]
/-- Two taps side by side. -/
structure TTwo (TA : TapPred) (a w : World) (k : Nat) (F : Nat → Prop) (s : TpS) (k' : Nat) (F' : Nat → Prop) (s' : TpS) : Prop where
  one : TOn TA a w k F s
  two : TOn TA a w k' F' s'
  apart : ∀ i, F i → ¬ F' i
section
variable {TA : TapPred} (H : TapSpec TA) {a w w' : World} {k k' : Nat} {F F' G : Nat → Prop} {s s' t : TpS}
include H
theorem TTwo.first (h : TTwo TA a w k F s k' F' s') (h1 : TOn TA a w' k G t) (hn : ∀ i, G i → F i ∨ w.heap.size ≤ i) (hc : Chg F w w') : TTwo TA a w' k G t k' F' s' := by
  refine ⟨h1, h.two.kept H hc (fun i hi hf => h.apart i hf hi) h1.bel, fun i hi hf => ?_⟩
  rcases hn i hi with q | q
  · exact h.apart i q hf
  · have := H.lt h.two.at_ i hf
    omega
theorem TTwo.second (h : TTwo TA a w k F s k' F' s') (h1 : TOn TA a w' k' G t) (hn : ∀ i, G i → F' i ∨ w.heap.size ≤ i) (hc : Chg F' w w') : TTwo TA a w' k F s k' G t := by
  refine ⟨h.one.kept H hc (fun i hi hf => h.apart i hi hf) h1.bel, h1, fun i hi hf => ?_⟩
  rcases hn i hf with q | q
  · exact h.apart i hi q
  · have := H.lt h.one.at_ i hi
    omega
theorem TTwo.below (h : TTwo TA a w k F s k' F' s') (hb : Below w.heap.size w w') : TTwo TA a w' k F s k' F' s' := ⟨h.one.below H hb, h.two.below H hb, h.apart⟩
theorem TTwo.mk_new (h : TOn TA a w k F s) (h2 : TOn TA a w' k' F' s') (hb : Below w.heap.size w w') (hf : ∀ i, F' i → w.heap.size ≤ i) : TTwo TA a w' k F s k' F' s' :=
  ⟨h.below H hb, h2, fun i hi hq => by have := H.lt h.at_ i hi; have := hf i hq; omega⟩
end
end Go.Proofs.Ytfkfkoebplpooaa
