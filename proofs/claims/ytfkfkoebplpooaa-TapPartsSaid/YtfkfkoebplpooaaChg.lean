/- What a call does to memory when it may write into some blocks alone: the blocks F. Of any program. -/
import Derived.Test.YtfkfkoebplpooaaMem
namespace Go.Proofs.Ytfkfkoebplpooaa
open Go.RowKit
set_option linter.unusedVariables false
/-- What was there is as it was, but for the blocks F. -/
structure Chg (F : Nat → Prop) (w w' : World) : Prop where
  os : w'.os = w.os
  tape : w'.tape = w.tape
  output : w'.output = w.output
  size : w.heap.size ≤ w'.heap.size
  block : ∀ i, i < w.heap.size → ¬ F i → w'.heap[i]? = w.heap[i]?
theorem Chg.to_below {F : Nat → Prop} {a w w' : World} (h : Below a.heap.size a w) (hc : Chg F w w') (hF : ∀ i, F i → a.heap.size ≤ i) : Below a.heap.size a w' :=
  ⟨hc.os.trans h.os, hc.tape.trans h.tape, hc.output.trans h.output, Nat.le_trans h.size hc.size, fun i hi => (hc.block i (Nat.lt_of_lt_of_le hi h.size) (fun f => by have := hF i f; omega)).trans (h.block i hi)⟩
theorem Row.chg {F : Nat → Prop} {w w' : World} {g : Nat} {t : TypeId} {l : List Value} (h : Row w g t l) (hc : Chg F w w') (hg : ¬ F g) : Row w' g t l := (hc.block g h.lt hg).trans h
theorem Chg.of_below {F : Nat → Prop} {w w' : World} (h : Below w.heap.size w w') : Chg F w w' := ⟨h.os, h.tape, h.output, h.size, fun i hi _ => h.block i hi⟩
theorem Chg.trans {F F' : Nat → Prop} {a w w' : World} (h : Chg F a w) (k : Chg F' w w') (hF : ∀ i, F' i → F i ∨ a.heap.size ≤ i) : Chg F a w' :=
  ⟨k.os.trans h.os, k.tape.trans h.tape, k.output.trans h.output, Nat.le_trans h.size k.size, fun i hi hn => (k.block i (Nat.lt_of_lt_of_le hi h.size) (fun f => by rcases hF i f with q | q; exact hn q; omega)).trans (h.block i hi hn)⟩
end Go.Proofs.Ytfkfkoebplpooaa
