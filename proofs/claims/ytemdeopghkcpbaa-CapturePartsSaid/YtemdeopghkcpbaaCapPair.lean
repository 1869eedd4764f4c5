/- Two captures side by side. -/
import Derived.Test.YtemdeopghkcpbaaCapLoop
namespace Go.Proofs.Ytemdeopghkcpbaa
open Go.RowKit Go.PlainAid
set_option linter.unusedVariables false
structure KPair (a w : World) (k : Nat) (F : Nat → Prop) (c : KM) (g : Nat) (G : Nat → Prop) (d : KM) : Prop where
  x : KOn KAt a w k F c
  y : KOn KAt a w g G d
  dj : ∀ i, F i → ¬ G i
section
variable {a w w' : World} {k g : Nat} {F G F' G' : Nat → Prop} {c d c' d' : KM}
theorem KPair.new (hx : KOn KAt a w k F c) (hy : KOn KAt a w' g G d) (hb : Below w.heap.size w w') (hG : ∀ i, G i → w.heap.size ≤ i) : KPair a w' k F c g G d :=
  ⟨hx.below capSpec hb, hy, fun i hi hg => by have := capSpec.lt hx.at_ i hi; have := hG i hg; omega⟩
theorem KPair.below (h : KPair a w k F c g G d) (hb : Below w.heap.size w w') : KPair a w' k F c g G d := ⟨h.x.below capSpec hb, h.y.below capSpec hb, h.dj⟩
theorem KPair.drewN (h : KPair a w k F c g G d) (n : Nat) : KPair a (w.drewN n) k F c g G d := h.below ⟨rfl, rfl, rfl, Nat.le_refl _, fun _ _ => rfl⟩
theorem KPair.stepX (h : KPair a w k F c g G d) (hx : KOn KAt a w' k F' c') (hF : ∀ i, F' i → F i ∨ w.heap.size ≤ i) (hc : Chg F w w') : KPair a w' k F' c' g G d :=
  ⟨hx, h.y.beside capSpec hc (fun i hg hf => h.dj i hf hg) hx.bel, fun i hi hg => by
    rcases hF i hi with q | q
    · exact h.dj i q hg
    · have := capSpec.lt h.y.at_ i hg; omega⟩
theorem KPair.stepY (h : KPair a w k F c g G d) (hy : KOn KAt a w' g G' d') (hG : ∀ i, G' i → G i ∨ w.heap.size ≤ i) (hc : Chg G w w') : KPair a w' k F c g G' d' :=
  ⟨h.x.beside capSpec hc h.dj hy.bel, hy, fun i hi hg => by
    rcases hG i hg with q | q
    · exact h.dj i hi q
    · have := capSpec.lt h.x.at_ i hi; omega⟩
theorem KPair.beginX (h : KPair a w k F c g G d) (b : ByteArray) (hb : b.size ≤ 100000) (hc : c.begin (bl b) = c') {e : Int} (he : c.beginE (bl b) = e) :
    Calls Try.prog 10 #[.pointer (some ⟨k, 0, none⟩), .string b] w fun r w' => ∃ F', r = .returned (.int .i64 e) ∧ KPair a w' k F' c' g G d := by
  refine (capSpec.begin_on h.x b hb hc he).mono ?_
  rintro r w' ⟨F', rfl, h1, h2, h3⟩
  exact ⟨F', rfl, h.stepX h1 h2 h3⟩
theorem KPair.beginY (h : KPair a w k F c g G d) (b : ByteArray) (hb : b.size ≤ 100000) (hc : d.begin (bl b) = d') {e : Int} (he : d.beginE (bl b) = e) :
    Calls Try.prog 10 #[.pointer (some ⟨g, 0, none⟩), .string b] w fun r w' => ∃ G', r = .returned (.int .i64 e) ∧ KPair a w' k F c g G' d' := by
  refine (capSpec.begin_on h.y b hb hc he).mono ?_
  rintro r w' ⟨F', rfl, h1, h2, h3⟩
  exact ⟨F', rfl, h.stepY h1 h2 h3⟩
theorem KPair.pushX (h : KPair a w k F c g G d) (b : Int) (hb : 0 ≤ b ∧ b ≤ 255) (hc : c.push b = c') {e : Int} (he : c.pushE = e) :
    Calls Try.prog 12 #[.pointer (some ⟨k, 0, none⟩), .int .u8 b] w fun r w' => ∃ F', r = .returned (.int .i64 e) ∧ KPair a w' k F' c' g G d := by
  refine (capSpec.push_on h.x b hb hc he).mono ?_
  rintro r w' ⟨F', rfl, h1, h2, h3⟩
  exact ⟨F', rfl, h.stepX h1 h2 h3⟩
theorem KPair.pushY (h : KPair a w k F c g G d) (b : Int) (hb : 0 ≤ b ∧ b ≤ 255) (hc : d.push b = d') {e : Int} (he : d.pushE = e) :
    Calls Try.prog 12 #[.pointer (some ⟨g, 0, none⟩), .int .u8 b] w fun r w' => ∃ G', r = .returned (.int .i64 e) ∧ KPair a w' k F c g G' d' := by
  refine (capSpec.push_on h.y b hb hc he).mono ?_
  rintro r w' ⟨F', rfl, h1, h2, h3⟩
  exact ⟨F', rfl, h.stepY h1 h2 h3⟩
theorem KPair.finX (h : KPair a w k F c g G d) (hc : c.fin = c') :
    Calls Try.prog 14 #[.pointer (some ⟨k, 0, none⟩)] w fun r w' => ∃ F', r = .returned (.tuple #[]) ∧ KPair a w' k F' c' g G d := by
  refine (capSpec.fin_on h.x hc).mono ?_
  rintro r w' ⟨F', rfl, h1, h2, h3⟩
  exact ⟨F', rfl, h.stepX h1 h2 h3⟩
theorem KPair.finY (h : KPair a w k F c g G d) (hc : d.fin = d') :
    Calls Try.prog 14 #[.pointer (some ⟨g, 0, none⟩)] w fun r w' => ∃ G', r = .returned (.tuple #[]) ∧ KPair a w' k F c g G' d' := by
  refine (capSpec.fin_on h.y hc).mono ?_
  rintro r w' ⟨F', rfl, h1, h2, h3⟩
  exact ⟨F', rfl, h.stepY h1 h2 h3⟩
end
end Go.Proofs.Ytemdeopghkcpbaa
