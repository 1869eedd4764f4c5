/- What the laws of layer 17 (and later ones) need of a capture's calls, whatever its memory is: KA says that block k holds a capture that is c, that writes the blocks F alone; and the same in a world in which nothing else has changed. -/
import Derived.Test.YtemdeopghkcpbaaCap
import Derived.Test.YtemdeopghkcpbaaChg
import Derived.Test.YtemdeopghkcpbaaCame
import Derived.Test.YtemdeopghkcpbaaChecked
namespace Go.Proofs.Ytemdeopghkcpbaa
open Go.RowKit Go.PlainAid
set_option linter.unusedVariables false
abbrev CapPred := World → Nat → (Nat → Prop) → KM → Prop
structure CapSpec (KA : CapPred) : Prop where
  lt : ∀ {w k F c}, KA w k F c → ∀ i, F i → i < w.heap.size
  aside : ∀ {w w' k F F' c}, KA w k F c → Chg F' w w' → (∀ i, F i → ¬ F' i) → KA w' k F c
  new : ∀ (w : World) (most : Int), InI most → Calls Try.prog 8 #[.int .i64 most] w fun e w' => ∃ k F, e = .returned (.pointer (some ⟨k, 0, none⟩)) ∧ (∀ i, F i → w.heap.size ≤ i) ∧ KA w' k F (KM.new most) ∧ Below w.heap.size w w'
  begin : ∀ {w k F c} (b : ByteArray), KA w k F c → c.Ok → b.size ≤ 100000 →
    Calls Try.prog 10 #[.pointer (some ⟨k, 0, none⟩), .string b] w fun r w' => ∃ F', r = .returned (.int .i64 (c.beginE (bl b))) ∧ (∀ i, F' i → F i ∨ w.heap.size ≤ i) ∧ KA w' k F' (c.begin (bl b)) ∧ Chg F w w'
  push : ∀ {w k F c} (b : Int), KA w k F c → c.Ok → 0 ≤ b ∧ b ≤ 255 →
    Calls Try.prog 12 #[.pointer (some ⟨k, 0, none⟩), .int .u8 b] w fun r w' => ∃ F', r = .returned (.int .i64 c.pushE) ∧ (∀ i, F' i → F i ∨ w.heap.size ≤ i) ∧ KA w' k F' (c.push b) ∧ Chg F w w'
  fin : ∀ {w k F c}, KA w k F c → c.Ok →
    Calls Try.prog 14 #[.pointer (some ⟨k, 0, none⟩)] w fun r w' => ∃ F', r = .returned (.tuple #[]) ∧ (∀ i, F' i → F i ∨ w.heap.size ≤ i) ∧ KA w' k F' c.fin ∧ Chg F w w'
  on : ∀ {w k F c}, KA w k F c → Calls Try.prog 15 #[.pointer (some ⟨k, 0, none⟩)] w fun r w' => r = .returned (.bool c.on) ∧ ∃ n, w' = w.drewN n
  text : ∀ {w k F c}, KA w k F c → c.Ok → Calls Try.prog 16 #[.pointer (some ⟨k, 0, none⟩)] w fun r w' => r = .returned (.string (strOfNums c.kept)) ∧ ∃ n, w' = w.drewN n
  room : ∀ {w k F c}, KA w k F c → c.Ok → Calls Try.prog 17 #[.pointer (some ⟨k, 0, none⟩)] w fun r w' => r = .returned (.int .i64 ((c.most : Int) - (c.kept.length : Int))) ∧ ∃ n, w' = w.drewN n
/-- A capture that a call has made, in a world in which nothing else has changed. -/
structure KOn (KA : CapPred) (a w : World) (k : Nat) (F : Nat → Prop) (c : KM) : Prop where
  at_ : KA w k F c
  bel : Below a.heap.size a w
  own : ∀ i, F i → a.heap.size ≤ i
  ok : c.Ok
section
variable {KA : CapPred}
theorem KOn.below (H : CapSpec KA) {a w w' : World} {k : Nat} {F : Nat → Prop} {c : KM} (h : KOn KA a w k F c) (hb : Below w.heap.size w w') : KOn KA a w' k F c :=
  ⟨H.aside h.at_ (Chg.of_below (F := fun _ => False) hb) (fun _ _ h => h), h.bel.trans (hb.mono h.bel.size), h.own, h.ok⟩
theorem KOn.drewN (H : CapSpec KA) {a w : World} {k : Nat} {F : Nat → Prop} {c : KM} (h : KOn KA a w k F c) (n : Nat) : KOn KA a (w.drewN n) k F c :=
  h.below H ⟨rfl, rfl, rfl, Nat.le_refl _, fun _ _ => rfl⟩
theorem KOn.next (H : CapSpec KA) {a w w' : World} {k : Nat} {F F' : Nat → Prop} {c c' : KM} (h : KOn KA a w k F c) (h1 : ∀ i, F' i → F i ∨ w.heap.size ≤ i) (h2 : KA w' k F' c') (h3 : Chg F w w') (hok : c'.Ok) : KOn KA a w' k F' c' := by
  refine ⟨h2, Chg.to_below h.bel h3 h.own, fun i hi => ?_, hok⟩
  rcases h1 i hi with q | q
  · exact h.own i q
  · exact Nat.le_trans h.bel.size q
/-- Another capture, beside one that changes. -/
theorem KOn.beside (H : CapSpec KA) {a w w' : World} {k : Nat} {F F' : Nat → Prop} {c : KM} (h : KOn KA a w k F c) (hc : Chg F' w w') (hF : ∀ i, F i → ¬ F' i) (hB : Below a.heap.size a w') : KOn KA a w' k F c :=
  ⟨H.aside h.at_ hc hF, hB, h.own, h.ok⟩
theorem CapSpec.new_on (H : CapSpec KA) (most : Int) (hm : InI most) {a w : World} (hB : Below a.heap.size a w) :
    Calls Try.prog 8 #[.int .i64 most] w fun e w' => ∃ k F, e = .returned (.pointer (some ⟨k, 0, none⟩)) ∧ KOn KA a w' k F (KM.new most) ∧ Below w.heap.size w w' ∧ (∀ i, F i → w.heap.size ≤ i) := by
  refine (H.new w most hm).mono ?_
  rintro e w' ⟨k, F, rfl, h1, h2, h3⟩
  exact ⟨k, F, rfl, ⟨h2, hB.trans (h3.mono hB.size), fun i hi => Nat.le_trans hB.size (h1 i hi), KM.new_ok most⟩, h3, h1⟩
theorem CapSpec.begin_on (H : CapSpec KA) {a w : World} {k : Nat} {F : Nat → Prop} {c : KM} (hA : KOn KA a w k F c) (b : ByteArray) (hb : b.size ≤ 100000) {c' : KM} (hc : c.begin (bl b) = c') {e : Int} (he : c.beginE (bl b) = e) :
    Calls Try.prog 10 #[.pointer (some ⟨k, 0, none⟩), .string b] w fun r w' => ∃ F', r = .returned (.int .i64 e) ∧ KOn KA a w' k F' c' ∧ (∀ i, F' i → F i ∨ w.heap.size ≤ i) ∧ Chg F w w' := by
  refine (H.begin b hA.at_ hA.ok hb).mono ?_
  rintro r w' ⟨F', rfl, h1, h2, h3⟩
  subst hc; subst he
  exact ⟨F', rfl, hA.next H h1 h2 h3 (KM.begin_ok hA.ok (bl_isB b)), h1, h3⟩
theorem CapSpec.push_on (H : CapSpec KA) {a w : World} {k : Nat} {F : Nat → Prop} {c : KM} (hA : KOn KA a w k F c) (b : Int) (hb : 0 ≤ b ∧ b ≤ 255) {c' : KM} (hc : c.push b = c') {e : Int} (he : c.pushE = e) :
    Calls Try.prog 12 #[.pointer (some ⟨k, 0, none⟩), .int .u8 b] w fun r w' => ∃ F', r = .returned (.int .i64 e) ∧ KOn KA a w' k F' c' ∧ (∀ i, F' i → F i ∨ w.heap.size ≤ i) ∧ Chg F w w' := by
  refine (H.push b hA.at_ hA.ok hb).mono ?_
  rintro r w' ⟨F', rfl, h1, h2, h3⟩
  subst hc; subst he
  exact ⟨F', rfl, hA.next H h1 h2 h3 (KM.push_ok hA.ok hb), h1, h3⟩
theorem CapSpec.fin_on (H : CapSpec KA) {a w : World} {k : Nat} {F : Nat → Prop} {c : KM} (hA : KOn KA a w k F c) {c' : KM} (hc : c.fin = c') :
    Calls Try.prog 14 #[.pointer (some ⟨k, 0, none⟩)] w fun r w' => ∃ F', r = .returned (.tuple #[]) ∧ KOn KA a w' k F' c' ∧ (∀ i, F' i → F i ∨ w.heap.size ≤ i) ∧ Chg F w w' := by
  refine (H.fin hA.at_ hA.ok).mono ?_
  rintro r w' ⟨F', rfl, h1, h2, h3⟩
  subst hc
  exact ⟨F', rfl, hA.next H h1 h2 h3 (KM.fin_ok hA.ok), h1, h3⟩
theorem CapSpec.on_on (H : CapSpec KA) {a w : World} {k : Nat} {F : Nat → Prop} {c : KM} (hA : KOn KA a w k F c) {b : Bool} (hb : c.on = b) :
    Calls Try.prog 15 #[.pointer (some ⟨k, 0, none⟩)] w fun r w' => r = .returned (.bool b) ∧ ∃ n, w' = w.drewN n := by subst hb; exact H.on hA.at_
theorem CapSpec.text_on (H : CapSpec KA) {a w : World} {k : Nat} {F : Nat → Prop} {c : KM} (hA : KOn KA a w k F c) {s : ByteArray} (hs : strOfNums c.kept = s) :
    Calls Try.prog 16 #[.pointer (some ⟨k, 0, none⟩)] w fun r w' => r = .returned (.string s) ∧ ∃ n, w' = w.drewN n := by subst hs; exact H.text hA.at_ hA.ok
theorem CapSpec.room_on (H : CapSpec KA) {a w : World} {k : Nat} {F : Nat → Prop} {c : KM} (hA : KOn KA a w k F c) {r : Int} (hr : (c.most : Int) - (c.kept.length : Int) = r) :
    Calls Try.prog 17 #[.pointer (some ⟨k, 0, none⟩)] w fun e w' => e = .returned (.int .i64 r) ∧ ∃ n, w' = w.drewN n := by subst hr; exact H.room hA.at_ hA.ok
end
end Go.Proofs.Ytemdeopghkcpbaa
