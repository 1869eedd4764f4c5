/- What the laws of layer 21 (and later ones) need of a tap's calls, whatever its memory is: TA says that block k holds a tap to which these bytes came, that writes the blocks F alone. -/
import Derived.Test.YtfkfkoebplpooaaSha
import Derived.Test.YtfkfkoebplpooaaMem
import Derived.Test.YtfkfkoebplpooaaChg
import Derived.Test.YtfkfkoebplpooaaByteS
import Derived.Test.YtfkfkoebplpooaaRows
namespace Go.Proofs.Ytfkfkoebplpooaa
open Go.RowKit Go.PlainAid
set_option linter.unusedVariables false
/-- What came since the last head, the part's bytes, whether one was begun, and whether it goes on. -/
structure TpS where
  head : ByteArray
  part : ByteArray
  begun : Bool
  on : Bool
def TpS.new : TpS := ⟨.empty, .empty, false, false⟩
def TpS.push (s : TpS) (b : Int) : TpS := ⟨s.head ++ byteS b, if s.on = true then s.part ++ byteS b else s.part, s.begun, s.on⟩
def TpS.bare (s : TpS) : TpS := ⟨.empty, s.part, s.begun, s.on⟩
def TpS.start (s : TpS) (h : ByteArray) : TpS := ⟨s.head, h, true, true⟩
def TpS.over (s : TpS) : TpS := ⟨s.head, s.part, s.begun, false⟩
def TpS.sum (s : TpS) : ByteArray := if s.begun = true then shaB s.part else .empty
def TpS.pushes (s : TpS) (b : ByteArray) : TpS := ⟨s.head ++ b, if s.on = true then s.part ++ b else s.part, s.begun, s.on⟩
abbrev TapPred := World → Nat → (Nat → Prop) → TpS → Prop
structure TapSpec (TA : TapPred) : Prop where
  lt : ∀ {w k F s}, TA w k F s → ∀ i, F i → i < w.heap.size
  aside : ∀ {w w' k F F' s}, TA w k F s → Chg F' w w' → (∀ i, F i → ¬ F' i) → TA w' k F s
  new : ∀ (w : World), Calls Try.prog 7 #[] w fun e w' => ∃ k F, e = .returned (.pointer (some ⟨k, 0, none⟩)) ∧ (∀ i, F i → w.heap.size ≤ i) ∧ TA w' k F TpS.new ∧ Below w.heap.size w w'
  push : ∀ {w k F s} (b : Int), TA w k F s → 0 ≤ b ∧ b ≤ 255 → s.head.size < 500000 ∧ s.part.size < 500000 →
    Calls Try.prog 9 #[.pointer (some ⟨k, 0, none⟩), .int .u8 b] w fun r w' => ∃ F', r = .returned (.tuple #[]) ∧ (∀ i, F' i → F i ∨ w.heap.size ≤ i) ∧ TA w' k F' (s.push b) ∧ Chg F w w'
  head : ∀ {w k F s}, TA w k F s → s.head.size ≤ 500000 →
    Calls Try.prog 11 #[.pointer (some ⟨k, 0, none⟩)] w fun r w' => ∃ F', r = .returned (.string s.head) ∧ (∀ i, F' i → F i ∨ w.heap.size ≤ i) ∧ TA w' k F' s.bare ∧ Chg F w w'
  start : ∀ {w k F s} (h : ByteArray), TA w k F s → h.size ≤ 500000 →
    Calls Try.prog 12 #[.pointer (some ⟨k, 0, none⟩), .string h] w fun r w' => ∃ F', r = .returned (.tuple #[]) ∧ (∀ i, F' i → F i ∨ w.heap.size ≤ i) ∧ TA w' k F' (s.start h) ∧ Chg F w w'
  over : ∀ {w k F s}, TA w k F s →
    Calls Try.prog 14 #[.pointer (some ⟨k, 0, none⟩)] w fun r w' => ∃ F', r = .returned (.tuple #[]) ∧ (∀ i, F' i → F i ∨ w.heap.size ≤ i) ∧ TA w' k F' s.over ∧ Chg F w w'
  sum : ∀ {w k F s}, TA w k F s → s.part.size ≤ 500000 →
    Calls Try.prog 15 #[.pointer (some ⟨k, 0, none⟩)] w fun r w' => ∃ F', r = .returned (.tuple #[.string s.sum, .bool s.begun]) ∧ (∀ i, F' i → F i ∨ w.heap.size ≤ i) ∧ TA w' k F' s ∧ Chg F w w'
/-- A tap above the world in which a law began. -/
structure TOn (TA : TapPred) (a w : World) (k : Nat) (F : Nat → Prop) (s : TpS) : Prop where
  at_ : TA w k F s
  bel : Below a.heap.size a w
  own : ∀ i, F i → a.heap.size ≤ i
theorem TOn.next {TA : TapPred} {a w w' : World} {k : Nat} {F F' : Nat → Prop} {s s' : TpS} (h : TOn TA a w k F s) (h1 : ∀ i, F' i → F i ∨ w.heap.size ≤ i) (h2 : TA w' k F' s') (hc : Chg F w w') : TOn TA a w' k F' s' := by
  refine ⟨h2, hc.to_below h.bel h.own, fun i hi => ?_⟩
  rcases h1 i hi with h3 | h3
  · exact h.own i h3
  · exact Nat.le_trans h.bel.size h3
theorem TOn.kept {TA : TapPred} (H : TapSpec TA) {a w w' : World} {k : Nat} {F F' : Nat → Prop} {s : TpS} (h : TOn TA a w k F s) (hc : Chg F' w w') (hF : ∀ i, F i → ¬ F' i) (hB : Below a.heap.size a w') : TOn TA a w' k F s := ⟨H.aside h.at_ hc hF, hB, h.own⟩
theorem TOn.below {TA : TapPred} (H : TapSpec TA) {a w w' : World} {k : Nat} {F : Nat → Prop} {s : TpS} (h : TOn TA a w k F s) (hb : Below w.heap.size w w') : TOn TA a w' k F s :=
  h.kept H (Chg.of_below hb) (F' := fun _ => False) (fun _ _ h => h) (h.bel.trans (hb.mono h.bel.size))
section
variable {TA : TapPred} (H : TapSpec TA) {a w : World} {k : Nat} {F : Nat → Prop} {s s' : TpS}
include H
theorem TapSpec.new_on (hB : Below a.heap.size a w) :
    Calls Try.prog 7 #[] w fun e w' => ∃ k F, e = .returned (.pointer (some ⟨k, 0, none⟩)) ∧ TOn TA a w' k F TpS.new ∧ Below w.heap.size w w' ∧ ∀ i, F i → w.heap.size ≤ i := by
  refine (H.new w).mono ?_
  rintro e w' ⟨k, F, rfl, h1, h2, h3⟩
  exact ⟨k, F, rfl, ⟨h2, hB.trans (h3.mono hB.size), fun i hi => Nat.le_trans hB.size (h1 i hi)⟩, h3, h1⟩
theorem TapSpec.push_on (h : TOn TA a w k F s) (b : Int) (hb : 0 ≤ b ∧ b ≤ 255) (hz : s.head.size < 500000 ∧ s.part.size < 500000) (hs : s.push b = s') :
    Calls Try.prog 9 #[.pointer (some ⟨k, 0, none⟩), .int .u8 b] w fun r w' => ∃ F', r = .returned (.tuple #[]) ∧ TOn TA a w' k F' s' ∧ (∀ i, F' i → F i ∨ w.heap.size ≤ i) ∧ Chg F w w' := by
  refine (H.push b h.at_ hb hz).mono ?_
  rintro r w' ⟨F', rfl, h1, h2, h3⟩
  subst hs
  exact ⟨F', rfl, h.next h1 h2 h3, h1, h3⟩
theorem TapSpec.head_on (h : TOn TA a w k F s) (hz : s.head.size ≤ 500000) (hs : s.bare = s') {t : ByteArray} (ht : s.head = t) :
    Calls Try.prog 11 #[.pointer (some ⟨k, 0, none⟩)] w fun r w' => ∃ F', r = .returned (.string t) ∧ TOn TA a w' k F' s' ∧ (∀ i, F' i → F i ∨ w.heap.size ≤ i) ∧ Chg F w w' := by
  refine (H.head h.at_ hz).mono ?_
  rintro r w' ⟨F', rfl, h1, h2, h3⟩
  subst hs; subst ht
  exact ⟨F', rfl, h.next h1 h2 h3, h1, h3⟩
theorem TapSpec.start_on (h : TOn TA a w k F s) (b : ByteArray) (hz : b.size ≤ 500000) (hs : s.start b = s') :
    Calls Try.prog 12 #[.pointer (some ⟨k, 0, none⟩), .string b] w fun r w' => ∃ F', r = .returned (.tuple #[]) ∧ TOn TA a w' k F' s' ∧ (∀ i, F' i → F i ∨ w.heap.size ≤ i) ∧ Chg F w w' := by
  refine (H.start b h.at_ hz).mono ?_
  rintro r w' ⟨F', rfl, h1, h2, h3⟩
  subst hs
  exact ⟨F', rfl, h.next h1 h2 h3, h1, h3⟩
theorem TapSpec.over_on (h : TOn TA a w k F s) (hs : s.over = s') :
    Calls Try.prog 14 #[.pointer (some ⟨k, 0, none⟩)] w fun r w' => ∃ F', r = .returned (.tuple #[]) ∧ TOn TA a w' k F' s' ∧ (∀ i, F' i → F i ∨ w.heap.size ≤ i) ∧ Chg F w w' := by
  refine (H.over h.at_).mono ?_
  rintro r w' ⟨F', rfl, h1, h2, h3⟩
  subst hs
  exact ⟨F', rfl, h.next h1 h2 h3, h1, h3⟩
theorem TapSpec.sum_on (h : TOn TA a w k F s) (hz : s.part.size ≤ 500000) {t : ByteArray} (ht : s.sum = t) {b : Bool} (hb : s.begun = b) :
    Calls Try.prog 15 #[.pointer (some ⟨k, 0, none⟩)] w fun r w' => ∃ F', r = .returned (.tuple #[.string t, .bool b]) ∧ TOn TA a w' k F' s ∧ (∀ i, F' i → F i ∨ w.heap.size ≤ i) ∧ Chg F w w' := by
  refine (H.sum h.at_ hz).mono ?_
  rintro r w' ⟨F', rfl, h1, h2, h3⟩
  subst ht; subst hb
  exact ⟨F', rfl, h.next h1 h2 h3, h1, h3⟩
end
theorem TpS.push_byte (s : TpS) (b : Int) : s.push b = s.pushes (byteS b) := rfl
theorem TpS.pushes_pushes (s : TpS) (a b : ByteArray) : (s.pushes a).pushes b = s.pushes (a ++ b) := by
  obtain ⟨h, p, g, o⟩ := s
  cases o <;> simp [TpS.pushes, ByteArray.append_assoc]
theorem TpS.pushes_nil (s : TpS) : s.pushes .empty = s := by
  obtain ⟨h, p, g, o⟩ := s
  cases o <;> simp [TpS.pushes]
/-- A byte of a text behind its beginning. -/
theorem byteS_next (b : ByteArray) (i : Nat) (h : i < b.size) : b.extract 0 i ++ byteS (b[i].toNat : Int) = b.extract 0 (i + 1) := by
  apply ByteArray.ext
  apply Array.ext'
  have h2 : i < b.data.toList.length := by simpa using h
  simp only [byteS, ByteArray.data_append, ByteArray.data_extract, Array.toList_append, Array.toList_extract, List.extract_eq_take_drop, List.drop_zero, Nat.sub_zero, Int.toNat_natCast]
  rw [List.take_succ_eq_append_getElem h2]
  congr 1
  simp
  rfl
end Go.Proofs.Ytfkfkoebplpooaa
