/- What the laws of layer 4 need of package window's calls, whatever a window's memory is: WA says that block k holds a window over the source at g, in state s, that writes the blocks F alone. -/
import Derived.Test.YtlaeoacaihooiaaSrcTwo
import Derived.Test.YtlaeoacaihooiaaWinState
namespace Go.Proofs.Ytlaeoacaihooiaa
open Go.RowKit Go.PlainAid
set_option linter.unusedVariables false
/-- What was there is as it was, but for the blocks F. -/
structure Chg (F : Nat → Prop) (w w' : World) : Prop where
  os : w'.os = w.os
  tape : w'.tape = w.tape
  output : w'.output = w.output
  size : w.heap.size ≤ w'.heap.size
  block : ∀ i, i < w.heap.size → ¬ F i → w'.heap[i]? = w.heap[i]?
theorem Chg.to_below {F : Nat → Prop} {a w w' : World} (h : Below a.heap.size a w) (hc : Chg F w w') (hF : ∀ i, F i → a.heap.size ≤ i) : Below a.heap.size a w' :=
  ⟨hc.os.trans h.os, hc.tape.trans h.tape, hc.output.trans h.output, Nat.le_trans h.size hc.size, fun i hi => (hc.block i (Nat.lt_of_lt_of_le hi h.size) (fun f => by have := hF i f; omega)).trans (h.block i hi)⟩
theorem Row.chg {F : Nat → Prop} {w w' : World} {g : Nat} {t : TypeId} {l : List Value} (h : Row w g t l) (hc : Chg F w w') (hg : ¬ F g) : Row w' g t l := (hc.block g h.lt hg).trans h
abbrev WinPred := World → Nat → Nat → (Nat → Prop) → ByteArray → List (Int × Int) → Int → Nat → WS → Prop
structure WinSpec (WA : WinPred) : Prop where
  ok : ∀ {w k g F D S m z s}, WA w k g F D S m z s → s.ok D S m z ∧ 1 ≤ m ∧ m ≤ 65536 ∧ z ≤ 1000
  src : ∀ {w k g F D S m z s}, WA w k g F D S m z s → SrcAt w g D S s.g s.c s.o
  lt : ∀ {w k g F D S m z s}, WA w k g F D S m z s → ∀ i, F i → i < w.heap.size
  below : ∀ {w w' k g F D S m z s}, WA w k g F D S m z s → Below w.heap.size w w' → WA w' k g F D S m z s
  aside : ∀ {w w' k g F D S m z s k' g' F' D' S' m' z' s'}, WA w k g F D S m z s → WA w k' g' F' D' S' m' z' s' → (∀ i, F i → ¬ F' i) → Chg F' w w' → WA w' k g F D S m z s
  keep : ∀ {w w' k g F D S m z s b t L}, WA w k g F D S m z s → w.grownBy w' (some b) → Row w b t L → t ≠ 39 → ¬ F b → WA w' k g F D S m z s
  new : ∀ (size zeros : Int) (g : Nat) (D : ByteArray) (S : List (Int × Int)) (w : World), SrcAt w g D S 0 0 0 → InI size → InI zeros →
    Calls Try.prog 12 #[.int .i64 size, .int .i64 zeros, .pointer (some ⟨g, 0, none⟩)] w fun e w' => ∃ k F, e = .returned (.pointer (some ⟨k, 0, none⟩)) ∧ (∀ i, F i → i = g ∨ w.heap.size ≤ i) ∧ WA w' k g F D S (clampI size 1 65536) (clampI zeros 0 1000).toNat WS.start ∧ Below w.heap.size w w'
  next : ∀ {w k g F D S m z s}, WA w k g F D S m z s → D.size ≤ 100000 → S.length ≤ 100000 → (∀ x ∈ S, InI x.1 ∧ InI x.2) →
    Calls Try.prog 15 #[.pointer (some ⟨k, 0, none⟩)] w fun e w' => e = .returned (.tuple #[.int .u8 ((s.peek D S m z).byte D), .int .i64 (s.peek D S m z).code]) ∧ WA w' k g F D S m z (s.peek D S m z).take ∧ Chg F w w'
  peek : ∀ {w k g F D S m z s}, WA w k g F D S m z s → D.size ≤ 100000 → S.length ≤ 100000 → (∀ x ∈ S, InI x.1 ∧ InI x.2) →
    Calls Try.prog 18 #[.pointer (some ⟨k, 0, none⟩)] w fun e w' => e = .returned (.tuple #[.int .u8 ((s.peek D S m z).byte D), .int .i64 (s.peek D S m z).code]) ∧ WA w' k g F D S m z (s.peek D S m z) ∧ Chg F w w'
  at_ : ∀ {w k g F D S m z s}, WA w k g F D S m z s → Calls Try.prog 16 #[.pointer (some ⟨k, 0, none⟩)] w fun e w' => e = .returned (.int .i64 (s.at_ : Int)) ∧ w = w'
  held : ∀ {w k g F D S m z s}, WA w k g F D S m z s → Calls Try.prog 17 #[.pointer (some ⟨k, 0, none⟩)] w fun e w' => e = .returned (.int .i64 ((s.g - s.at_ : Nat) : Int)) ∧ w = w'
section
variable {WA : WinPred} {D : ByteArray} {S : List (Int × Int)}
/-- Next, seen from the call's own start. -/
theorem WinSpec.next_on (hs : WinSpec WA) {a w : World} {k g : Nat} {F : Nat → Prop} {m : Int} {z : Nat} {s : WS} (h : WA w k g F D S m z s) (hD : D.size ≤ 100000) (hS : S.length ≤ 100000) (hE : ∀ x ∈ S, InI x.1 ∧ InI x.2) (hB : Below a.heap.size a w) (hF : ∀ i, F i → a.heap.size ≤ i) :
    Calls Try.prog 15 #[.pointer (some ⟨k, 0, none⟩)] w fun e w' => e = .returned (.tuple #[.int .u8 ((s.peek D S m z).byte D), .int .i64 (s.peek D S m z).code]) ∧ WA w' k g F D S m z (s.peek D S m z).take ∧ Below a.heap.size a w' ∧ Chg F w w' := by
  refine (hs.next h hD hS hE).mono ?_
  rintro e w' ⟨h1, h2, h3⟩
  exact ⟨h1, h2, h3.to_below hB hF, h3⟩
theorem WinSpec.peek_on (hs : WinSpec WA) {a w : World} {k g : Nat} {F : Nat → Prop} {m : Int} {z : Nat} {s : WS} (h : WA w k g F D S m z s) (hD : D.size ≤ 100000) (hS : S.length ≤ 100000) (hE : ∀ x ∈ S, InI x.1 ∧ InI x.2) (hB : Below a.heap.size a w) (hF : ∀ i, F i → a.heap.size ≤ i) :
    Calls Try.prog 18 #[.pointer (some ⟨k, 0, none⟩)] w fun e w' => e = .returned (.tuple #[.int .u8 ((s.peek D S m z).byte D), .int .i64 (s.peek D S m z).code]) ∧ WA w' k g F D S m z (s.peek D S m z) ∧ Below a.heap.size a w' ∧ Chg F w w' := by
  refine (hs.peek h hD hS hE).mono ?_
  rintro e w' ⟨h1, h2, h3⟩
  exact ⟨h1, h2, h3.to_below hB hF, h3⟩
theorem WinSpec.next_is (hs : WinSpec WA) {a w : World} {k g : Nat} {F : Nat → Prop} {m : Int} {z : Nat} {s p s' : WS} {b c : Int} (h : WA w k g F D S m z s) (hp : s.peek D S m z = p) (hb : p.byte D = b) (hc : p.code = c) (ht : p.take = s') (hD : D.size ≤ 100000) (hS : S.length ≤ 100000) (hE : ∀ x ∈ S, InI x.1 ∧ InI x.2) (hB : Below a.heap.size a w) (hF : ∀ i, F i → a.heap.size ≤ i) :
    Calls Try.prog 15 #[.pointer (some ⟨k, 0, none⟩)] w fun e w' => e = .returned (.tuple #[.int .u8 b, .int .i64 c]) ∧ WA w' k g F D S m z s' ∧ Below a.heap.size a w' ∧ Chg F w w' := by
  subst hp hb hc ht
  exact hs.next_on h hD hS hE hB hF
theorem WinSpec.peek_is (hs : WinSpec WA) {a w : World} {k g : Nat} {F : Nat → Prop} {m : Int} {z : Nat} {s p : WS} {b c : Int} (h : WA w k g F D S m z s) (hp : s.peek D S m z = p) (hb : p.byte D = b) (hc : p.code = c) (hD : D.size ≤ 100000) (hS : S.length ≤ 100000) (hE : ∀ x ∈ S, InI x.1 ∧ InI x.2) (hB : Below a.heap.size a w) (hF : ∀ i, F i → a.heap.size ≤ i) :
    Calls Try.prog 18 #[.pointer (some ⟨k, 0, none⟩)] w fun e w' => e = .returned (.tuple #[.int .u8 b, .int .i64 c]) ∧ WA w' k g F D S m z p ∧ Below a.heap.size a w' ∧ Chg F w w' := by
  subst hp hb hc
  exact hs.peek_on h hD hS hE hB hF
theorem WS.take_at {s : WS} (h : s.at_ < s.g) : s.take.at_ = s.at_ + 1 := by unfold WS.take; rw [if_pos h]
theorem WS.take_same {s : WS} (h : s.at_ = s.g) : s.take = s := by unfold WS.take; rw [if_neg (by omega)]
theorem WS.byte_on {s : WS} (h : s.at_ < s.g) : s.byte D = bt D s.at_ := by unfold WS.byte; rw [if_pos h]
theorem WS.code_on {s : WS} (h : s.at_ < s.g) : s.code = 0 := by unfold WS.code; rw [if_pos h]
theorem WS.byte_off {s : WS} (h : s.at_ = s.g) : s.byte D = 0 := by unfold WS.byte; rw [if_neg (by omega)]
theorem WS.code_off {s : WS} (h : s.at_ = s.g) : s.code = s.e := by unfold WS.code; rw [if_neg (by omega)]
/-- Over, and all that is held is taken. -/
def WS.over (s : WS) : Prop := s.e ≠ 0 ∧ s.at_ = s.g
theorem WS.over_peek {m : Int} {z : Nat} {s : WS} (h : s.over) : s.peek D S m z = s := WS.peek_over h.1
/-- A Next takes a byte, or the window is over behind it. -/
theorem WS.next_step {m : Int} {z : Nat} (hm : 1 ≤ m) {s : WS} (h : s.ok D S m z) : ((s.peek D S m z).at_ < (s.peek D S m z).g ∧ (s.peek D S m z).take.at_ = s.at_ + 1) ∨ ((s.peek D S m z).take.over ∧ (s.peek D S m z).take = s.peek D S m z ∧ (s.peek D S m z).at_ = (s.peek D S m z).g) := by
  have ha := WS.peek_at (D := D) (S := S) (m := m) (z := z) s
  rcases Nat.lt_or_ge (s.peek D S m z).at_ (s.peek D S m z).g with hl | hg
  · exact .inl ⟨hl, by rw [WS.take_at hl, ha]⟩
  · have he : (s.peek D S m z).at_ = (s.peek D S m z).g := by have := (WS.peek_ok hm h).low; omega
    refine .inr ⟨?_, WS.take_same he, he⟩
    rw [WS.take_same he]
    exact ⟨WS.peek_done hm h he, he⟩
theorem bt_front (D : ByteArray) {n i : Nat} (h : n ≤ D.size) (hi : i < n) : bt (D.extract 0 n) i = bt D i := by
  unfold bt
  rw [dif_pos (by rw [ByteArray.size_extract]; omega), dif_pos (by omega), ByteArray.getElem_extract]
  simp
theorem WS.byte_bd (D : ByteArray) (s : WS) : 0 ≤ s.byte D ∧ s.byte D ≤ 255 := by
  unfold WS.byte
  split
  · have := bt_le D s.at_; have := bt_nonneg D s.at_; omega
  · omega
end
end Go.Proofs.Ytlaeoacaihooiaa
