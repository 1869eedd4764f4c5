/- The library's stable sort over a row: what is asked of its two functions, in one form; elements that change places. Of rows of any elements of one cell. -/
import Derived.Test.YtnlhpldjficecaaStab
import Derived.Shelf.GgSortMore.Stable
import Derived.Test.YtnlhpldjficecaaChecked
import Derived.Deep.LoopGhost
import Derived.Lib.Hide
namespace Go.Proofs.Ytnlhpldjficecaa
open Go.Shelf Go.RowKit Go.Lib Go.Sort
set_option linter.unusedVariables false
/-- The two functions, the row, the order. -/
structure SF where
  g : Nat
  lb : Array Value
  sf : Nat
  sb : Array Value
  blk : Nat
  off : Nat
def SF.data (s : SF) : Value := .agg #[.func (.func s.g) #[] s.lb, .func (.func s.sf) #[] s.sb]
def SF.box (s : SF) : Obj := .cells #[.func (.func s.g) #[] s.lb, .func (.func s.sf) #[] s.sb] 65
section
variable {α : Type} [Inhabited α]
/-- A world in which the row holds d, and in which the two functions can be called. -/
structure Can (enc : α → Value) (lt : α → α → Bool) (s : SF) (d : Array α) (w : World) : Prop where
  enter : ∀ args w, (callFunc s.g args).run Try.prog w = .ok (.enter s.g args) w
  less : LessReads Try.prog s.g s.lb enc lt s.blk s.off d.size w
  swap : SwapSwaps Try.prog s.sf s.sb enc s.blk s.off d.size
  holds : Holds enc w s.blk s.off d
  blk : s.blk < w.heap.size
  size : d.size ≤ 1000000
variable {enc : α → Value} {lt : α → α → Bool} {s : SF} {d d' : Array α} {w W : World}
/-- It can still in a world that the sort has come to. -/
theorem Can.on (h : Can enc lt s d w) (hW : SW enc w s.blk s.off d' W) (hs : d'.size = d.size) : Can enc lt s d' W :=
  ⟨h.enter, by rw [hs]; exact hW.lessReads h.less h.blk hs, by rw [hs]; exact h.swap, hW.holds h.blk h.holds hs, hW.lt h.blk, by rw [hs]; exact h.size⟩
theorem sw_trans {enc : α → Value} {blk off : Nat} {d1 d2 : Array α} {w0 w1 w2 : World} (h : SW enc w0 blk off d1 w1) (hb : blk < w0.heap.size) (k : SW enc w1 blk off d2 w2) (hs : d2.size = d1.size) : SW enc w0 blk off d2 w2 := by
  obtain ⟨m, os, rfl⟩ := k
  exact h.on hb m d2 os hs
/-- What was laid ahead lies there still. -/
theorem sw_old {enc : α → Value} {blk off : Nat} {d1 : Array α} {w0 w1 : World} (h : SW enc w0 blk off d1 w1) {a : Addr} (ha : a.block < w0.heap.size) (hb : a.block ≠ blk) : w1.cell? a = w0.cell? a := by
  obtain ⟨m, os, rfl⟩ := h
  unfold sortWorld
  rw [cell?_grow _ _ _ (by rw [size_putRow]; exact ha), cell?_putRow_other enc _ blk off _ _ (Or.inl hb)]
  rfl
theorem Can.box (h : Can enc lt s d w) : SW enc w s.blk s.off d (w.alloc s.box) ∧ Can enc lt s d (w.alloc s.box) := by
  have h1 := (SW.start h.holds).alloc s.box
  exact ⟨h1, h.on h1 rfl⟩
/-- The box's two cells, in every world that the sort comes to. -/
theorem Can.cells (h : Can enc lt s d w) {d1 : Array α} {w1 : World} (k : SW enc (w.alloc s.box) s.blk s.off d1 w1) :
    w1.cell? ⟨w.heap.size, 0, none⟩ = some (.func (.func s.g) #[] s.lb) ∧ w1.cell? ⟨w.heap.size, 1, none⟩ = some (.func (.func s.sf) #[] s.sb) := by
  have hb := h.blk
  constructor
  · rw [sw_old k (a := ⟨w.heap.size, 0, none⟩) (by show w.heap.size < (w.alloc s.box).heap.size; simp) (by show w.heap.size ≠ s.blk; omega)]
    unfold SF.box; simp
  · rw [sw_old k (a := ⟨w.heap.size, 1, none⟩) (by show w.heap.size < (w.alloc s.box).heap.size; simp) (by show w.heap.size ≠ s.blk; omega)]
    unfold SF.box; simp
/-- The function that changes two elements' places, called. -/
theorem Can.swaps (h : Can enc lt s d w) {d1 : Array α} {w1 : World} (k : SW enc w s.blk s.off d1 w1) (hs : d1.size = d.size) {i j : Nat} (hi : i < d.size) (hj : j < d.size) :
    ∃ w2, (callFunc s.sf (#[.int .i64 i, .int .i64 j] ++ s.sb)).run Try.prog w1 = .ok (.value (.tuple #[])) w2 ∧ SW enc w s.blk s.off (swp d1 i j) w2 :=
  ⟨_, h.swap w1 d1 (k.holds h.blk h.holds hs) hs i j hi hj, k.swap h.blk i j (by omega) (by omega)⟩
end
section
variable {α : Type} [Inhabited α]
theorem swp_at (d : Array α) {i j : Nat} (hi : i < d.size) (hj : j < d.size) (k : Nat) : (swp d i j)[k]! = if k = j then d[i]! else if k = i then d[j]! else d[k]! := by
  by_cases h1 : k = j
  · subst h1; rw [if_pos rfl]; exact swp_right d i k hj
  · rw [if_neg h1]
    by_cases h2 : k = i
    · subst h2; rw [if_pos rfl]; exact swp_left d k j hi h1
    · rw [if_neg h2]; exact swp_other d i j k h2 h1
end
end Go.Proofs.Ytnlhpldjficecaa
