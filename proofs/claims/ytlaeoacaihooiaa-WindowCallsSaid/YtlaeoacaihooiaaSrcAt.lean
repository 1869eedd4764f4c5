/- A source in memory; what Calls, Given, and the counter's own calls give. -/
import Derived.Test.YtlaeoacaihooiaaSrc
import Derived.Test.YtlaeoacaihooiaaCame
import Derived.Test.YtlaeoacaihooiaaMem
import Derived.Test.YtlaeoacaihooiaaOrders
import Derived.Test.YtlaeoacaihooiaaChecked
import Derived.Test.YtlaeoacaihooiaaShelf
import Derived.Laws.LoneSync
import Derived.Deep.LoopGhost
import Derived.Deep.MidRow
import Derived.IntWalk
import Derived.Handy
namespace Go.Proofs.Ytlaeoacaihooiaa
open Go.RowKit Go.PlainAid
set_option linter.unusedVariables false
theorem ret_int {k : IntKind} {a b : Int} (h : a = b) : Ending.returned (.int k a) = .returned (.int k b) := by rw [h]
theorem ret_bool {a b : Bool} (h : a = b) : Ending.returned (.bool a) = .returned (.bool b) := by rw [h]
theorem ret_two {a b c d : Value} (h : a = c) (h' : b = d) : Ending.returned (.tuple #[a, b]) = .returned (.tuple #[c, d]) := by rw [h, h']
theorem ret_string {a b : ByteArray} (h : a = b) : Ending.returned (.string a) = .returned (.string b) := by rw [h]
/-- A slice of n steps that are l, which lies below block g. -/
def StepsAt (w : World) (g : Nat) (oa : Option Addr) (n cap : Nat) (l : List (Int × Int)) : Prop :=
  l.length = n ∧ n ≤ cap ∧ cap ≤ maxLen ∧ (n = 0 ∨ ∃ gs off L, oa = some ⟨gs, off, none⟩ ∧ gs < g ∧ Row w gs 39 L ∧ ∀ j u, (pvs l)[j]? = some u → L[off + j]? = some u)
def srcCells (rest : ByteArray) (oa : Option Addr) (n cap : Nat) (over : Int) (at_ calls : Nat) : List Value := [.string rest, .slice oa n cap, .int .i64 over, .int .i64 (at_ : Int), .int .i64 (calls : Int)]
/-- Block g holds a source of D and S of which so many bytes came, in so many calls. -/
def SrcAt (w : World) (g : Nat) (D : ByteArray) (S : List (Int × Int)) (at_ calls : Nat) (over : Int) : Prop :=
  at_ ≤ D.size ∧ (over = 0 ∨ over = 1 ∨ over = 2) ∧ ∃ oa n cap rest, Row w g 52 (srcCells rest oa n cap over at_ calls) ∧ (over = 0 → rest = D.extract at_ D.size ∧ StepsAt w g oa n cap (S.drop calls))
section
variable {w w' : World} {g : Nat} {D : ByteArray} {S : List (Int × Int)} {at_ calls : Nat} {over : Int}
theorem StepsAt.grown {oa : Option Addr} {n cap : Nat} {l : List (Int × Int)} (h : StepsAt w g oa n cap l) {row : Option Nat} (hb : w.grownBy w' row) (hg : ∀ k, row = some k → g ≤ k) : StepsAt w' g oa n cap l := by
  obtain ⟨h1, h2, h3, h4⟩ := h
  refine ⟨h1, h2, h3, ?_⟩
  rcases h4 with h4 | ⟨gs, off, L, h5, h6, h7, h8⟩
  · exact .inl h4
  · exact .inr ⟨gs, off, L, h5, h6, h7.grown hb (fun e => by have := hg gs e.symm; omega), h8⟩
theorem SrcAt.lt (h : SrcAt w g D S at_ calls over) : g < w.heap.size := by
  obtain ⟨_, _, _, _, _, _, h, _⟩ := h; exact h.lt
theorem StepsAt.below {oa : Option Addr} {n cap : Nat} {l : List (Int × Int)} (h : StepsAt w g oa n cap l) (hb : Below w.heap.size w w') : StepsAt w' g oa n cap l := by
  obtain ⟨h1, h2, h3, h4⟩ := h
  refine ⟨h1, h2, h3, ?_⟩
  rcases h4 with h4 | ⟨gs, off, L, h5, h6, h7, h8⟩
  · exact .inl h4
  · exact .inr ⟨gs, off, L, h5, h6, h7.below hb h7.lt, h8⟩
theorem SrcAt.below (h : SrcAt w g D S at_ calls over) (hb : Below w.heap.size w w') : SrcAt w' g D S at_ calls over := by
  obtain ⟨h1, h2, oa, n, cap, rest, h3, h4⟩ := h
  exact ⟨h1, h2, oa, n, cap, rest, h3.below hb h3.lt, fun e => ⟨(h4 e).1, (h4 e).2.below hb⟩⟩
theorem SrcAt.grown {k : Nat} (h : SrcAt w g D S at_ calls over) (hb : w.grownBy w' (some k)) (hk : g < k) : SrcAt w' g D S at_ calls over := by
  obtain ⟨h1, h2, oa, n, cap, rest, h3, h4⟩ := h
  exact ⟨h1, h2, oa, n, cap, rest, h3.grown hb (by simp; omega), fun e => ⟨(h4 e).1, (h4 e).2.grown hb (by intro k' e'; cases e'; omega)⟩⟩
theorem SrcAt.calls_cell (h : SrcAt w g D S at_ calls over) : w.cell? ⟨g, 4, none⟩ = some (.int .i64 (calls : Int)) ∧ w.frozen? ⟨g, 4, none⟩ = false := by
  obtain ⟨_, _, _, _, _, _, h, _⟩ := h; exact ⟨h.cell 4, h.frozen 4⟩
theorem SrcAt.given_cell (h : SrcAt w g D S at_ calls over) : w.cell? ⟨g, 3, none⟩ = some (.int .i64 (at_ : Int)) := by
  obtain ⟨_, _, _, _, _, _, h, _⟩ := h; exact h.cell 3
end
theorem load_any (g : Nat) (x : Int) (w : World) (hc : w.cell? ⟨g, 4, none⟩ = some (.int .i64 x)) :
    Calls Try.prog 24 #[.pointer (some ⟨g, 4, none⟩)] w fun e w' => e = .returned (.int .i64 x) ∧ w = w' := by
  have hl := run_call_load (P := Try.prog) Try.func28 (by kernel_rfl) (by kernel_rfl) (by kernel_rfl) .i64 (by kernel_rfl) hc
  go_enter Try.func24, Try.ntmps24
  go_wp2
  go_ret
  exact ⟨rfl, rfl⟩
theorem add_any (g : Nat) (x : Int) (w : World) (hc : w.cell? ⟨g, 4, none⟩ = some (.int .i64 x)) (hz : w.frozen? ⟨g, 4, none⟩ = false) (h0 : 0 ≤ x) (h1 : x ≤ 1000000000) :
    Calls Try.prog 31 #[.pointer (some ⟨g, 4, none⟩), .int .i64 1] w fun e w' => e = .returned (.int .i64 (x + 1)) ∧ w' = w.setCell ⟨g, 4, none⟩ (.int .i64 (x + 1)) := by
  have hl := run_call_add (P := Try.prog) Try.func35 (by kernel_rfl) (by kernel_rfl) (by kernel_rfl) .i64 (by kernel_rfl) (y := 1) (s := x + 1) hc hz (by simp [go_sem, IntKind.wrap_i64]; omega)
  go_enter Try.func31, Try.ntmps31
  go_wp2
  go_ret
  exact ⟨rfl, rfl⟩
theorem calls_any (g : Nat) (D : ByteArray) (S : List (Int × Int)) (at_ calls : Nat) (over : Int) (w : World) (h : SrcAt w g D S at_ calls over) :
    Calls Try.prog 13 #[.pointer (some ⟨g, 0, none⟩)] w fun e w' => e = .returned (.int .i64 (calls : Int)) ∧ w = w' := by
  have hl := load_any g calls w h.calls_cell.1
  clear h
  go_enter Try.func13, Try.ntmps13
  go_wp2_with (refine hl.mono ?_; rintro e w' ⟨rfl, rfl⟩)
  go_ret
  exact ⟨rfl, rfl⟩
theorem given_any (g : Nat) (D : ByteArray) (S : List (Int × Int)) (at_ calls : Nat) (over : Int) (w : World) (h : SrcAt w g D S at_ calls over) :
    Calls Try.prog 19 #[.pointer (some ⟨g, 0, none⟩)] w fun e w' => e = .returned (.int .i64 (at_ : Int)) ∧ w = w' := by
  have hl := h.given_cell
  clear h
  go_enter Try.func19, Try.ntmps19
  go_wp2
  go_ret
  exact ⟨rfl, rfl⟩
end Go.Proofs.Ytlaeoacaihooiaa
