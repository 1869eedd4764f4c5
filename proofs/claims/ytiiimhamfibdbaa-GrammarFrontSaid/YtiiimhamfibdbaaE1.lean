/- Events in memory: a list of them in a slice of a call's own, and the reference's 'and': one event more. -/
import Derived.Test.YtiiimhamfibdbaaP0
import Derived.Test.YtiiimhamfibdbaaB0
import Derived.Test.YtiiimhamfibdbaaChecked
import Derived.WalkKit
import Derived.WalkSpells
import Derived.Handy
import Derived.Lib.Hide
import Derived.Deep.RegionLaw
import Derived.Deep.QuietTactic
import Derived.BigQuiet
import Derived.Laws.AppendOwnNone
import Derived.Maps.AppendAt
namespace Go.Proofs.Ytiiimhamfibdbaa
open Go.RowKit
set_option linter.unusedVariables false
def evV (e : Ev) : Value := .agg #[.int .i64 e.k, .int .i64 e.at_, .int .i64 e.c, .int .i64 e.t, .bool e.f, .int .i64 e.n, .int .u8 e.b]
def evC (e : Ev) : List Value := [.int .i64 e.k, .int .i64 e.at_, .int .i64 e.c, .int .i64 e.t, .bool e.f, .int .i64 e.n, .int .u8 e.b]
def evCs (l : List Ev) : List Value := l.flatMap evC
theorem evCs_append (l m : List Ev) : evCs (l ++ m) = evCs l ++ evCs m := by simp [evCs]
theorem evCs_length (l : List Ev) : (evCs l).length = l.length * 7 := by
 induction l with
 |nil => rfl
 |cons e r ih => show (evC e ++ evCs r).length = _; rw [List.length_append, ih]; simp [evC]; omega
theorem evCs_one (l : List Ev) : ∀ u ∈ evCs l, u.oneCell' = true := by
 intro u hu
 obtain ⟨e, _, h⟩ := List.mem_flatMap.1 hu
 simp [evC] at h
 rcases h with rfl | rfl | rfl | rfl | rfl | rfl | rfl <;> rfl
theorem infoEv : (Try.prog.info? 34).map (fun i => (i.zero, i.size, i.bytes)) = some (some (.agg #[.int .i64 0, .int .i64 0, .int .i64 0, .int .i64 0, .bool false, .int .i64 0, .int .u8 0]), 7, 56) := by kernel_rfl
def Evs (w : World) (base : Nat) (v : Value) (l : List Ev) : Prop := w.ownsRow base 34 7 v l.length (evCs l)
theorem Evs.below {w w' : World} {base : Nat} {v : Value} {l : List Ev} (h : Evs w base v l) (hb : Below w.heap.size w w') : Evs w' base v l := own_below h hb
theorem Evs.nil (w : World) (base : Nat) : Evs w base (.slice none 0 0) [] := World.ownsRow_nil _ _ _ _
theorem Evs.mono {w : World} {base base' : Nat} {v : Value} {l : List Ev} (h : Evs w base v l) (hb : base' ≤ base) : Evs w base' v l := by
 obtain ⟨hl, h1 | ⟨g, cap, cur, hv, hg, hh⟩⟩ := h
 ·exact ⟨hl, .inl h1⟩
 ·exact ⟨hl, .inr ⟨g, cap, cur, hv, Nat.le_trans hb hg, hh⟩⟩
theorem Evs.shape {w : World} {base : Nat} {v : Value} {l : List Ev} (h : Evs w base v l) : (v = .slice none 0 0 ∧ l = []) ∨ ∃ g c, v = .slice (some ⟨g, 0, none⟩) l.length c ∧ l.length ≤ c ∧ c ≤ maxLen ∧ base ≤ g ∧ g < w.heap.size := by
 rcases own_shape h with ⟨h1, h2⟩ | h1
 ·exact .inl ⟨h1, List.eq_nil_of_length_eq_zero h2⟩
 ·exact .inr h1
theorem Evs.cells {w : World} {base g c : Nat} {l : List Ev} (h : Evs w base (.slice (some ⟨g, 0, none⟩) l.length c) l) : ∀ j u, (evCs l)[j]? = some u → w.cell? ((⟨g, 0, none⟩ : Addr).add j) = some u := World.ownsRow.cells h rfl
theorem ev_facts {w : World} {g : Nat} {k p c t : Int} {f : Bool} {n b : Int} (h : Row w g 34 (evC ⟨k, p, c, t, f, n, b⟩)) :
  w.cell? ⟨g, 0, none⟩ = some (.int .i64 k) ∧ w.cell? ⟨g, 1, none⟩ = some (.int .i64 p) ∧ w.cell? ⟨g, 2, none⟩ = some (.int .i64 c) ∧ w.cell? ⟨g, 3, none⟩ = some (.int .i64 t) ∧ w.cell? ⟨g, 4, none⟩ = some (.bool f) ∧ w.cell? ⟨g, 5, none⟩ = some (.int .i64 n) ∧ w.cell? ⟨g, 6, none⟩ = some (.int .u8 b) :=
 ⟨h.cell 0, h.cell 1, h.cell 2, h.cell 3, h.cell 4, h.cell 5, h.cell 6⟩
abbrev evO (e : Ev) : Obj := .cells #[.int .i64 e.k, .int .i64 e.at_, .int .i64 e.c, .int .i64 e.t, .bool e.f, .int .i64 e.n, .int .u8 e.b] 34
end Go.Proofs.Ytiiimhamfibdbaa
/- Heads as values and in memory, and what the bytes of an identifier are; of any program that holds package api's Head. -/
namespace Go.Proofs.Ytiiimhamfibdbaa
open Go.RowKit Go.PlainAid
set_option linter.unusedVariables false
theorem ident_or7 (t x : Int) (h0 : 0 ≤ t) (h1 : t ≤ 2097151) (h2 : 0 ≤ x) (h3 : x ≤ 255) : bits .or .i64 (t * 128) (x % 128) = t * 128 + x % 128 := ori_7 t (x % 128) h0 (by omega) (by omega) (by omega)
theorem beq_no {x y : Int} (h : ¬ x = y) : (x == y) = false := by simpa using h
theorem beq_yes {x y : Int} (h : x = y) : (x == y) = true := by simpa using h
theorem results_cell_two {P : Program} {fn : Func} {p q r : Tmp} {ty : TypeId} (h : fn.results = #[.cell p ty, .tmp q, .tmp r]) (tmps : Array Value) {ad : Addr} (hp : tmps.getD p undef = .pointer (some ad)) {v u x : Value} {w : World}
  (hq : tmps.getD q undef = u) (hr : tmps.getD r undef = x) (hl : (loadVar ty ad).run P w = .ok v w) : (results fn tmps).run P w = .ok (.tuple #[v, u, x]) w := by
 rw [Array.getD_eq_getD_getElem?] at hp hq hr
 simp only [results, h]
 simp [hp, hq, hr, asAddr, hl]
theorem infoHead : (Try.prog.info? 32).map (·.size) = some 4 := by kernel_rfl
def hdC (cls tag : Int) (cons : Bool) (len : Int) : List Value := [.int .i64 cls, .int .i64 tag, .bool cons, .int .i64 len]
def hdV (cls tag : Int) (cons : Bool) (len : Int) : Value := .agg #[.int .i64 cls, .int .i64 tag, .bool cons, .int .i64 len]
theorem head_load {W : World} {g : Nat} {cls tag len : Int} {cons : Bool} (h : Row W g 32 (hdC cls tag cons len)) : (loadVar 32 ⟨g, 0, none⟩).run Try.prog W = .ok (hdV cls tag cons len) W :=
 run_loadVar_mid _ _ 0 _ (hdC cls tag cons len) _ h.whole Try.underlying32 rfl infoHead
theorem ext_at (b : ByteArray) (i : Nat) (h : i < b.size) : (bl b).drop i = bt b i :: (bl b).drop (i + 1) := bl_drop b i h
theorem idGet_small {x : Int} {r : List Int} (h : ¬ x % 32 = 31) : idGet (x :: r) = (x / 64, x % 32, decide (x / 32 % 2 = 1), 1, 0) := by rw [idGet, if_neg h]
theorem idGet_big {x : Int} {r : List Int} (h : x % 32 = 31) (h0 : (getG true 0 r).2.2 = 0) : idGet (x :: r) = (x / 64, (getG true 0 r).1, decide (x / 32 % 2 = 1), (getG true 0 r).2.1 + 1, 0) := by rw [idGet, if_pos h, if_pos h0]
theorem idGet_err {x : Int} {r : List Int} (h : x % 32 = 31) (h0 : ¬ (getG true 0 r).2.2 = 0) : idGet (x :: r) = (0, 0, false, (getG true 0 r).2.1 + 1, (getG true 0 r).2.2) := by rw [idGet, if_pos h, if_neg h0]
theorem head_facts {W : World} {g : Nat} {cls tag len : Int} {cons : Bool} (h : Row W g 32 (hdC cls tag cons len)) :
  W.cell? ⟨g, 0, none⟩ = some (.int .i64 cls) ∧ W.cell? ⟨g, 1, none⟩ = some (.int .i64 tag) ∧ W.cell? ⟨g, 2, none⟩ = some (.bool cons) ∧ W.cell? ⟨g, 3, none⟩ = some (.int .i64 len) ∧
  W.frozen? ⟨g, 0, none⟩ = false ∧ W.frozen? ⟨g, 1, none⟩ = false ∧ W.frozen? ⟨g, 2, none⟩ = false ∧ W.frozen? ⟨g, 3, none⟩ = false :=
 ⟨h.cell 0, h.cell 1, h.cell 2, h.cell 3, h.frozen 0, h.frozen 1, h.frozen 2, h.frozen 3⟩
theorem bit_of (x : Int) (h0 : 0 ≤ x) (h1 : x ≤ 255) : (x / 32 % 2 * 32 != 0) = decide (x / 32 % 2 = 1) := by
 by_cases h : x / 32 % 2 = 1
 ·rw [h]; rfl
 ·have : x / 32 % 2 = 0 := by omega
  rw [this]; rfl
def idAns (b : ByteArray) (i : Nat) : Value := .tuple #[hdV (idGet ((bl b).drop i)).1 (idGet ((bl b).drop i)).2.1 (idGet ((bl b).drop i)).2.2.1 0, .int .i64 ((i : Int) + (idGet ((bl b).drop i)).2.2.2.1), .int .i64 (idGet ((bl b).drop i)).2.2.2.2]
theorem idAns_eq {b : ByteArray} {i : Nat} {c t : Int} {k : Bool} {n : Nat} {e : Int} (h : idGet ((bl b).drop i) = (c, t, k, n, e)) : idAns b i = .tuple #[hdV c t k 0, .int .i64 ((i : Int) + n), .int .i64 e] := by unfold idAns; rw [h]
end Go.Proofs.Ytiiimhamfibdbaa
/- What the calls of layer 5 answer, in one form for all inputs. They hold of numbers and texts alone. -/
namespace Go.Proofs.Ytiiimhamfibdbaa
open Go.RowKit Go.PlainAid
set_option linter.unusedVariables false
def gAt (b : ByteArray) (at_ : Int) : Int × Int × Bool × Int × Int :=
 if at_ < 0 ∨ (b.size : Int) < at_ then (0, 0, false, 0, 1)
 else ((idGet ((bl b).drop at_.toNat)).1, (idGet ((bl b).drop at_.toNat)).2.1, (idGet ((bl b).drop at_.toNat)).2.2.1, at_ + (idGet ((bl b).drop at_.toNat)).2.2.2.1, (idGet ((bl b).drop at_.toNat)).2.2.2.2)
def gV (g : Int × Int × Bool × Int × Int) : Value := .tuple #[.agg #[.int .i64 g.1, .int .i64 g.2.1, .bool g.2.2.1, .int .i64 0], .int .i64 g.2.2.2.1, .int .i64 g.2.2.2.2]
theorem gV_at (b : ByteArray) (i : Nat) (hi : i ≤ b.size) : idAns b i = gV (gAt b i) := by
 unfold gAt
 rw [if_neg (by omega)]
 rfl
theorem gV_arg (b : ByteArray) (at_ : Int) (h : at_ < 0 ∨ (b.size : Int) < at_) : gV (gAt b at_) = .tuple #[hdV 0 0 false 0, .int .i64 0, .int .i64 1] := by
 unfold gAt
 rw [if_pos h]
 rfl
end Go.Proofs.Ytiiimhamfibdbaa
/- Slices of integers of a call's own: others appended. Of any slice from a block's head on. -/
namespace Go.Proofs.Ytiiimhamfibdbaa
open Go.RowKit
set_option linter.unusedVariables false
def i64s (l : List Int) : List Value := l.map (Value.int .i64)
end Go.Proofs.Ytiiimhamfibdbaa
/- A head in memory, stored as a whole. Of any program that holds package api's Head. -/
namespace Go.Proofs.Ytiiimhamfibdbaa
open Go.RowKit Go.PlainAid
set_option linter.unusedVariables false
theorem head_set {W : World} {g : Nat} {c0 t0 l0 : Int} {b0 : Bool} (h : Row W g 32 (hdC c0 t0 b0 l0)) (c t : Int) (k : Bool) (v : Int) :
  Row ((((W.setCell ⟨g, 0, none⟩ (.int .i64 c)).setCell ⟨g, 1, none⟩ (.int .i64 t)).setCell ⟨g, 2, none⟩ (.bool k)).setCell ⟨g, 3, none⟩ (.int .i64 v)) g 32 (hdC c t k v) :=
 (((h.set 0 (.int .i64 c)).set 1 (.int .i64 t)).set 2 (.bool k)).set 3 (.int .i64 v)
theorem head_below {B : Nat} {a W : World} {g : Nat} (h : Below B a W) (hg : B ≤ g) (c t : Int) (k : Bool) (v : Int) :
  Below B a ((((W.setCell ⟨g, 0, none⟩ (.int .i64 c)).setCell ⟨g, 1, none⟩ (.int .i64 t)).setCell ⟨g, 2, none⟩ (.bool k)).setCell ⟨g, 3, none⟩ (.int .i64 v)) :=
 (((h.setCell hg _).setCell hg _).setCell hg _).setCell hg _
theorem size_set4 (W : World) (g : Nat) (a b c d : Value) : ((((W.setCell ⟨g, 0, none⟩ a).setCell ⟨g, 1, none⟩ b).setCell ⟨g, 2, none⟩ c).setCell ⟨g, 3, none⟩ d).heap.size = W.heap.size := by simp
end Go.Proofs.Ytiiimhamfibdbaa
/- Events behind a list of a call's own: append, the list behind it nil or not. -/
namespace Go.Proofs.Ytiiimhamfibdbaa
open Go.RowKit Go.PlainAid
set_option linter.unusedVariables false
theorem wpList_append_evs {w : World} {ops : Array Oper} {rest : List Oper} {o : Oper} {a : Act} {Q : Exit → Act → World → Prop} (hgd : o.guard = none) (s x : Operand)
  (ho : o.op = .call { callee := .builtin .append, args := #[s, x], argTypes := #[39, 39] })
  (base : Nat) {v1 : Value} {l1 : List Ev} (hv : a.eval s = v1) (hs : Evs w base v1 l1) {base2 : Nat} {v2 : Value} {l2 : List Ev} (hx : a.eval x = v2) (h2 : Evs w base2 v2 l2) (hb : base ≤ w.heap.size) (h63 : l1.length + l2.length ≤ 1000000000)
  (h : ∀ v' w', Evs w' base v' (l1 ++ l2) → w.grownBy w' v1.ownBlock → (v'.ownBlock = v1.ownBlock ∨ v'.ownBlock = some w.heap.size) → wpList Try.prog ops Q rest (a.put o.dst v') w') : wpList Try.prog ops Q (o :: rest) a w := by
 obtain ⟨i0, hi, hz0, hz1, hz2⟩ := info_parts infoEv
 rcases h2.shape with ⟨rfl, rfl⟩ | ⟨g, c, rfl, _⟩
 ·refine wpList_append_own_none hgd s x 39 ho base 34 i0 7 Try.underlying39 hi v1 l1.length (evCs l1) hv hs hx ?_
  exact h v1 w (by rw [List.append_nil]; exact hs) (World.grownBy.refl w _) (.inl rfl)
 ·refine wpList_append_own_at (w := w) hgd s x 39 ho base 34 i0 _ 7 56 Try.underlying39 hi hz0 hz1 hz2 rfl (by decide) v1 l1.length (evCs l1) hv hs ⟨g, 0, none⟩ l2.length c (evCs l2) hx (by rw [evCs_length]) h2.cells (evCs_one _) (by unfold maxLen; omega) (by omega) hb ?_
  intro v' w' q1 q2 _ q4
  refine h v' w' ?_ q2 q4
  unfold Evs
  rw [List.length_append, evCs_append]; exact q1
end Go.Proofs.Ytiiimhamfibdbaa
/- A stack of open elements, in plain words: how many bytes each has left, the innermost first. Under no condition on the program. -/
namespace Go.Proofs.Ytiiimhamfibdbaa
set_option linter.unusedVariables false
structure SS where
 most : Nat
 st : List Int
structure SS.ok (s : SS) : Prop where
 most : s.most ≤ 64
 len : s.st.length ≤ s.most
 bd : ∀ x ∈ s.st, 0 ≤ x ∧ x ≤ 9223372036854775807
def SS.new (depth : Int) : SS := ⟨(max 0 (min depth 64)).toNat, []⟩
def SS.last (s : SS) : Int := match s.st with | [] => -1 | x :: _ => x
def SS.depth (s : SS) : Int := s.st.length
def SS.enterE (s : SS) (n : Int) : Int :=
 if n < 0 then 1
 else if 0 ≤ s.last ∧ s.last < n then 5
 else if s.most ≤ s.st.length then 10
 else 0
def pay : List Int → Int → List Int
 |[], _ => []
 |x :: r, n => (x - n) :: r
def SS.enter (s : SS) (n : Int) : SS :=
 if s.enterE n = 0 then ⟨s.most, n :: pay s.st n⟩ else s
def SS.takeE (s : SS) : Int := if s.last = 0 then 5 else 0
def SS.take (s : SS) : SS := match s.st with | [] => s | x :: r => if x = 0 then s else ⟨s.most, (x - 1) :: r⟩
def SS.leaveB (s : SS) : Bool := decide (s.last = 0)
def SS.leave (s : SS) : SS := if s.last = 0 then ⟨s.most, s.st.tail⟩ else s
theorem SS.new_ok (depth : Int) : (SS.new depth).ok := ⟨by unfold SS.new; simp only []; omega, by unfold SS.new; simp, by unfold SS.new; simp⟩
theorem SS.last_bd {s : SS} (h : s.ok) : -1 ≤ s.last ∧ s.last ≤ 9223372036854775807 := by
 unfold SS.last
 split
 ·decide
 ·rename_i x r hs
  have := h.bd x (by rw [hs]; exact List.mem_cons_self ..)
  omega
theorem SS.enter_ok {s : SS} (h : s.ok) (n : Int) (hn : n ≤ 9223372036854775807) : (s.enter n).ok := by
 unfold SS.enter
 split
 ·rename_i he
  unfold SS.enterE at he
  by_cases c1 : n < 0
  ·rw [if_pos c1] at he; simp at he
  ·rw [if_neg c1] at he
   by_cases c2 : 0 ≤ s.last ∧ s.last < n
   ·rw [if_pos c2] at he; simp at he
   ·rw [if_neg c2] at he
    by_cases c3 : s.most ≤ s.st.length
    ·rw [if_pos c3] at he; simp at he
    ·refine ⟨h.most, ?_, ?_⟩
     ·show (n :: _).length ≤ s.most
      rw [List.length_cons]
      cases hs : s.st with
      |nil => rw [hs] at c3; simp [pay] at c3 ⊢; omega
      |cons x r => rw [hs] at c3; simp [pay] at c3 ⊢; omega
     ·intro y hy
      have hy2 : y = n ∨ y ∈ pay s.st n := by simpa using hy
      rcases hy2 with rfl | hy2
      ·omega
      ·cases hs : s.st with
       |nil => rw [hs] at hy2; simp [pay] at hy2
       |cons x r =>
        rw [hs] at hy2
        have hx := h.bd x (by rw [hs]; exact List.mem_cons_self ..)
        have hl : s.last = x := by unfold SS.last; rw [hs]
        rcases List.mem_cons.1 hy2 with rfl | hy3
        ·rw [hl] at c2; omega
        ·exact h.bd y (by rw [hs]; exact List.mem_cons_of_mem _ hy3)
 ·exact h
theorem SS.take_ok {s : SS} (h : s.ok) : s.take.ok := by
 unfold SS.take
 split
 ·exact h
 ·rename_i x r hs
  have hx := h.bd x (by rw [hs]; exact List.mem_cons_self ..)
  split
  ·exact h
  ·refine ⟨h.most, ?_, ?_⟩
   ·have := h.len; rw [hs] at this; exact this
   ·intro y hy
    rcases List.mem_cons.1 hy with rfl | hy2
    ·omega
    ·exact h.bd y (by rw [hs]; exact List.mem_cons_of_mem _ hy2)
theorem SS.leave_ok {s : SS} (h : s.ok) : s.leave.ok := by
 unfold SS.leave
 split
 ·refine ⟨h.most, ?_, fun y hy => h.bd y (List.mem_of_mem_tail hy)⟩
  have := h.len
  show s.st.tail.length ≤ s.most
  rw [List.length_tail]; omega
 ·exact h
end Go.Proofs.Ytiiimhamfibdbaa
/- What the laws of layer 8 (and later ones) need of a stack's calls, whatever its memory is: SA says that block k holds a stack s, that writes the blocks F alone. -/
namespace Go.Proofs.Ytiiimhamfibdbaa
open Go.RowKit
set_option linter.unusedVariables false
abbrev StPred := World → Nat → (Nat → Prop) → SS → Prop
structure StSpec (SA : StPred) : Prop where
 ok : ∀ {w k F s}, SA w k F s → s.ok
 lt : ∀ {w k F s}, SA w k F s → ∀ i, F i → i < w.heap.size
 aside : ∀ {w w' k F F' s}, SA w k F s → Chg F' w w' → (∀ i, F i → ¬ F' i) → SA w' k F s
 new : ∀ (depth : Int) (w : World), InI depth →
  Calls Try.prog 14 #[.int .i64 depth] w fun e w' => ∃ k F, e = .returned (.pointer (some ⟨k, 0, none⟩)) ∧ (∀ i, F i → w.heap.size ≤ i) ∧ SA w' k F (SS.new depth) ∧ Below w.heap.size w w'
 enter : ∀ {w k F s} (n : Int), SA w k F s → InI n →
  Calls Try.prog 44 #[.pointer (some ⟨k, 0, none⟩), .int .i64 n] w fun e w' => e = .returned (.int .i64 (s.enterE n)) ∧ SA w' k F (s.enter n) ∧ Chg F w w'
 take : ∀ {w k F s}, SA w k F s →
  Calls Try.prog 21 #[.pointer (some ⟨k, 0, none⟩)] w fun e w' => e = .returned (.int .i64 s.takeE) ∧ SA w' k F s.take ∧ Chg F w w'
 leave : ∀ {w k F s}, SA w k F s →
  Calls Try.prog 32 #[.pointer (some ⟨k, 0, none⟩)] w fun e w' => e = .returned (.bool s.leaveB) ∧ SA w' k F s.leave ∧ Chg F w w'
 depth : ∀ {w k F s}, SA w k F s →
  Calls Try.prog 34 #[.pointer (some ⟨k, 0, none⟩)] w fun e w' => e = .returned (.int .i64 s.depth) ∧ ∃ n, w' = w.drewN n
 left : ∀ {w k F s}, SA w k F s →
  Calls Try.prog 41 #[.pointer (some ⟨k, 0, none⟩)] w fun e w' => e = .returned (.int .i64 s.last) ∧ ∃ n, w' = w.drewN n
theorem draws_below (w : World) (n : Nat) : Below w.heap.size w (w.drewN n) := ⟨rfl, rfl, rfl, Nat.le_refl _, fun _ _ => rfl⟩
section
variable {SA : StPred} {a w : World} {k : Nat} {F : Nat → Prop} {s : SS}
theorem StSpec.below (H : StSpec SA) {w' : World} (h : SA w k F s) (hb : Below w.heap.size w w') : SA w' k F s :=
 H.aside (F' := fun _ => False) h ⟨hb.os, hb.tape, hb.output, hb.size, fun i hi _ => hb.block i hi⟩ (fun _ _ h => h)
end
end Go.Proofs.Ytiiimhamfibdbaa
/- What the landed code's calls of a stack give, and what a stack's memory is: block k alone. -/
namespace Go.Proofs.Ytiiimhamfibdbaa
open Go.RowKit Go.PlainAid
set_option linter.unusedVariables false
def skC (L : List Int) (o m : Int) : List Value := i64s L ++ [.int .i64 o, .int .i64 m]
section
variable {L : List Int} {o m : Int}
theorem skC_open (h : L.length = 64) : (skC L o m)[64]? = some (.int .i64 o) := by
 unfold skC; rw [List.getElem?_append_right (by simp [i64s, h])]; simp [i64s, h]
theorem skC_most (h : L.length = 64) : (skC L o m)[65]? = some (.int .i64 m) := by
 unfold skC; rw [List.getElem?_append_right (by simp [i64s, h])]; simp [i64s, h]
theorem skC_get {j : Nat} {x : Int} (h : L[j]? = some x) : (skC L o m)[j]? = some (.int .i64 x) := by
 have hj := (List.getElem?_eq_some_iff.1 h).1
 unfold skC; rw [List.getElem?_append_left (by simpa [i64s] using hj)]; simp [i64s, h]
theorem skC_set {j : Nat} (x : Int) (h : j < L.length) : (skC L o m).set j (.int .i64 x) = skC (L.set j x) o m := by
 unfold skC; rw [List.set_append_left _ _ (by simpa [i64s] using h)]; simp [i64s]
theorem skC_setO (y : Int) (h : L.length = 64) : (skC L o m).set 64 (.int .i64 y) = skC L y m := by
 unfold skC; rw [List.set_append_right _ _ (by simp [i64s, h])]; simp [i64s, h]
end
def StAt : StPred := fun w k F s => (∀ i, F i ↔ i = k) ∧ s.ok ∧ ∃ J : List Int, (s.st.reverse ++ J).length = 64 ∧ Row w k 64 (skC (s.st.reverse ++ J) s.st.length s.most)
theorem chg_draws (F : Nat → Prop) (w : World) (n : Nat) : Chg F w (w.drewN n) := Chg.of_below (draws_below w n)
theorem has_none (k : Nat) (L : List Int) (m n : Int) (w : World) (hL : L.length = 64) (h : Row w k 64 (skC L 0 m)) :
  Calls Try.prog 30 #[.pointer (some ⟨k, 0, none⟩), .int .i64 n] w fun e w' => e = .returned (.bool true) ∧ ∃ n, w' = w.drewN n := by
 have q1 : w.cell? ⟨k, 64, none⟩ = some (.int .i64 0) := by rw [h.cell, skC_open hL]
 clear h
 go_enter Try.func30, Try.ntmps30
 go_wp2
 go_quiet (fail)
 go_wp2
 go_ret
 exact ⟨rfl, _, rfl⟩
theorem has_some (k : Nat) (L : List Int) (p : Nat) (x m n : Int) (w : World) (hL : L.length = 64) (hp : L[p]? = some x) (h : Row w k 64 (skC L ((p : Int) + 1) m)) :
  Calls Try.prog 30 #[.pointer (some ⟨k, 0, none⟩), .int .i64 n] w fun e w' => e = .returned (.bool (decide (n ≤ x))) ∧ ∃ n, w' = w.drewN n := by
 have hp64 : p < 64 := by have := (List.getElem?_eq_some_iff.1 hp).1; omega
 have q1 : w.cell? ⟨k, 64, none⟩ = some (.int .i64 ((p : Int) + 1)) := by rw [h.cell, skC_open hL]
 have q2 : w.cell? ⟨k, p, none⟩ = some (.int .i64 x) := by rw [h.cell, skC_get hp]
 have hd : ((p : Int) + 1 == 0) = false := by simp; omega
 clear h hp
 go_enter Try.func30, Try.ntmps30
 go_wp2
 go_quiet (fail)
 go_wp2
 go_ret
 exact ⟨rfl, _, rfl⟩
def hasB (st : List Int) (n : Int) : Bool := match st with | [] => true | x :: _ => decide (n ≤ x)
theorem rev_get (x : Int) (r J : List Int) : ((x :: r).reverse ++ J)[r.length]? = some x := by
 rw [List.reverse_cons, List.append_assoc, List.getElem?_append_right (by simp)]; simp
theorem rev_set (x y : Int) (r J : List Int) : ((x :: r).reverse ++ J).set r.length y = (y :: r).reverse ++ J := by
 rw [List.reverse_cons, List.append_assoc, List.set_append_right _ _ (by simp)]; simp
theorem has_any (k : Nat) (st J : List Int) (m n : Int) (w : World) (hL : (st.reverse ++ J).length = 64) (h : Row w k 64 (skC (st.reverse ++ J) st.length m)) :
  Calls Try.prog 30 #[.pointer (some ⟨k, 0, none⟩), .int .i64 n] w fun e w' => e = .returned (.bool (hasB st n)) ∧ ∃ n, w' = w.drewN n := by
 cases st with
 |nil => exact has_none k _ m n w hL h
 |cons x r => exact has_some k _ r.length x m n w hL (rev_get x r J) (by simpa using h)
theorem left_any (k : Nat) (st J : List Int) (m : Int) (w : World) (hL : (st.reverse ++ J).length = 64) (h : Row w k 64 (skC (st.reverse ++ J) st.length m)) :
  Calls Try.prog 41 #[.pointer (some ⟨k, 0, none⟩)] w fun e w' => e = .returned (.int .i64 (SS.last ⟨0, st⟩)) ∧ ∃ n, w' = w.drewN n := by
 cases st with
 |nil =>
  have q1 : w.cell? ⟨k, 64, none⟩ = some (.int .i64 0) := by rw [h.cell, skC_open hL]; rfl
  clear h
  go_enter Try.func41, Try.ntmps41
  go_wp2
  go_ret
  exact ⟨rfl, 0, rfl⟩
 |cons x r =>
  have hp := rev_get x r J
  have hp64 : r.length < 64 := by have := (List.getElem?_eq_some_iff.1 hp).1; omega
  have q1 : w.cell? ⟨k, 64, none⟩ = some (.int .i64 ((r.length : Int) + 1)) := by rw [h.cell, skC_open hL]; simp
  have q2 : w.cell? ⟨k, r.length, none⟩ = some (.int .i64 x) := by rw [h.cell, skC_get hp]
  clear h hp hL
  generalize r.length = p at *
  have hd : ((p : Int) + 1 == 0) = false := by simp; omega
  go_enter Try.func41, Try.ntmps41
  go_wp2
  go_quiet (fail)
  go_wp2
  go_ret
  exact ⟨rfl, _, rfl⟩
theorem depth_any (k : Nat) (st J : List Int) (m : Int) (w : World) (hL : (st.reverse ++ J).length = 64) (h : Row w k 64 (skC (st.reverse ++ J) st.length m)) :
  Calls Try.prog 34 #[.pointer (some ⟨k, 0, none⟩)] w fun e w' => e = .returned (.int .i64 (st.length : Int)) ∧ ∃ n, w' = w.drewN n := by
 have q1 : w.cell? ⟨k, 64, none⟩ = some (.int .i64 (st.length : Int)) := by rw [h.cell, skC_open hL]
 clear h hL
 generalize st.length = p at *
 go_enter Try.func34, Try.ntmps34
 go_wp2
 go_ret
 exact ⟨rfl, 0, rfl⟩
set_option maxHeartbeats 1600000 in
set_option maxRecDepth 100000 in
theorem spend_any (k : Nat) (st J : List Int) (m n : Int) (w : World) (hL : (st.reverse ++ J).length = 64) (h : Row w k 64 (skC (st.reverse ++ J) st.length m)) (hn : 0 ≤ n) (hb : ∀ x ∈ st, n ≤ x → 0 ≤ x ∧ x ≤ 9223372036854775807) (hh : hasB st n = true) :
  Calls Try.prog 31 #[.pointer (some ⟨k, 0, none⟩), .int .i64 n] w fun e w' => e = .returned (.tuple #[]) ∧ Row w' k 64 (skC ((pay st n).reverse ++ J) st.length m) ∧ Chg (fun i => i = k) w w' := by
 cases st with
 |nil =>
  have q1 : w.cell? ⟨k, 64, none⟩ = some (.int .i64 0) := by rw [h.cell, skC_open hL]; rfl
  have HR := Lib.hid h
  clear h
  go_enter Try.func31, Try.ntmps31
  go_wp2
  go_end0
  exact ⟨rfl, HR.out, chg_draws _ w 0⟩
 |cons x r =>
  have hp := rev_get x r J
  have hset := skC_set (o := ((r.length : Int) + 1)) (m := m) (x - n) (List.getElem?_eq_some_iff.1 hp).1
  rw [rev_set] at hset
  have hp64 : r.length < 64 := by have := (List.getElem?_eq_some_iff.1 hp).1; omega
  have q1 : w.cell? ⟨k, 64, none⟩ = some (.int .i64 ((r.length : Int) + 1)) := by rw [h.cell, skC_open hL]; simp
  have q2 : w.cell? ⟨k, r.length, none⟩ = some (.int .i64 x) := by rw [h.cell, skC_get hp]
  have f2 := h.frozen r.length
  have hnx : n ≤ x := by simpa [hasB] using hh
  have hx := hb x (List.mem_cons_self ..) hnx
  have HR : Hid (Row (w.drew.setCell ⟨k, r.length, none⟩ (.int .i64 (x - n))) k 64 (skC ((pay (x :: r) n).reverse ++ J) ((x :: r).length) m)) := Lib.hid (by
   have h2 : Row w.drew k 64 (skC ((x :: r).reverse ++ J) ((r.length : Int) + 1) m) := h.below (Below.refl _ _).drew h.lt
   have := h2.set r.length (.int .i64 (x - n))
   rw [hset] at this
   simpa [pay] using this)
  have HC : Hid (Chg (fun i => i = k) w (w.drew.setCell ⟨k, r.length, none⟩ (.int .i64 (x - n)))) := Lib.hid
   ⟨rfl, rfl, rfl, by simp, fun i hi hf => Below.heap_setCell w.drew _ _ i hf⟩
  have hlt := h.lt
  clear h hp hL hset hb hh
  generalize r.length = p at *
  go_enter Try.func31, Try.ntmps31
  go_wp2
  go_region
  go_wp2
  go_end0
  exact ⟨rfl, HR.out, HC.out⟩
theorem has_at {w : World} {k : Nat} {F : Nat → Prop} {s : SS} (h : StAt w k F s) (n : Int) : (0 ≤ s.last ∧ s.last < n) ↔ hasB s.st n = false := by
 obtain ⟨_, hok, _⟩ := h
 unfold SS.last hasB
 cases hs : s.st with
 |nil => simp
 |cons x r =>
  have := hok.bd x (by rw [hs]; exact List.mem_cons_self ..)
  simp; omega
theorem StAt.aside {w w' : World} {k : Nat} {F F' : Nat → Prop} {s : SS} (h : StAt w k F s) (hc : Chg F' w w') (hF : ∀ i, F i → ¬ F' i) : StAt w' k F s := by
 obtain ⟨h1, h2, J, h3, h4⟩ := h
 exact ⟨h1, h2, J, h3, h4.chg hc (hF k ((h1 k).2 rfl))⟩
theorem StAt.draws {w : World} {k : Nat} {F : Nat → Prop} {s : SS} (h : StAt w k F s) (n : Nat) : StAt (w.drewN n) k F s := h.aside (F' := fun _ => False) (chg_draws _ w n) (fun _ _ h => h)
theorem chg_eq {F : Nat → Prop} {w w' : World} {k : Nat} (h : Chg (fun i => i = k) w w') (hF : ∀ i, F i ↔ i = k) : Chg F w w' :=
 ⟨h.os, h.tape, h.output, h.size, fun i hi hf => h.block i hi (fun e => hf ((hF i).2 e))⟩
set_option maxHeartbeats 1600000 in
set_option maxRecDepth 100000 in
theorem take_code {w : World} {k : Nat} {F : Nat → Prop} {s : SS} (h : StAt w k F s) :
  Calls Try.prog 21 #[.pointer (some ⟨k, 0, none⟩)] w fun e w' => e = .returned (.int .i64 s.takeE) ∧ StAt w' k F s.take ∧ Chg F w w' := by
 have HA := Lib.hid h
 obtain ⟨hF, hok, J, hL, hr⟩ := h
 have HH := Lib.hid (has_any k s.st J s.most 1 w hL hr)
 cases hb : hasB s.st 1 with
 |false =>
  have hl : s.last = 0 := by have := (has_at HA.out 1).2 hb; omega
  have HT : Hid (s.takeE = 5) := Lib.hid (by unfold SS.takeE; rw [if_pos hl])
  have HN : Hid (s.take = s) := Lib.hid (by
   unfold SS.take
   split
   ·rfl
   ·rename_i x r hs
    have : s.last = x := by unfold SS.last; rw [hs]
    rw [if_pos (by omega)])
  rw [hb] at HH
  clear hb hr hL hok hl
  go_enter Try.func21, Try.ntmps21
  go_wp2_with fail
  refine HH.out.mono ?_
  rintro e w1 ⟨rfl, a, rfl⟩
  go_wp2
  go_ret
  rw [HT.out, HN.out]
  exact ⟨rfl, HA.out.draws a, chg_draws _ w a⟩
 |true =>
  have hl : ¬ s.last = 0 := fun e => by have := (has_at HA.out 1).1 (by omega); rw [hb] at this; cases this
  have HT : Hid (s.takeE = 0) := Lib.hid (by unfold SS.takeE; rw [if_neg hl])
  have HN : Hid (s.take = ⟨s.most, pay s.st 1⟩) := Lib.hid (by
   unfold SS.take
   split
   ·rename_i hs; rw [hs]; cases s; simp at hs; subst hs; rfl
   ·rename_i x r hs
    have : s.last = x := by unfold SS.last; rw [hs]
    rw [if_neg (by omega), hs]; rfl)
  have HS := Lib.hid (fun (a : Nat) => spend_any k s.st J s.most 1 (w.drewN a) hL (hr.below (draws_below w a) hr.lt) (by decide) (fun x hx _ => hok.bd x hx) hb)
  have HOK := Lib.hid (SS.take_ok hok)
  have hpl : (pay s.st 1).length = s.st.length := by cases s.st <;> rfl
  have HL := Lib.hid hL
  rw [hb] at HH
  clear hb hr hL hok hl
  go_enter Try.func21, Try.ntmps21
  go_wp2_with fail
  refine HH.out.mono ?_
  rintro e w1 ⟨rfl, a, rfl⟩
  go_wp2_with fail
  refine (HS.out a).mono ?_
  rintro e w2 ⟨rfl, hr2, hc2⟩
  go_wp2
  go_ret
  rw [HT.out]
  refine ⟨rfl, ⟨hF, HOK.out, J, ?_, ?_⟩, chg_eq (Chg.trans (chg_draws _ w a) hc2 (fun i hi => .inl hi)) hF⟩
  ·rw [HN.out]; simp only [List.length_append, List.length_reverse, hpl]; simpa using HL.out
  ·rw [HN.out]; simp only [hpl]; exact hr2
theorem Chg.setAt {F : Nat → Prop} {a w : World} (h : Chg F a w) {g : Nat} (hg : F g) (o : Nat) (v : Value) : Chg F a (w.setCell ⟨g, o, none⟩ v) :=
 ⟨h.os, h.tape, h.output, by simpa using h.size, fun i hi hf => (Below.heap_setCell w _ v i (fun e => hf (by rw [e]; exact hg))).trans (h.block i hi hf)⟩
set_option maxHeartbeats 1600000 in
set_option maxRecDepth 100000 in
theorem leave_code {w : World} {k : Nat} {F : Nat → Prop} {s : SS} (h : StAt w k F s) :
  Calls Try.prog 32 #[.pointer (some ⟨k, 0, none⟩)] w fun e w' => e = .returned (.bool s.leaveB) ∧ StAt w' k F s.leave ∧ Chg F w w' := by
 have HA := Lib.hid h
 obtain ⟨hF, hok, J, hL, hr⟩ := h
 have HH := Lib.hid (left_any k s.st J s.most w hL hr)
 have hbd := SS.last_bd hok
 have hlast : s.last = SS.last ⟨0, s.st⟩ := rfl
 by_cases hl : s.last = 0
 ·have HT : Hid (s.leaveB = true) := Lib.hid (by unfold SS.leaveB; simpa using hl)
  have HN : Hid (s.leave = ⟨s.most, s.st.tail⟩) := Lib.hid (by unfold SS.leave; rw [if_pos hl])
  have HOK := Lib.hid (SS.leave_ok hok)
  obtain ⟨r, hs⟩ : ∃ r, s.st = 0 :: r := by
   unfold SS.last at hl
   split at hl
   ·cases hl
   ·rename_i x r hs; exact ⟨r, by rw [hs, hl]⟩
  rw [← hlast, hl] at HH
  have hq : ∀ a, (w.drewN a).cell? ⟨k, 64, none⟩ = some (.int .i64 ((r.length : Int) + 1)) := by
   intro a
   have h2 := hr.below (draws_below w a) hr.lt
   rw [h2.cell, skC_open hL, hs]; simp
  have hfz : ∀ a, (w.drewN a).frozen? ⟨k, 64, none⟩ = false := fun a => (hr.below (draws_below w a) hr.lt).frozen 64
  have HR : Hid (∀ a, Row ((w.drewN a).setCell ⟨k, 64, none⟩ (.int .i64 (r.length : Int))) k 64 (skC (r.reverse ++ 0 :: J) r.length s.most)) := Lib.hid (by
   intro a
   have h2 := (hr.below (draws_below w a) hr.lt).set 64 (.int .i64 (r.length : Int))
   rw [skC_setO _ hL, hs] at h2
   simpa using h2)
  have hlt : ∀ a, k < (w.drewN a).heap.size := fun a => hr.lt
  have hrl : r.length < 64 := by rw [hs] at hL; simp at hL; omega
  have HL := Lib.hid hL
  have HS := Lib.hid hs
  clear hr hL hok hl hbd hlast hs
  generalize hrr : r.length = p at *
  have HRR := Lib.hid hrr
  clear hrr
  go_enter Try.func32, Try.ntmps32
  go_wp2_with fail
  refine HH.out.mono ?_
  rintro e w1 ⟨rfl, a, rfl⟩
  have q := hq a
  have f := hfz a
  have l := hlt a
  have HRa := Lib.hid (HR.out a)
  have HCa : Hid (Chg F w ((w.drewN a).setCell ⟨k, 64, none⟩ (.int .i64 (p : Int)))) := Lib.hid ((chg_draws F w a).setAt ((hF k).2 rfl) 64 _)
  clear hq hfz hlt HR
  generalize w.drewN a = W at *
  go_wp2
  go_ret
  rw [HT.out]
  refine ⟨rfl, ⟨hF, HOK.out, 0 :: J, ?_, ?_⟩, HCa.out⟩
  ·rw [HN.out]; have := HL.out; rw [HS.out] at this ⊢; simp at this ⊢; omega
  ·rw [HN.out, HS.out]; simp only [List.tail_cons, HRR.out]; exact HRa.out
 ·have HT : Hid (s.leaveB = false) := Lib.hid (by unfold SS.leaveB; simpa using hl)
  have HN : Hid (s.leave = s) := Lib.hid (by unfold SS.leave; rw [if_neg hl])
  rw [← hlast] at HH
  have hb : (s.last != 0) = true := by simpa using hl
  clear hr hL hok hlast hl
  generalize s.last = x at *
  go_enter Try.func32, Try.ntmps32
  go_wp2_with fail
  refine HH.out.mono ?_
  rintro e w1 ⟨rfl, a, rfl⟩
  go_wp2
  go_ret
  rw [HT.out, HN.out]
  exact ⟨rfl, HA.out.draws a, chg_draws _ w a⟩
theorem pay_length (st : List Int) (n : Int) : (pay st n).length = st.length := by cases st <;> rfl
set_option maxHeartbeats 4000000 in
set_option maxRecDepth 100000 in
theorem enter_code {w : World} {k : Nat} {F : Nat → Prop} {s : SS} (n : Int) (h : StAt w k F s) (hn : InI n) :
  Calls Try.prog 44 #[.pointer (some ⟨k, 0, none⟩), .int .i64 n] w fun e w' => e = .returned (.int .i64 (s.enterE n)) ∧ StAt w' k F (s.enter n) ∧ Chg F w w' := by
 have HA := Lib.hid h
 obtain ⟨hF, hok, J, hL, hr⟩ := h
 have HH := Lib.hid (has_any k s.st J s.most n w hL hr)
 by_cases h0 : n < 0
 ·have HT : Hid (s.enterE n = 1) := Lib.hid (by unfold SS.enterE; rw [if_pos h0])
  have HN : Hid (s.enter n = s) := Lib.hid (by unfold SS.enter; rw [if_neg (by rw [HT.out]; decide)])
  clear HH hr hL hok
  go_enter Try.func44, Try.ntmps44
  go_wp2
  go_ret
  rw [HT.out, HN.out]
  exact ⟨rfl, HA.out, chg_draws _ w 0⟩
 ·cases hb : hasB s.st n with
  |false =>
   have hl := (has_at HA.out n).2 hb
   have HT : Hid (s.enterE n = 5) := Lib.hid (by unfold SS.enterE; rw [if_neg h0, if_pos hl])
   have HN : Hid (s.enter n = s) := Lib.hid (by unfold SS.enter; rw [if_neg (by rw [HT.out]; decide)])
   rw [hb] at HH
   clear hb hr hL hok hl
   go_enter Try.func44, Try.ntmps44
   go_wp2_with fail
   refine HH.out.mono ?_
   rintro e w1 ⟨rfl, a, rfl⟩
   go_wp2
   go_ret
   rw [HT.out, HN.out]
   exact ⟨rfl, HA.out.draws a, chg_draws _ w a⟩
  |true =>
   have hl : ¬ (0 ≤ s.last ∧ s.last < n) := fun e => by have := (has_at HA.out n).1 e; rw [hb] at this; cases this
   rw [hb] at HH
   have hq1 : ∀ a, (w.drewN a).cell? ⟨k, 64, none⟩ = some (.int .i64 (s.st.length : Int)) := fun a => by rw [(hr.below (draws_below w a) hr.lt).cell, skC_open hL]
   have hq2 : ∀ a, (w.drewN a).cell? ⟨k, 65, none⟩ = some (.int .i64 (s.most : Int)) := fun a => by rw [(hr.below (draws_below w a) hr.lt).cell, skC_most hL]
   have hln := hok.len
   have hms := hok.most
   by_cases hd : s.most ≤ s.st.length
   ·have HT : Hid (s.enterE n = 10) := Lib.hid (by unfold SS.enterE; rw [if_neg h0, if_neg hl, if_pos hd])
    have HN : Hid (s.enter n = s) := Lib.hid (by unfold SS.enter; rw [if_neg (by rw [HT.out]; decide)])
    clear hb hr hL hok hl
    generalize hp : s.st.length = p at *
    generalize hm : s.most = m at *
    clear hp hm
    go_enter Try.func44, Try.ntmps44
    go_wp2_with fail
    refine HH.out.mono ?_
    rintro e w1 ⟨rfl, a, rfl⟩
    have q1 := hq1 a
    have q2 := hq2 a
    have HAa := Lib.hid (HA.out.draws a)
    have HCa := Lib.hid (chg_draws F w a)
    clear hq1 hq2 HA HH
    generalize w.drewN a = W at *
    go_wp2
    go_quiet (fail)
    go_wp2
    go_ret
    rw [HT.out, HN.out]
    exact ⟨rfl, HAa.out.draws _, Chg.trans HCa.out (chg_draws F W _) (fun i hi => .inl hi)⟩
   ·have HT : Hid (s.enterE n = 0) := Lib.hid (by unfold SS.enterE; rw [if_neg h0, if_neg hl, if_neg hd])
    have HN : Hid (s.enter n = ⟨s.most, n :: pay s.st n⟩) := Lib.hid (by unfold SS.enter; rw [if_pos HT.out])
    have HOK := Lib.hid (SS.enter_ok hok n hn.2)
    have HS := Lib.hid (fun (a b : Nat) => spend_any k s.st J s.most n ((w.drewN a).drewN b) hL ((hr.below (draws_below w a) hr.lt).below (draws_below (w.drewN a) b) hr.lt) (by omega) (fun x hx _ => hok.bd x hx) hb)
    have HL := Lib.hid hL
    clear hb hr hL hok hl
    have HP := Lib.hid (pay_length s.st n)
    obtain ⟨j0, J', hJ⟩ : ∃ j0 J', J = j0 :: J' := by
     cases J with
     |nil => have := HL.out; simp at this; omega
     |cons j0 J' => exact ⟨j0, J', rfl⟩
    have HJ := Lib.hid hJ
    clear hJ
    generalize hp : s.st.length = p at *
    generalize hm : s.most = m at *
    have HPP := Lib.hid hp
    clear hp hm
    go_enter Try.func44, Try.ntmps44
    go_wp2_with fail
    refine HH.out.mono ?_
    rintro e w1 ⟨rfl, a, rfl⟩
    have q1 := hq1 a
    have q2 := hq2 a
    have HSa := Lib.hid (HS.out a)
    have HCa := Lib.hid (chg_draws F w a)
    clear hq1 hq2 HA HH HS
    generalize w.drewN a = W at *
    go_wp2
    go_quiet (fail)
    go_wp2_with fail
    refine (HSa.out _).mono ?_
    rintro e w3 ⟨rfl, hr3, hc3⟩
    have HC3 := Lib.hid (Chg.trans (Chg.trans HCa.out (chg_draws F W _) (fun i hi => .inl hi)) (chg_eq hc3 hF) (fun i hi => .inl hi))
    have hL3 : ((pay s.st n).reverse ++ J).length = 64 := by have := HL.out; simp [HP.out, HPP.out] at this ⊢; omega
    have s1 : w3.cell? ⟨k, 64, none⟩ = some (.int .i64 (p : Int)) := by rw [hr3.cell, skC_open hL3]
    have hpl : p < 64 := by omega
    have hpp : ((pay s.st n).reverse ++ J)[p]? = some j0 := by
     rw [HJ.out, List.getElem?_append_right (by simp [HP.out])]; simp [HP.out]
    have s2 : w3.cell? ⟨k, p, none⟩ = some (.int .i64 j0) := by rw [hr3.cell, skC_get hpp]
    have f1 := hr3.frozen 64
    have f2 := hr3.frozen p
    have hset := skC_set (o := (p : Int)) (m := (m : Int)) n (show p < ((pay s.st n).reverse ++ J).length by rw [hL3]; exact hpl)
    have hst : ((pay s.st n).reverse ++ J).set p n = (n :: pay s.st n).reverse ++ J' := by
     rw [HJ.out, List.set_append_right _ _ (by simp [HP.out])]; simp [HP.out]
    rw [hst] at hset
    have HR4 : Hid (Row ((w3.setCell ⟨k, p, none⟩ (.int .i64 n)).drew) k 64 (skC ((n :: pay s.st n).reverse ++ J') p m)) := Lib.hid (by
     have := hr3.set p (.int .i64 n)
     rw [hset] at this
     exact this.below (Below.refl _ _).drew this.lt)
    have hL4 : Hid (((n :: pay s.st n).reverse ++ J').length = 64) := Lib.hid (by have := hL3; rw [HJ.out] at this; simp at this ⊢; omega)
    have hFk : F k := (hF k).2 rfl
    have HC4 : Hid (Chg F w ((w3.setCell ⟨k, p, none⟩ (.int .i64 n)).drew)) := Lib.hid (Chg.trans (HC3.out.setAt hFk p (.int .i64 n)) (chg_draws F _ 1) (fun i hi => .inl hi))
    have hlt := hr3.lt
    clear hr3 hc3 hL3 hpp hset hst HSa HCa q1 q2 HC3
    go_wp2
    go_region
    have q1 : ((w3.setCell ⟨k, p, none⟩ (.int .i64 n)).drew).cell? ⟨k, 64, none⟩ = some (.int .i64 (p : Int)) := by rw [HR4.out.cell, skC_open hL4.out]
    have g1 := HR4.out.frozen 64
    have hlt2 := HR4.out.lt
    have HR5 := HR4.out.set 64 (.int .i64 ((p : Int) + 1))
    rw [skC_setO _ hL4.out] at HR5
    have HR6 := Lib.hid HR5
    have HC6 := Lib.hid (HC4.out.setAt hFk 64 (.int .i64 ((p : Int) + 1)))
    clear HR5 HR4 HC4 s1 s2 f1 f2 hlt
    generalize (w3.setCell ⟨k, p, none⟩ (.int .i64 n)).drew = W4 at *
    go_wp2
    go_ret
    rw [HT.out]
    refine ⟨rfl, ⟨hF, HOK.out, J', ?_, ?_⟩, HC6.out⟩
    ·rw [HN.out]; exact hL4.out
    ·rw [HN.out]; simp only [List.length_cons, HP.out]
     exact HR6.out
theorem wpList_build {P : Program} {ops : Array Oper} {rest : List Oper} {o : Oper} {a : Act} {w : World} {Q : Exit → Act → World → Prop} (hgd : o.guard = none) (t : TypeId) (parts : Array (Nat × Operand)) (ho : o.op = .build t parts) (cells : Array Value)
  (hf : P.built t (parts.map fun (i, x) => (i, a.eval x)).toList = some cells) (h : wpList P ops Q rest (a.put o.dst (.agg cells)) w) : wpList P ops Q (o :: rest) a w := by
 refine wpList_plain hgd fun K hK => ?_
 unfold Oper.wp execOp
 simp only [ho, Sem.run_bind, run_build w t _ cells hf, Result.andThen_ok]
 exact hK _ _ h
theorem wpList_build1 {P : Program} {ops : Array Oper} {rest : List Oper} {o : Oper} {a : Act} {w : World} {Q : Exit → Act → World → Prop} (hgd : o.guard = none) (t : TypeId) (i : Nat) (x : Operand) (ho : o.op = .build t #[(i, x)]) (v : Value) (hx : a.eval x = v) (cells : Array Value)
  (hf : P.built t [(i, v)] = some cells) (h : wpList P ops Q rest (a.put o.dst (.agg cells)) w) : wpList P ops Q (o :: rest) a w :=
 wpList_build hgd t _ ho cells (by simpa [hx] using hf) h
theorem builtStack (d : Int) : Try.prog.built 64 [(2, .int .i64 d)] = some (skC (List.replicate 64 0) 0 d).toArray := by
 kernel_rfl
set_option maxRecDepth 100000 in
set_option maxHeartbeats 1000000 in
theorem new_code (depth : Int) (w : World) (hd : InI depth) :
  Calls Try.prog 14 #[.int .i64 depth] w fun e w' => ∃ k F, e = .returned (.pointer (some ⟨k, 0, none⟩)) ∧ (∀ i, F i → w.heap.size ≤ i) ∧ StAt w' k F (SS.new depth) ∧ Below w.heap.size w w' := by
 obtain ⟨m, hm⟩ : ∃ m : Int, m = max 0 (min depth 64) := ⟨_, rfl⟩
 have HF : Hid (StAt (w.alloc (.cells (skC (List.replicate 64 0) 0 m).toArray 64)) w.heap.size (fun i => i = w.heap.size) (SS.new depth)) := Lib.hid (by
  refine ⟨fun i => Iff.rfl, SS.new_ok depth, List.replicate 64 0, by simp [SS.new], ?_⟩
  have := Row.new w 64 (skC (List.replicate 64 0) 0 m)
  rw [show ((SS.new depth).most : Int) = m by unfold SS.new; simp only []; omega]
  exact this)
 have HB := Lib.hid (builtStack m)
 generalize skC (List.replicate 64 0) 0 m = C at *
 have HG : Hid (∃ k F, Ending.returned (.pointer (some ⟨w.heap.size, 0, none⟩)) = Ending.returned (.pointer (some ⟨k, 0, none⟩)) ∧ (∀ i, F i → w.heap.size ≤ i) ∧ StAt (w.alloc (.cells C.toArray 64)) k F (SS.new depth) ∧ Below w.heap.size w (w.alloc (.cells C.toArray 64))) := Lib.hid
  ⟨_, _, rfl, fun i hi => Nat.le_of_eq hi.symm, HF.out, (Below.refl _ _).alloc (Nat.le_refl _) _⟩
 clear HF
 subst hm
 go_enter Try.func14, Try.ntmps14
 go_wp2_with (refine wpList_build1 rfl 64 2 (.tmp 5) rfl (.int .i64 (max 0 (min depth 64))) rfl C.toArray HB.out ?_)
 all_goals go_ret
 all_goals exact HG.out
theorem stSpec : StSpec StAt where
 ok := fun h => h.2.1
 lt := fun ⟨hF, _, J, _, hr⟩ i hi => by rw [(hF i).1 hi]; exact hr.lt
 aside := fun h hc hF => h.aside hc hF
 new := new_code
 enter := fun n h hn => enter_code n h hn
 take := take_code
 leave := leave_code
 depth := fun ⟨hF, _, J, hL, hr⟩ => depth_any _ _ J _ _ hL hr
 left := fun ⟨hF, _, J, hL, hr⟩ => left_any _ _ J _ _ hL hr
end Go.Proofs.Ytiiimhamfibdbaa
