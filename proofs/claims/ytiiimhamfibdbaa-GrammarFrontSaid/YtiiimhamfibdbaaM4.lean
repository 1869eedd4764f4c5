/- Slices of places and of open elements, and what the landed code's rowOf gives: the places of a part's row. Of every part. -/
import Derived.Test.YtiiimhamfibdbaaM1
import Derived.Test.YtiiimhamfibdbaaB0
import Derived.Test.YtiiimhamfibdbaaE1
import Derived.Handy
import Derived.WalkKit
import Derived.WalkSpells
import Derived.Lib.Hide
import Derived.Deep.LoopGhost
import Derived.Deep.QuietTactic
import Derived.BigQuiet
namespace Go.Proofs.Ytiiimhamfibdbaa
open Go.RowKit Go.PlainAid
set_option linter.unusedVariables false
def plC (q : GPl) : List Value := [.int .i64 q.1, .int .i64 q.2]
def plsC (l : List GPl) : List Value := l.flatMap plC
theorem plsC_append (l m : List GPl) : plsC (l ++ m) = plsC l ++ plsC m := by simp [plsC]
theorem plsC_length (l : List GPl) : (plsC l).length = l.length * 2 := by
 induction l with
 |nil => rfl
 |cons e r ih => show (plC e ++ plsC r).length = _; rw [List.length_append, ih]; simp [plC]; omega
theorem plsC_at (l : List GPl) (i : Nat) (h : i < l.length) (k : Nat) (hk : k < 2) : (plsC l)[i * 2 + k]? = (plC l[i])[k]? := by
 induction l generalizing i with
 |nil => simp at h
 |cons e r ih =>
  show (plC e ++ plsC r)[i * 2 + k]? = _
  cases i with
  |zero => rw [List.getElem?_append_left (by simp [plC]; omega)]; simp
  |succ i =>
   rw [List.getElem?_append_right (by simp [plC]; omega), show (i + 1) * 2 + k - (plC e).length = i * 2 + k by simp [plC]; omega, ih i (by simpa using h)]
   rfl
theorem plsC_take (l : List GPl) (i : Nat) : (plsC l).take (i * 2) = plsC (l.take i) := by
 induction l generalizing i with
 |nil => simp [plsC]
 |cons e r ih =>
  cases i with
  |zero => simp [plsC]
  |succ i =>
   rw [List.take_succ_cons]
   show (plC e ++ plsC r).take _ = plC e ++ plsC (r.take i)
   rw [show (i + 1) * 2 = (plC e).length + i * 2 by simp [plC]; omega, List.take_length_add_append, ih]
theorem plsC_set (l : List GPl) (i : Nat) (h : i < l.length) (y : Int) : (plsC l).set (i * 2 + 1) (.int .i64 y) = plsC (l.set i (l[i].1, y)) := by
 induction l generalizing i with
 |nil => simp at h
 |cons e r ih =>
  cases i with
  |zero => rfl
  |succ i =>
   show (plC e ++ plsC r).set _ _ = plC e ++ plsC (r.set i _)
   rw [List.set_append_right _ _ (by simp [plC]; omega), show (i + 1) * 2 + 1 - (plC e).length = i * 2 + 1 by simp [plC]; omega, ih i (by simpa using h)]
   rfl
def PlS (t : TypeId) (w : World) (base : Nat) (v : Value) (l : List GPl) : Prop := w.ownsRow base t 2 v l.length (plsC l)
section
variable {t : TypeId} {w w' : World} {base : Nat} {v : Value} {l : List GPl}
theorem PlS.mono {base' : Nat} (h : PlS t w base v l) (hb : base' ≤ base) : PlS t w base' v l := by
 obtain ⟨hl, h1 | ⟨g, cap, cur, hv, hg, hh⟩⟩ := h
 ·exact ⟨hl, .inl h1⟩
 ·exact ⟨hl, .inr ⟨g, cap, cur, hv, Nat.le_trans hb hg, hh⟩⟩
theorem PlS.shape (h : PlS t w base v l) : (v = .slice none 0 0 ∧ l = []) ∨ ∃ g c, v = .slice (some ⟨g, 0, none⟩) l.length c ∧ l.length ≤ c ∧ c ≤ maxLen ∧ base ≤ g ∧ g < w.heap.size := by
 rcases own_shape h with ⟨h1, h2⟩ | h1
 ·exact .inl ⟨h1, List.eq_nil_of_length_eq_zero h2⟩
 ·exact .inr h1
theorem PlS.ob (h : PlS t w base v l) {b : Nat} (hb : v.ownBlock = some b) : base ≤ b ∧ b < w.heap.size := by
 rcases h.shape with ⟨rfl, _⟩ | ⟨g, c, rfl, _, _, h1, h2⟩
 ·cases hb
 ·injection hb with hb; have hb : g = b := hb; omega
theorem PlS.below (h : PlS t w base v l) (hb : Below w.heap.size w w') : PlS t w' base v l := own_below h hb
theorem PlS.keep (h : PlS t w base v l) (hb : ∀ g, v.ownBlock = some g → w'.heap[g]? = w.heap[g]?) : PlS t w' base v l := by
 obtain ⟨hl, h1 | ⟨g, cap, cur, hv, hg, hh, hr⟩⟩ := h
 ·exact ⟨hl, .inl h1⟩
 ·exact ⟨hl, .inr ⟨g, cap, cur, hv, hg, by rw [hb g (by rw [hv]; rfl)]; exact hh, hr⟩⟩
theorem PlS.at2 {g m c : Nat} (h : PlS t w base (.slice (some ⟨g, 0, none⟩) m c) l) (i : Nat) (hi : i < l.length) :
  w.cell? ⟨g, i * 2, none⟩ = some (.int .i64 l[i].1) ∧ w.cell? ⟨g, i * 2 + 1, none⟩ = some (.int .i64 l[i].2) := by
 have hcell := fun k (hk : k < 2) => (World.ownsRow.cells h rfl) (i * 2 + k) ((plC l[i])[k]'hk) (by rw [plsC_at l i hi k hk]; exact List.getElem?_eq_getElem hk)
 have hA : ∀ j, (⟨g, 0, none⟩ : Addr).add j = ⟨g, j, none⟩ := fun j => by unfold Addr.add; split <;> simp_all
 refine ⟨?_, ?_⟩
 ·have := hcell 0 (by decide); rw [hA] at this; exact this
 ·have := hcell 1 (by decide); rw [hA] at this; exact this
theorem PlS.front {g c : Nat} {q : List GPl} (h : PlS t w base (.slice (some ⟨g, 0, none⟩) (l ++ q).length c) (l ++ q)) : PlS t w base (.slice (some ⟨g, 0, none⟩) l.length c) l := by
 obtain ⟨hl, ⟨h1, _⟩ | ⟨g', cap, cur, hv, hg, hh, hn, hc, hs, ht⟩⟩ := h
 ·cases h1
 ·simp only [Value.slice.injEq, Option.some.injEq, Addr.mk.injEq, and_true, true_and] at hv
  obtain ⟨rfl, rfl⟩ := hv
  refine ⟨plsC_length l, .inr ⟨g, c, cur, rfl, hg, hh, Nat.le_trans (by rw [List.length_append]; omega) hn, hc, hs, ?_⟩⟩
  have e := congrArg (List.take (l.length * 2)) ht
  rw [List.take_take, plsC_take, List.take_left, Nat.min_eq_left (by rw [List.length_append]; omega)] at e
  exact e
end
def rowV (b : Nat) : List GPl → Value
 |[] => .slice none 0 0
 |_ :: r => .slice (some ⟨b, 0, none⟩) (r.length + 1) (r.length + 1)
set_option maxHeartbeats 4000000 in
theorem rowG_none (p : Int) (h : p ≠ 0 ∧ p ≠ 1 ∧ p ≠ 2 ∧ p ≠ 4 ∧ p ≠ 6 ∧ p ≠ 7 ∧ p ≠ 8 ∧ p ≠ 9 ∧ p ≠ 13 ∧ p ≠ 14 ∧ p ≠ 17 ∧ p ≠ 18 ∧ p ≠ 21) : rowG p = [] := by
 unfold rowG
 rw [if_neg h.1, if_neg h.2.1, if_neg h.2.2.1, if_neg h.2.2.2.1, if_neg h.2.2.2.2.1, if_neg h.2.2.2.2.2.1, if_neg h.2.2.2.2.2.2.1, if_neg h.2.2.2.2.2.2.2.1, if_neg h.2.2.2.2.2.2.2.2.1, if_neg h.2.2.2.2.2.2.2.2.2.1, if_neg h.2.2.2.2.2.2.2.2.2.2.1, if_neg h.2.2.2.2.2.2.2.2.2.2.2.1, if_neg h.2.2.2.2.2.2.2.2.2.2.2.2]
set_option maxRecDepth 100000 in
set_option maxHeartbeats 8000000 in
theorem rowOf_0 (w : World) :
  Calls Try.prog 26 #[.int .i64 0] w fun e w' => ∃ v, e = .returned v ∧ PlS 73 w' w.heap.size v (rowP 0) ∧ Below w.heap.size w w' ∧ v = rowV w.heap.size (rowP 0) := by
 have HP : Hid (PlS 73 (w.alloc (.cells #[.int .i64 1, .int .i64 0] 73)) w.heap.size (.slice (some ⟨w.heap.size, 0, none⟩) 1 1) (rowP 0)) := Lib.hid (World.ownsRow_lit w #[.int .i64 1, .int .i64 0] 1 (Nat.le_refl _) (by unfold maxLen; omega) rfl)
 have HB : Hid (Below w.heap.size w (w.alloc (.cells #[.int .i64 1, .int .i64 0] 73))) := Lib.hid ((Below.refl _ _).alloc (Nat.le_refl _) _)
 have HV : Hid (Value.slice (some ⟨w.heap.size, 0, none⟩) 1 1 = rowV w.heap.size (rowP 0)) := Lib.hid rfl
 generalize rowP 0 = R at *
 go_enter Try.func26, Try.ntmps26
 go_wp2
 go_returns
 exact ⟨_, rfl, HP.out, HB.out, HV.out⟩
set_option maxRecDepth 100000 in
set_option maxHeartbeats 8000000 in
theorem rowOf_1 (w : World) :
  Calls Try.prog 26 #[.int .i64 1] w fun e w' => ∃ v, e = .returned v ∧ PlS 73 w' w.heap.size v (rowP 1) ∧ Below w.heap.size w w' ∧ v = rowV w.heap.size (rowP 1) := by
 have HP : Hid (PlS 73 (w.alloc (.cells #[.int .i64 2, .int .i64 0, .int .i64 4, .int .i64 0, .int .i64 22, .int .i64 0] 73)) w.heap.size (.slice (some ⟨w.heap.size, 0, none⟩) 3 3) (rowP 1)) := Lib.hid (World.ownsRow_lit w #[.int .i64 2, .int .i64 0, .int .i64 4, .int .i64 0, .int .i64 22, .int .i64 0] 3 (Nat.le_refl _) (by unfold maxLen; omega) rfl)
 have HB : Hid (Below w.heap.size w (w.alloc (.cells #[.int .i64 2, .int .i64 0, .int .i64 4, .int .i64 0, .int .i64 22, .int .i64 0] 73))) := Lib.hid ((Below.refl _ _).alloc (Nat.le_refl _) _)
 have HV : Hid (Value.slice (some ⟨w.heap.size, 0, none⟩) 3 3 = rowV w.heap.size (rowP 1)) := Lib.hid rfl
 generalize rowP 1 = R at *
 go_enter Try.func26, Try.ntmps26
 go_wp2
 go_returns
 exact ⟨_, rfl, HP.out, HB.out, HV.out⟩
set_option maxRecDepth 100000 in
set_option maxHeartbeats 8000000 in
theorem rowOf_2 (w : World) :
  Calls Try.prog 26 #[.int .i64 2] w fun e w' => ∃ v, e = .returned v ∧ PlS 73 w' w.heap.size v (rowP 2) ∧ Below w.heap.size w w' ∧ v = rowV w.heap.size (rowP 2) := by
 have HP : Hid (PlS 73 (w.alloc (.cells #[.int .i64 3, .int .i64 1, .int .i64 4, .int .i64 0, .int .i64 7, .int .i64 0, .int .i64 11, .int .i64 0, .int .i64 12, .int .i64 1, .int .i64 13, .int .i64 1, .int .i64 21, .int .i64 1] 73)) w.heap.size (.slice (some ⟨w.heap.size, 0, none⟩) 7 7) (rowP 2)) := Lib.hid (World.ownsRow_lit w #[.int .i64 3, .int .i64 1, .int .i64 4, .int .i64 0, .int .i64 7, .int .i64 0, .int .i64 11, .int .i64 0, .int .i64 12, .int .i64 1, .int .i64 13, .int .i64 1, .int .i64 21, .int .i64 1] 7 (Nat.le_refl _) (by unfold maxLen; omega) rfl)
 have HB : Hid (Below w.heap.size w (w.alloc (.cells #[.int .i64 3, .int .i64 1, .int .i64 4, .int .i64 0, .int .i64 7, .int .i64 0, .int .i64 11, .int .i64 0, .int .i64 12, .int .i64 1, .int .i64 13, .int .i64 1, .int .i64 21, .int .i64 1] 73))) := Lib.hid ((Below.refl _ _).alloc (Nat.le_refl _) _)
 have HV : Hid (Value.slice (some ⟨w.heap.size, 0, none⟩) 7 7 = rowV w.heap.size (rowP 2)) := Lib.hid rfl
 generalize rowP 2 = R at *
 go_enter Try.func26, Try.ntmps26
 go_wp2
 go_returns
 exact ⟨_, rfl, HP.out, HB.out, HV.out⟩
set_option maxRecDepth 100000 in
set_option maxHeartbeats 8000000 in
theorem rowOf_4 (w : World) :
  Calls Try.prog 26 #[.int .i64 4] w fun e w' => ∃ v, e = .returned v ∧ PlS 73 w' w.heap.size v (rowP 4) ∧ Below w.heap.size w w' ∧ v = rowV w.heap.size (rowP 4) := by
 have HP : Hid (PlS 73 (w.alloc (.cells #[.int .i64 5, .int .i64 0, .int .i64 6, .int .i64 1] 73)) w.heap.size (.slice (some ⟨w.heap.size, 0, none⟩) 2 2) (rowP 4)) := Lib.hid (World.ownsRow_lit w #[.int .i64 5, .int .i64 0, .int .i64 6, .int .i64 1] 2 (Nat.le_refl _) (by unfold maxLen; omega) rfl)
 have HB : Hid (Below w.heap.size w (w.alloc (.cells #[.int .i64 5, .int .i64 0, .int .i64 6, .int .i64 1] 73))) := Lib.hid ((Below.refl _ _).alloc (Nat.le_refl _) _)
 have HV : Hid (Value.slice (some ⟨w.heap.size, 0, none⟩) 2 2 = rowV w.heap.size (rowP 4)) := Lib.hid rfl
 generalize rowP 4 = R at *
 go_enter Try.func26, Try.ntmps26
 go_wp2
 go_returns
 exact ⟨_, rfl, HP.out, HB.out, HV.out⟩
set_option maxRecDepth 100000 in
set_option maxHeartbeats 8000000 in
theorem rowOf_6 (w : World) :
  Calls Try.prog 26 #[.int .i64 6] w fun e w' => ∃ v, e = .returned v ∧ PlS 73 w' w.heap.size v (rowP 6) ∧ Below w.heap.size w w' ∧ v = rowV w.heap.size (rowP 6) := by
 have HP : Hid (PlS 73 (w.alloc (.cells #[.int .i64 6, .int .i64 2] 73)) w.heap.size (.slice (some ⟨w.heap.size, 0, none⟩) 1 1) (rowP 6)) := Lib.hid (World.ownsRow_lit w #[.int .i64 6, .int .i64 2] 1 (Nat.le_refl _) (by unfold maxLen; omega) rfl)
 have HB : Hid (Below w.heap.size w (w.alloc (.cells #[.int .i64 6, .int .i64 2] 73))) := Lib.hid ((Below.refl _ _).alloc (Nat.le_refl _) _)
 have HV : Hid (Value.slice (some ⟨w.heap.size, 0, none⟩) 1 1 = rowV w.heap.size (rowP 6)) := Lib.hid rfl
 generalize rowP 6 = R at *
 go_enter Try.func26, Try.ntmps26
 go_wp2
 go_returns
 exact ⟨_, rfl, HP.out, HB.out, HV.out⟩
set_option maxRecDepth 100000 in
set_option maxHeartbeats 8000000 in
theorem rowOf_7 (w : World) :
  Calls Try.prog 26 #[.int .i64 7] w fun e w' => ∃ v, e = .returned v ∧ PlS 73 w' w.heap.size v (rowP 7) ∧ Below w.heap.size w w' ∧ v = rowV w.heap.size (rowP 7) := by
 have HP : Hid (PlS 73 (w.alloc (.cells #[.int .i64 8, .int .i64 2] 73)) w.heap.size (.slice (some ⟨w.heap.size, 0, none⟩) 1 1) (rowP 7)) := Lib.hid (World.ownsRow_lit w #[.int .i64 8, .int .i64 2] 1 (Nat.le_refl _) (by unfold maxLen; omega) rfl)
 have HB : Hid (Below w.heap.size w (w.alloc (.cells #[.int .i64 8, .int .i64 2] 73))) := Lib.hid ((Below.refl _ _).alloc (Nat.le_refl _) _)
 have HV : Hid (Value.slice (some ⟨w.heap.size, 0, none⟩) 1 1 = rowV w.heap.size (rowP 7)) := Lib.hid rfl
 generalize rowP 7 = R at *
 go_enter Try.func26, Try.ntmps26
 go_wp2
 go_returns
 exact ⟨_, rfl, HP.out, HB.out, HV.out⟩
set_option maxRecDepth 100000 in
set_option maxHeartbeats 8000000 in
theorem rowOf_8 (w : World) :
  Calls Try.prog 26 #[.int .i64 8] w fun e w' => ∃ v, e = .returned v ∧ PlS 73 w' w.heap.size v (rowP 8) ∧ Below w.heap.size w w' ∧ v = rowV w.heap.size (rowP 8) := by
 have HP : Hid (PlS 73 (w.alloc (.cells #[.int .i64 9, .int .i64 0, .int .i64 9, .int .i64 2] 73)) w.heap.size (.slice (some ⟨w.heap.size, 0, none⟩) 2 2) (rowP 8)) := Lib.hid (World.ownsRow_lit w #[.int .i64 9, .int .i64 0, .int .i64 9, .int .i64 2] 2 (Nat.le_refl _) (by unfold maxLen; omega) rfl)
 have HB : Hid (Below w.heap.size w (w.alloc (.cells #[.int .i64 9, .int .i64 0, .int .i64 9, .int .i64 2] 73))) := Lib.hid ((Below.refl _ _).alloc (Nat.le_refl _) _)
 have HV : Hid (Value.slice (some ⟨w.heap.size, 0, none⟩) 2 2 = rowV w.heap.size (rowP 8)) := Lib.hid rfl
 generalize rowP 8 = R at *
 go_enter Try.func26, Try.ntmps26
 go_wp2
 go_returns
 exact ⟨_, rfl, HP.out, HB.out, HV.out⟩
set_option maxRecDepth 100000 in
set_option maxHeartbeats 8000000 in
theorem rowOf_9 (w : World) :
  Calls Try.prog 26 #[.int .i64 9] w fun e w' => ∃ v, e = .returned v ∧ PlS 73 w' w.heap.size v (rowP 9) ∧ Below w.heap.size w w' ∧ v = rowV w.heap.size (rowP 9) := by
 have HP : Hid (PlS 73 (w.alloc (.cells #[.int .i64 5, .int .i64 0, .int .i64 10, .int .i64 0] 73)) w.heap.size (.slice (some ⟨w.heap.size, 0, none⟩) 2 2) (rowP 9)) := Lib.hid (World.ownsRow_lit w #[.int .i64 5, .int .i64 0, .int .i64 10, .int .i64 0] 2 (Nat.le_refl _) (by unfold maxLen; omega) rfl)
 have HB : Hid (Below w.heap.size w (w.alloc (.cells #[.int .i64 5, .int .i64 0, .int .i64 10, .int .i64 0] 73))) := Lib.hid ((Below.refl _ _).alloc (Nat.le_refl _) _)
 have HV : Hid (Value.slice (some ⟨w.heap.size, 0, none⟩) 2 2 = rowV w.heap.size (rowP 9)) := Lib.hid rfl
 generalize rowP 9 = R at *
 go_enter Try.func26, Try.ntmps26
 go_wp2
 go_returns
 exact ⟨_, rfl, HP.out, HB.out, HV.out⟩
set_option maxRecDepth 100000 in
set_option maxHeartbeats 8000000 in
theorem rowOf_13 (w : World) :
  Calls Try.prog 26 #[.int .i64 13] w fun e w' => ∃ v, e = .returned v ∧ PlS 73 w' w.heap.size v (rowP 13) ∧ Below w.heap.size w w' ∧ v = rowV w.heap.size (rowP 13) := by
 have HP : Hid (PlS 73 (w.alloc (.cells #[.int .i64 14, .int .i64 0, .int .i64 14, .int .i64 2] 73)) w.heap.size (.slice (some ⟨w.heap.size, 0, none⟩) 2 2) (rowP 13)) := Lib.hid (World.ownsRow_lit w #[.int .i64 14, .int .i64 0, .int .i64 14, .int .i64 2] 2 (Nat.le_refl _) (by unfold maxLen; omega) rfl)
 have HB : Hid (Below w.heap.size w (w.alloc (.cells #[.int .i64 14, .int .i64 0, .int .i64 14, .int .i64 2] 73))) := Lib.hid ((Below.refl _ _).alloc (Nat.le_refl _) _)
 have HV : Hid (Value.slice (some ⟨w.heap.size, 0, none⟩) 2 2 = rowV w.heap.size (rowP 13)) := Lib.hid rfl
 generalize rowP 13 = R at *
 go_enter Try.func26, Try.ntmps26
 go_wp2
 go_returns
 exact ⟨_, rfl, HP.out, HB.out, HV.out⟩
set_option maxRecDepth 100000 in
set_option maxHeartbeats 8000000 in
theorem rowOf_14 (w : World) :
  Calls Try.prog 26 #[.int .i64 14] w fun e w' => ∃ v, e = .returned v ∧ PlS 73 w' w.heap.size v (rowP 14) ∧ Below w.heap.size w w' ∧ v = rowV w.heap.size (rowP 14) := by
 have HP : Hid (PlS 73 (w.alloc (.cells #[.int .i64 15, .int .i64 0, .int .i64 16, .int .i64 0, .int .i64 17, .int .i64 1] 73)) w.heap.size (.slice (some ⟨w.heap.size, 0, none⟩) 3 3) (rowP 14)) := Lib.hid (World.ownsRow_lit w #[.int .i64 15, .int .i64 0, .int .i64 16, .int .i64 0, .int .i64 17, .int .i64 1] 3 (Nat.le_refl _) (by unfold maxLen; omega) rfl)
 have HB : Hid (Below w.heap.size w (w.alloc (.cells #[.int .i64 15, .int .i64 0, .int .i64 16, .int .i64 0, .int .i64 17, .int .i64 1] 73))) := Lib.hid ((Below.refl _ _).alloc (Nat.le_refl _) _)
 have HV : Hid (Value.slice (some ⟨w.heap.size, 0, none⟩) 3 3 = rowV w.heap.size (rowP 14)) := Lib.hid rfl
 generalize rowP 14 = R at *
 go_enter Try.func26, Try.ntmps26
 go_wp2
 go_returns
 exact ⟨_, rfl, HP.out, HB.out, HV.out⟩
set_option maxRecDepth 100000 in
set_option maxHeartbeats 8000000 in
theorem rowOf_17 (w : World) :
  Calls Try.prog 26 #[.int .i64 17] w fun e w' => ∃ v, e = .returned v ∧ PlS 73 w' w.heap.size v (rowP 17) ∧ Below w.heap.size w w' ∧ v = rowV w.heap.size (rowP 17) := by
 have HP : Hid (PlS 73 (w.alloc (.cells #[.int .i64 18, .int .i64 0, .int .i64 18, .int .i64 2] 73)) w.heap.size (.slice (some ⟨w.heap.size, 0, none⟩) 2 2) (rowP 17)) := Lib.hid (World.ownsRow_lit w #[.int .i64 18, .int .i64 0, .int .i64 18, .int .i64 2] 2 (Nat.le_refl _) (by unfold maxLen; omega) rfl)
 have HB : Hid (Below w.heap.size w (w.alloc (.cells #[.int .i64 18, .int .i64 0, .int .i64 18, .int .i64 2] 73))) := Lib.hid ((Below.refl _ _).alloc (Nat.le_refl _) _)
 have HV : Hid (Value.slice (some ⟨w.heap.size, 0, none⟩) 2 2 = rowV w.heap.size (rowP 17)) := Lib.hid rfl
 generalize rowP 17 = R at *
 go_enter Try.func26, Try.ntmps26
 go_wp2
 go_returns
 exact ⟨_, rfl, HP.out, HB.out, HV.out⟩
set_option maxRecDepth 100000 in
set_option maxHeartbeats 8000000 in
theorem rowOf_18 (w : World) :
  Calls Try.prog 26 #[.int .i64 18] w fun e w' => ∃ v, e = .returned v ∧ PlS 73 w' w.heap.size v (rowP 18) ∧ Below w.heap.size w w' ∧ v = rowV w.heap.size (rowP 18) := by
 have HP : Hid (PlS 73 (w.alloc (.cells #[.int .i64 5, .int .i64 0, .int .i64 19, .int .i64 1, .int .i64 20, .int .i64 0] 73)) w.heap.size (.slice (some ⟨w.heap.size, 0, none⟩) 3 3) (rowP 18)) := Lib.hid (World.ownsRow_lit w #[.int .i64 5, .int .i64 0, .int .i64 19, .int .i64 1, .int .i64 20, .int .i64 0] 3 (Nat.le_refl _) (by unfold maxLen; omega) rfl)
 have HB : Hid (Below w.heap.size w (w.alloc (.cells #[.int .i64 5, .int .i64 0, .int .i64 19, .int .i64 1, .int .i64 20, .int .i64 0] 73))) := Lib.hid ((Below.refl _ _).alloc (Nat.le_refl _) _)
 have HV : Hid (Value.slice (some ⟨w.heap.size, 0, none⟩) 3 3 = rowV w.heap.size (rowP 18)) := Lib.hid rfl
 generalize rowP 18 = R at *
 go_enter Try.func26, Try.ntmps26
 go_wp2
 go_returns
 exact ⟨_, rfl, HP.out, HB.out, HV.out⟩
set_option maxRecDepth 100000 in
set_option maxHeartbeats 8000000 in
theorem rowOf_21 (w : World) :
  Calls Try.prog 26 #[.int .i64 21] w fun e w' => ∃ v, e = .returned v ∧ PlS 73 w' w.heap.size v (rowP 21) ∧ Below w.heap.size w w' ∧ v = rowV w.heap.size (rowP 21) := by
 have HP : Hid (PlS 73 (w.alloc (.cells #[.int .i64 17, .int .i64 0] 73)) w.heap.size (.slice (some ⟨w.heap.size, 0, none⟩) 1 1) (rowP 21)) := Lib.hid (World.ownsRow_lit w #[.int .i64 17, .int .i64 0] 1 (Nat.le_refl _) (by unfold maxLen; omega) rfl)
 have HB : Hid (Below w.heap.size w (w.alloc (.cells #[.int .i64 17, .int .i64 0] 73))) := Lib.hid ((Below.refl _ _).alloc (Nat.le_refl _) _)
 have HV : Hid (Value.slice (some ⟨w.heap.size, 0, none⟩) 1 1 = rowV w.heap.size (rowP 21)) := Lib.hid rfl
 generalize rowP 21 = R at *
 go_enter Try.func26, Try.ntmps26
 go_wp2
 go_returns
 exact ⟨_, rfl, HP.out, HB.out, HV.out⟩
set_option maxRecDepth 100000 in
set_option maxHeartbeats 8000000 in
theorem rowOf_any (p : Int) (w : World) :
  Calls Try.prog 26 #[.int .i64 p] w fun e w' => ∃ v, e = .returned v ∧ PlS 73 w' w.heap.size v (rowP p) ∧ Below w.heap.size w w' ∧ v = rowV w.heap.size (rowP p) := by
 by_cases e0 : p = 0
 ·subst e0; exact rowOf_0 w
 by_cases e1 : p = 1
 ·subst e1; exact rowOf_1 w
 by_cases e2 : p = 2
 ·subst e2; exact rowOf_2 w
 by_cases e4 : p = 4
 ·subst e4; exact rowOf_4 w
 by_cases e6 : p = 6
 ·subst e6; exact rowOf_6 w
 by_cases e7 : p = 7
 ·subst e7; exact rowOf_7 w
 by_cases e8 : p = 8
 ·subst e8; exact rowOf_8 w
 by_cases e9 : p = 9
 ·subst e9; exact rowOf_9 w
 by_cases e13 : p = 13
 ·subst e13; exact rowOf_13 w
 by_cases e14 : p = 14
 ·subst e14; exact rowOf_14 w
 by_cases e17 : p = 17
 ·subst e17; exact rowOf_17 w
 by_cases e18 : p = 18
 ·subst e18; exact rowOf_18 w
 by_cases e21 : p = 21
 ·subst e21; exact rowOf_21 w
 have hn : rowP p = [] := by unfold rowP; rw [rowG_none p ⟨e0, e1, e2, e4, e6, e7, e8, e9, e13, e14, e17, e18, e21⟩]; rfl
 rw [hn]
 have b0 : (p == 0) = false := by simpa using e0
 have b1 : (p == 1) = false := by simpa using e1
 have b2 : (p == 2) = false := by simpa using e2
 have b4 : (p == 4) = false := by simpa using e4
 have b6 : (p == 6) = false := by simpa using e6
 have b7 : (p == 7) = false := by simpa using e7
 have b8 : (p == 8) = false := by simpa using e8
 have b9 : (p == 9) = false := by simpa using e9
 have b13 : (p == 13) = false := by simpa using e13
 have b14 : (p == 14) = false := by simpa using e14
 have b17 : (p == 17) = false := by simpa using e17
 have b18 : (p == 18) = false := by simpa using e18
 have b21 : (p == 21) = false := by simpa using e21
 go_enter Try.func26, Try.ntmps26
 go_wp2
 go_returns
 exact ⟨_, rfl, World.ownsRow_nil w _ _ _, Below.refl _ _, rfl⟩
end Go.Proofs.Ytiiimhamfibdbaa
/- What the landed code's look at a head's class, form and tag gives: slices.Index, slices.Contains over ints, and isUniversal. Of every argument. -/
namespace Go.Proofs.Ytiiimhamfibdbaa
open Go.RowKit Go.PlainAid
set_option linter.unusedVariables false
set_option maxRecDepth 100000 in
set_option maxHeartbeats 4000000 in
theorem indexInt_any (g : Nat) (L : List Int) (t : Int) (hl : L.length ≤ 1000) (w : World) (h : Row w g 3 (L.map (Value.int .i64))) :
  Calls Try.prog 66 #[.slice (some ⟨g, 0, none⟩) L.length L.length, .int .i64 t] w fun e w' => (∃ n : Int, e = .returned (.int .i64 n) ∧ (0 ≤ n ↔ t ∈ L)) ∧ w' = w := by
 have hq : ∀ i (hi : i < L.length), w.cell? ⟨g, i, none⟩ = some (.int .i64 L[i]) := fun i hi => by rw [h.cell]; simp [hi]
 have HC := Lib.hid hq
 clear h hq
 go_enter Try.func66, Try.ntmps66
 go_wp2_with fail
 go_loopg [8] L.length (fun gk iv wr => ∃ i : Nat, iv = .int .i64 (i : Int) ∧ i ≤ L.length ∧ L.length - i ≤ gk ∧ w = wr ∧ Hid (∀ j (hj : j < L.length), j < i → t ≠ L[j]))
 case atStart => exact ⟨0, rfl, by omega, by omega, rfl, Lib.hid (fun j _ h => by omega)⟩
 case round =>
  obtain ⟨i, rfl, hi, hgk, rfl, HP⟩ := hrel
  by_cases hlt : i < L.length
  ·have hlt2 : (i : Int) < (L.length : Int) := by omega
   have hx := HC.out i hlt
   by_cases hg : t = L[i]
   ·have HT : Hid (t ∈ L) := Lib.hid (by rw [hg]; exact List.getElem_mem hlt)
    have hb : (t == L[i]) = true := by simpa using hg
    generalize L[i] = x at *
    clear HP HC hg
    go_wp2_with fail
    go_returns
    exact ⟨⟨_, rfl, fun _ => HT.out, fun _ => by omega⟩, rfl⟩
   ·have hb : (t == L[i]) = false := by simpa using hg
    have HP2 : Hid (∀ j (hj : j < L.length), j < i + 1 → t ≠ L[j]) := Lib.hid (fun j hj h => by
     by_cases e : j = i
     ·subst e; exact hg
     ·exact HP.out j hj (by omega))
    generalize hxx : L[i] = x at *
    clear HP hxx
    go_wp2_with fail
    go_roundg (L.length - (i + 1))
    case measure => omega
    case rel => exact ⟨i + 1, by simp, by omega, by omega, rfl, HP2⟩
  ·have hlt2 : ¬ (i : Int) < (L.length : Int) := by omega
   have HF : Hid (¬ t ∈ L) := Lib.hid (by
    intro hx
    obtain ⟨j, hj, e⟩ := List.getElem_of_mem hx
    exact HP.out j hj (by omega) e.symm)
   clear HP HC
   go_wp2_with fail
   go_returns
   exact ⟨⟨_, rfl, fun h => by omega, fun h => absurd h HF.out⟩, rfl⟩
theorem containsInt_any (g : Nat) (L : List Int) (t : Int) (hl : L.length ≤ 1000) (w : World) (h : Row w g 3 (L.map (Value.int .i64))) :
  Calls Try.prog 56 #[.slice (some ⟨g, 0, none⟩) L.length L.length, .int .i64 t] w fun e w' => e = .returned (.bool (decide (t ∈ L))) ∧ w' = w := by
 have HI := Lib.hid (indexInt_any g L t hl w h)
 clear h
 go_enter Try.func56, Try.ntmps56
 go_wp2_with fail
 refine HI.out.mono ?_
 rintro e w1 ⟨⟨n, rfl, hn⟩, rfl⟩
 have hd : decide (0 ≤ n) = decide (t ∈ L) := decide_eq_decide.2 hn
 clear HI hn
 go_wp2
 go_returns
 first | exact ⟨rfl, rfl⟩ | exact ⟨rets1 (congrArg Value.bool hd), rfl⟩
set_option maxRecDepth 100000 in
set_option maxHeartbeats 8000000 in
theorem isUniv_any (g : Nat) (L : List Int) (c t : Int) (f : Bool) (n : Int) (q : Bool) (hl : L.length ≤ 1000) (w : World) (h : Row w g 3 (L.map (Value.int .i64))) :
  Calls Try.prog 40 #[.agg #[.int .i64 c, .int .i64 t, .bool f, .int .i64 n], .bool q, .slice (some ⟨g, 0, none⟩) L.length L.length] w fun e w' => e = .returned (.bool (decide (c = 0) && (f == q) && decide (t ∈ L))) ∧ Below w.heap.size w w' := by
 have hb : Below w.heap.size w (w.alloc (.cells #[.int .i64 c, .int .i64 t, .bool f, .int .i64 n] 32)) := (Below.refl _ _).alloc (Nat.le_refl _) _
 have HB1 := Lib.hid hb
 have HR1 : Hid (Row (w.alloc (.cells #[.int .i64 c, .int .i64 t, .bool f, .int .i64 n] 32)) w.heap.size 32 [.int .i64 c, .int .i64 t, .bool f, .int .i64 n]) := Lib.hid (Row.new w _ [.int .i64 c, .int .i64 t, .bool f, .int .i64 n])
 have HQ := Lib.hid (containsInt_any g L t hl _ (h.below hb h.lt))
 clear h hb
 by_cases hc : c = 0
 ·subst hc
  by_cases hf : f = q
  ·subst hf
   have HO : Hid (decide (t ∈ L) = (decide ((0 : Int) = 0) && (f == f) && decide (t ∈ L))) := Lib.hid (by simp)
   have hff : (f == f) = true := by simp
   go_enter Try.func40, Try.ntmps40
   go_wp2_with fail
   refine HQ.out.mono ?_
   rintro e w1 ⟨rfl, rfl⟩
   go_wp2
   go_returns
   first | exact ⟨rets1 (congrArg Value.bool HO.out), HB1.out⟩ | exact ⟨rfl, HB1.out⟩
  ·have hff : (f == q) = false := by simpa using hf
   have HO : Hid (false = (decide ((0 : Int) = 0) && (f == q) && decide (t ∈ L))) := Lib.hid (by rw [hff]; simp)
   go_enter Try.func40, Try.ntmps40
   go_wp2
   go_returns
   first | exact ⟨rets1 (congrArg Value.bool HO.out), HB1.out⟩ | exact ⟨rfl, HB1.out⟩
 ·have bc : (c == 0) = false := by simpa using hc
  have HO : Hid (false = (decide (c = 0) && (f == q) && decide (t ∈ L))) := Lib.hid (by simp [hc])
  go_enter Try.func40, Try.ntmps40
  go_wp2
  go_returns
  first | exact ⟨rets1 (congrArg Value.bool HO.out), HB1.out⟩ | exact ⟨rfl, HB1.out⟩
end Go.Proofs.Ytiiimhamfibdbaa
/- What the landed code's isOf gives: is a head the element of a part? Of each of the 22 parts, and every head. -/
namespace Go.Proofs.Ytiiimhamfibdbaa
open Go.RowKit Go.PlainAid
set_option linter.unusedVariables false
set_option linter.unusedSimpArgs false
def hdA (c t : Int) (f : Bool) (n : Int) : Obj := .cells #[.int .i64 c, .int .i64 t, .bool f, .int .i64 n] 32
theorem isUniv_on (w : World) (c t : Int) (f : Bool) (n : Int) (q : Bool) (L : List Int) (hl : L.length ≤ 1000) :
  Calls Try.prog 40 #[.agg #[.int .i64 c, .int .i64 t, .bool f, .int .i64 n], .bool q, .slice (some ⟨w.heap.size + 1, 0, none⟩) L.length L.length] ((w.alloc (hdA c t f n)).alloc (.cells (L.map (Value.int .i64)).toArray 3)) fun e w' => e = .returned (.bool (decide (c = 0) && (f == q) && decide (t ∈ L))) ∧ Below w.heap.size w w' ∧ Row w' w.heap.size 32 [.int .i64 c, .int .i64 t, .bool f, .int .i64 n] := by
 have hr := Row.new (w.alloc (hdA c t f n)) 3 (L.map (Value.int .i64))
 have hs : (w.alloc (hdA c t f n)).heap.size = w.heap.size + 1 := by simp
 rw [hs] at hr
 have hb : Below w.heap.size w ((w.alloc (hdA c t f n)).alloc (.cells (L.map (Value.int .i64)).toArray 3)) := ((Below.refl _ _).alloc (Nat.le_refl _) _).alloc (by simp) _
 have hd : Row ((w.alloc (hdA c t f n)).alloc (.cells (L.map (Value.int .i64)).toArray 3)) w.heap.size 32 [.int .i64 c, .int .i64 t, .bool f, .int .i64 n] := (Row.new w 32 [.int .i64 c, .int .i64 t, .bool f, .int .i64 n]).alloc _
 refine (isUniv_any _ L c t f n q hl _ hr).mono ?_
 rintro e w' ⟨rfl, h⟩
 exact ⟨rfl, hb.trans (h.mono hb.size), hd.below h hd.lt⟩
set_option maxRecDepth 100000 in
set_option maxHeartbeats 8000000 in
theorem isOf_1 (c t : Int) (f : Bool) (n : Int) (w : World) :
  Calls Try.prog 27 #[.int .i64 1, .agg #[.int .i64 c, .int .i64 t, .bool f, .int .i64 n]] w fun e w' => e = .returned (.bool (fitsG 1 c t f n)) ∧ Below w.heap.size w w' := by
 have HQ : Hid (Calls Try.prog 40 #[.agg #[.int .i64 c, .int .i64 t, .bool f, .int .i64 n], .bool true, .slice (some ⟨w.heap.size + 1, 0, none⟩) 1 1] ((w.alloc (.cells #[.int .i64 c, .int .i64 t, .bool f, .int .i64 n] 32)).alloc (.cells #[.int .i64 16] 3)) fun e w' => e = .returned (.bool (decide (c = 0) && (f == true) && decide (t ∈ ([16] : List Int)))) ∧ Below w.heap.size w w' ∧ Row w' w.heap.size 32 [.int .i64 c, .int .i64 t, .bool f, .int .i64 n]) := Lib.hid (isUniv_on w c t f n true [16] (by decide))
 have HO : Hid ((decide (c = 0) && (f == true) && decide (t ∈ ([16] : List Int))) = fitsG 1 c t f n) := Lib.hid (by
  by_cases hc : c = 0
  ·cases f <;> simp [fitsG, rowG, hc, Bool.or_assoc]
  ·simp [fitsG, rowG, hc])
 generalize (decide (c = 0) && (f == true) && decide (t ∈ ([16] : List Int))) = r at *
 go_enter Try.func27, Try.ntmps27
 go_wp2_with fail
 refine HQ.out.mono ?_
 rintro e w1 ⟨rfl, h1, _⟩
 go_wp2
 go_returns
 exact ⟨rets1 (congrArg Value.bool HO.out), h1⟩
set_option maxRecDepth 100000 in
set_option maxHeartbeats 8000000 in
theorem isOf_2 (c t : Int) (f : Bool) (n : Int) (w : World) :
  Calls Try.prog 27 #[.int .i64 2, .agg #[.int .i64 c, .int .i64 t, .bool f, .int .i64 n]] w fun e w' => e = .returned (.bool (fitsG 2 c t f n)) ∧ Below w.heap.size w w' := by
 have HQ : Hid (Calls Try.prog 40 #[.agg #[.int .i64 c, .int .i64 t, .bool f, .int .i64 n], .bool true, .slice (some ⟨w.heap.size + 1, 0, none⟩) 1 1] ((w.alloc (.cells #[.int .i64 c, .int .i64 t, .bool f, .int .i64 n] 32)).alloc (.cells #[.int .i64 16] 3)) fun e w' => e = .returned (.bool (decide (c = 0) && (f == true) && decide (t ∈ ([16] : List Int)))) ∧ Below w.heap.size w w' ∧ Row w' w.heap.size 32 [.int .i64 c, .int .i64 t, .bool f, .int .i64 n]) := Lib.hid (isUniv_on w c t f n true [16] (by decide))
 have HO : Hid ((decide (c = 0) && (f == true) && decide (t ∈ ([16] : List Int))) = fitsG 2 c t f n) := Lib.hid (by
  by_cases hc : c = 0
  ·cases f <;> simp [fitsG, rowG, hc, Bool.or_assoc]
  ·simp [fitsG, rowG, hc])
 generalize (decide (c = 0) && (f == true) && decide (t ∈ ([16] : List Int))) = r at *
 go_enter Try.func27, Try.ntmps27
 go_wp2_with fail
 refine HQ.out.mono ?_
 rintro e w1 ⟨rfl, h1, _⟩
 go_wp2
 go_returns
 exact ⟨rets1 (congrArg Value.bool HO.out), h1⟩
set_option maxRecDepth 100000 in
set_option maxHeartbeats 8000000 in
theorem isOf_3 (c t : Int) (f : Bool) (n : Int) (w : World) :
  Calls Try.prog 27 #[.int .i64 3, .agg #[.int .i64 c, .int .i64 t, .bool f, .int .i64 n]] w fun e w' => e = .returned (.bool (fitsG 3 c t f n)) ∧ Below w.heap.size w w' := by
 have HQ : Hid (Calls Try.prog 40 #[.agg #[.int .i64 c, .int .i64 t, .bool f, .int .i64 n], .bool false, .slice (some ⟨w.heap.size + 1, 0, none⟩) 1 1] ((w.alloc (.cells #[.int .i64 c, .int .i64 t, .bool f, .int .i64 n] 32)).alloc (.cells #[.int .i64 2] 3)) fun e w' => e = .returned (.bool (decide (c = 0) && (f == false) && decide (t ∈ ([2] : List Int)))) ∧ Below w.heap.size w w' ∧ Row w' w.heap.size 32 [.int .i64 c, .int .i64 t, .bool f, .int .i64 n]) := Lib.hid (isUniv_on w c t f n false [2] (by decide))
 have HO : Hid (((decide (c = 0) && (f == false) && decide (t ∈ ([2] : List Int))) && decide (n = 1)) = fitsG 3 c t f n) := Lib.hid (by
  by_cases hc : c = 0
  ·cases f <;> simp [fitsG, rowG, hc]
  ·simp [fitsG, rowG, hc])
 generalize (decide (c = 0) && (f == false) && decide (t ∈ ([2] : List Int))) = r at *
 go_enter Try.func27, Try.ntmps27
 go_wp2_with fail
 refine HQ.out.mono ?_
 rintro e w1 ⟨rfl, h1, h2⟩
 have k3 : w1.cell? ⟨w.heap.size, 3, none⟩ = some (.int .i64 n) := by rw [h2.cell]; rfl
 clear h2 HQ
 cases r
 ·go_wp2
  go_returns
  exact ⟨rets1 (congrArg Value.bool (by rw [← HO.out]; rfl)), h1⟩
 ·go_wp2
  go_returns
  exact ⟨rets1 (congrArg Value.bool (by rw [← HO.out]; rfl)), h1⟩
set_option maxRecDepth 100000 in
set_option maxHeartbeats 8000000 in
theorem isOf_4 (c t : Int) (f : Bool) (n : Int) (w : World) :
  Calls Try.prog 27 #[.int .i64 4, .agg #[.int .i64 c, .int .i64 t, .bool f, .int .i64 n]] w fun e w' => e = .returned (.bool (fitsG 4 c t f n)) ∧ Below w.heap.size w w' := by
 have HQ : Hid (Calls Try.prog 40 #[.agg #[.int .i64 c, .int .i64 t, .bool f, .int .i64 n], .bool true, .slice (some ⟨w.heap.size + 1, 0, none⟩) 1 1] ((w.alloc (.cells #[.int .i64 c, .int .i64 t, .bool f, .int .i64 n] 32)).alloc (.cells #[.int .i64 16] 3)) fun e w' => e = .returned (.bool (decide (c = 0) && (f == true) && decide (t ∈ ([16] : List Int)))) ∧ Below w.heap.size w w' ∧ Row w' w.heap.size 32 [.int .i64 c, .int .i64 t, .bool f, .int .i64 n]) := Lib.hid (isUniv_on w c t f n true [16] (by decide))
 have HO : Hid ((decide (c = 0) && (f == true) && decide (t ∈ ([16] : List Int))) = fitsG 4 c t f n) := Lib.hid (by
  by_cases hc : c = 0
  ·cases f <;> simp [fitsG, rowG, hc, Bool.or_assoc]
  ·simp [fitsG, rowG, hc])
 generalize (decide (c = 0) && (f == true) && decide (t ∈ ([16] : List Int))) = r at *
 go_enter Try.func27, Try.ntmps27
 go_wp2_with fail
 refine HQ.out.mono ?_
 rintro e w1 ⟨rfl, h1, _⟩
 go_wp2
 go_returns
 exact ⟨rets1 (congrArg Value.bool HO.out), h1⟩
set_option maxRecDepth 100000 in
set_option maxHeartbeats 8000000 in
theorem isOf_5 (c t : Int) (f : Bool) (n : Int) (w : World) :
  Calls Try.prog 27 #[.int .i64 5, .agg #[.int .i64 c, .int .i64 t, .bool f, .int .i64 n]] w fun e w' => e = .returned (.bool (fitsG 5 c t f n)) ∧ Below w.heap.size w w' := by
 have HQ : Hid (Calls Try.prog 40 #[.agg #[.int .i64 c, .int .i64 t, .bool f, .int .i64 n], .bool false, .slice (some ⟨w.heap.size + 1, 0, none⟩) 1 1] ((w.alloc (.cells #[.int .i64 c, .int .i64 t, .bool f, .int .i64 n] 32)).alloc (.cells #[.int .i64 6] 3)) fun e w' => e = .returned (.bool (decide (c = 0) && (f == false) && decide (t ∈ ([6] : List Int)))) ∧ Below w.heap.size w w' ∧ Row w' w.heap.size 32 [.int .i64 c, .int .i64 t, .bool f, .int .i64 n]) := Lib.hid (isUniv_on w c t f n false [6] (by decide))
 have HO : Hid ((decide (c = 0) && (f == false) && decide (t ∈ ([6] : List Int))) = fitsG 5 c t f n) := Lib.hid (by
  by_cases hc : c = 0
  ·cases f <;> simp [fitsG, rowG, hc, Bool.or_assoc]
  ·simp [fitsG, rowG, hc])
 generalize (decide (c = 0) && (f == false) && decide (t ∈ ([6] : List Int))) = r at *
 go_enter Try.func27, Try.ntmps27
 go_wp2_with fail
 refine HQ.out.mono ?_
 rintro e w1 ⟨rfl, h1, _⟩
 go_wp2
 go_returns
 exact ⟨rets1 (congrArg Value.bool HO.out), h1⟩
set_option maxRecDepth 100000 in
set_option maxHeartbeats 8000000 in
theorem isOf_6 (c t : Int) (f : Bool) (n : Int) (w : World) :
  Calls Try.prog 27 #[.int .i64 6, .agg #[.int .i64 c, .int .i64 t, .bool f, .int .i64 n]] w fun e w' => e = .returned (.bool (fitsG 6 c t f n)) ∧ Below w.heap.size w w' := by
 have HB1 : Hid (Below w.heap.size w (w.alloc (.cells #[.int .i64 c, .int .i64 t, .bool f, .int .i64 n] 32))) := Lib.hid ((Below.refl _ _).alloc (Nat.le_refl _) _)
 have HO : Hid (true = fitsG 6 c t f n) := Lib.hid (by simp [fitsG])
 go_enter Try.func27, Try.ntmps27
 go_wp2
 go_returns
 exact ⟨rets1 (congrArg Value.bool HO.out), HB1.out⟩
set_option maxRecDepth 100000 in
set_option maxHeartbeats 8000000 in
theorem isOf_7 (c t : Int) (f : Bool) (n : Int) (w : World) :
  Calls Try.prog 27 #[.int .i64 7, .agg #[.int .i64 c, .int .i64 t, .bool f, .int .i64 n]] w fun e w' => e = .returned (.bool (fitsG 7 c t f n)) ∧ Below w.heap.size w w' := by
 have HQ : Hid (Calls Try.prog 40 #[.agg #[.int .i64 c, .int .i64 t, .bool f, .int .i64 n], .bool true, .slice (some ⟨w.heap.size + 1, 0, none⟩) 1 1] ((w.alloc (.cells #[.int .i64 c, .int .i64 t, .bool f, .int .i64 n] 32)).alloc (.cells #[.int .i64 16] 3)) fun e w' => e = .returned (.bool (decide (c = 0) && (f == true) && decide (t ∈ ([16] : List Int)))) ∧ Below w.heap.size w w' ∧ Row w' w.heap.size 32 [.int .i64 c, .int .i64 t, .bool f, .int .i64 n]) := Lib.hid (isUniv_on w c t f n true [16] (by decide))
 have HO : Hid ((decide (c = 0) && (f == true) && decide (t ∈ ([16] : List Int))) = fitsG 7 c t f n) := Lib.hid (by
  by_cases hc : c = 0
  ·cases f <;> simp [fitsG, rowG, hc, Bool.or_assoc]
  ·simp [fitsG, rowG, hc])
 generalize (decide (c = 0) && (f == true) && decide (t ∈ ([16] : List Int))) = r at *
 go_enter Try.func27, Try.ntmps27
 go_wp2_with fail
 refine HQ.out.mono ?_
 rintro e w1 ⟨rfl, h1, _⟩
 go_wp2
 go_returns
 exact ⟨rets1 (congrArg Value.bool HO.out), h1⟩
set_option maxRecDepth 100000 in
set_option maxHeartbeats 8000000 in
theorem isOf_8 (c t : Int) (f : Bool) (n : Int) (w : World) :
  Calls Try.prog 27 #[.int .i64 8, .agg #[.int .i64 c, .int .i64 t, .bool f, .int .i64 n]] w fun e w' => e = .returned (.bool (fitsG 8 c t f n)) ∧ Below w.heap.size w w' := by
 have HQ : Hid (Calls Try.prog 40 #[.agg #[.int .i64 c, .int .i64 t, .bool f, .int .i64 n], .bool true, .slice (some ⟨w.heap.size + 1, 0, none⟩) 1 1] ((w.alloc (.cells #[.int .i64 c, .int .i64 t, .bool f, .int .i64 n] 32)).alloc (.cells #[.int .i64 17] 3)) fun e w' => e = .returned (.bool (decide (c = 0) && (f == true) && decide (t ∈ ([17] : List Int)))) ∧ Below w.heap.size w w' ∧ Row w' w.heap.size 32 [.int .i64 c, .int .i64 t, .bool f, .int .i64 n]) := Lib.hid (isUniv_on w c t f n true [17] (by decide))
 have HO : Hid ((decide (c = 0) && (f == true) && decide (t ∈ ([17] : List Int))) = fitsG 8 c t f n) := Lib.hid (by
  by_cases hc : c = 0
  ·cases f <;> simp [fitsG, rowG, hc, Bool.or_assoc]
  ·simp [fitsG, rowG, hc])
 generalize (decide (c = 0) && (f == true) && decide (t ∈ ([17] : List Int))) = r at *
 go_enter Try.func27, Try.ntmps27
 go_wp2_with fail
 refine HQ.out.mono ?_
 rintro e w1 ⟨rfl, h1, _⟩
 go_wp2
 go_returns
 exact ⟨rets1 (congrArg Value.bool HO.out), h1⟩
set_option maxRecDepth 100000 in
set_option maxHeartbeats 8000000 in
theorem isOf_9 (c t : Int) (f : Bool) (n : Int) (w : World) :
  Calls Try.prog 27 #[.int .i64 9, .agg #[.int .i64 c, .int .i64 t, .bool f, .int .i64 n]] w fun e w' => e = .returned (.bool (fitsG 9 c t f n)) ∧ Below w.heap.size w w' := by
 have HQ : Hid (Calls Try.prog 40 #[.agg #[.int .i64 c, .int .i64 t, .bool f, .int .i64 n], .bool true, .slice (some ⟨w.heap.size + 1, 0, none⟩) 1 1] ((w.alloc (.cells #[.int .i64 c, .int .i64 t, .bool f, .int .i64 n] 32)).alloc (.cells #[.int .i64 16] 3)) fun e w' => e = .returned (.bool (decide (c = 0) && (f == true) && decide (t ∈ ([16] : List Int)))) ∧ Below w.heap.size w w' ∧ Row w' w.heap.size 32 [.int .i64 c, .int .i64 t, .bool f, .int .i64 n]) := Lib.hid (isUniv_on w c t f n true [16] (by decide))
 have HO : Hid ((decide (c = 0) && (f == true) && decide (t ∈ ([16] : List Int))) = fitsG 9 c t f n) := Lib.hid (by
  by_cases hc : c = 0
  ·cases f <;> simp [fitsG, rowG, hc, Bool.or_assoc]
  ·simp [fitsG, rowG, hc])
 generalize (decide (c = 0) && (f == true) && decide (t ∈ ([16] : List Int))) = r at *
 go_enter Try.func27, Try.ntmps27
 go_wp2_with fail
 refine HQ.out.mono ?_
 rintro e w1 ⟨rfl, h1, _⟩
 go_wp2
 go_returns
 exact ⟨rets1 (congrArg Value.bool HO.out), h1⟩
set_option maxRecDepth 100000 in
set_option maxHeartbeats 8000000 in
theorem isOf_10 (c t : Int) (f : Bool) (n : Int) (w : World) :
  Calls Try.prog 27 #[.int .i64 10, .agg #[.int .i64 c, .int .i64 t, .bool f, .int .i64 n]] w fun e w' => e = .returned (.bool (fitsG 10 c t f n)) ∧ Below w.heap.size w w' := by
 have HQ : Hid (Calls Try.prog 40 #[.agg #[.int .i64 c, .int .i64 t, .bool f, .int .i64 n], .bool false, .slice (some ⟨w.heap.size + 1, 0, none⟩) 3 3] ((w.alloc (.cells #[.int .i64 c, .int .i64 t, .bool f, .int .i64 n] 32)).alloc (.cells #[.int .i64 12, .int .i64 19, .int .i64 22] 3)) fun e w' => e = .returned (.bool (decide (c = 0) && (f == false) && decide (t ∈ ([12, 19, 22] : List Int)))) ∧ Below w.heap.size w w' ∧ Row w' w.heap.size 32 [.int .i64 c, .int .i64 t, .bool f, .int .i64 n]) := Lib.hid (isUniv_on w c t f n false [12, 19, 22] (by decide))
 have HO : Hid ((decide (c = 0) && (f == false) && decide (t ∈ ([12, 19, 22] : List Int))) = fitsG 10 c t f n) := Lib.hid (by
  by_cases hc : c = 0
  ·cases f <;> simp [fitsG, rowG, hc, Bool.or_assoc]
  ·simp [fitsG, rowG, hc])
 generalize (decide (c = 0) && (f == false) && decide (t ∈ ([12, 19, 22] : List Int))) = r at *
 go_enter Try.func27, Try.ntmps27
 go_wp2_with fail
 refine HQ.out.mono ?_
 rintro e w1 ⟨rfl, h1, _⟩
 go_wp2
 go_returns
 exact ⟨rets1 (congrArg Value.bool HO.out), h1⟩
set_option maxRecDepth 100000 in
set_option maxHeartbeats 8000000 in
theorem isOf_11 (c t : Int) (f : Bool) (n : Int) (w : World) :
  Calls Try.prog 27 #[.int .i64 11, .agg #[.int .i64 c, .int .i64 t, .bool f, .int .i64 n]] w fun e w' => e = .returned (.bool (fitsG 11 c t f n)) ∧ Below w.heap.size w w' := by
 have HQ : Hid (Calls Try.prog 40 #[.agg #[.int .i64 c, .int .i64 t, .bool f, .int .i64 n], .bool false, .slice (some ⟨w.heap.size + 1, 0, none⟩) 2 2] ((w.alloc (.cells #[.int .i64 c, .int .i64 t, .bool f, .int .i64 n] 32)).alloc (.cells #[.int .i64 23, .int .i64 24] 3)) fun e w' => e = .returned (.bool (decide (c = 0) && (f == false) && decide (t ∈ ([23, 24] : List Int)))) ∧ Below w.heap.size w w' ∧ Row w' w.heap.size 32 [.int .i64 c, .int .i64 t, .bool f, .int .i64 n]) := Lib.hid (isUniv_on w c t f n false [23, 24] (by decide))
 have HO : Hid ((decide (c = 0) && (f == false) && decide (t ∈ ([23, 24] : List Int))) = fitsG 11 c t f n) := Lib.hid (by
  by_cases hc : c = 0
  ·cases f <;> simp [fitsG, rowG, hc, Bool.or_assoc]
  ·simp [fitsG, rowG, hc])
 generalize (decide (c = 0) && (f == false) && decide (t ∈ ([23, 24] : List Int))) = r at *
 go_enter Try.func27, Try.ntmps27
 go_wp2_with fail
 refine HQ.out.mono ?_
 rintro e w1 ⟨rfl, h1, _⟩
 go_wp2
 go_returns
 exact ⟨rets1 (congrArg Value.bool HO.out), h1⟩
set_option maxRecDepth 100000 in
set_option maxHeartbeats 8000000 in
theorem isOf_12 (c t : Int) (f : Bool) (n : Int) (w : World) :
  Calls Try.prog 27 #[.int .i64 12, .agg #[.int .i64 c, .int .i64 t, .bool f, .int .i64 n]] w fun e w' => e = .returned (.bool (fitsG 12 c t f n)) ∧ Below w.heap.size w w' := by
 have HQ : Hid (Calls Try.prog 40 #[.agg #[.int .i64 c, .int .i64 t, .bool f, .int .i64 n], .bool false, .slice (some ⟨w.heap.size + 1, 0, none⟩) 2 2] ((w.alloc (.cells #[.int .i64 c, .int .i64 t, .bool f, .int .i64 n] 32)).alloc (.cells #[.int .i64 23, .int .i64 24] 3)) fun e w' => e = .returned (.bool (decide (c = 0) && (f == false) && decide (t ∈ ([23, 24] : List Int)))) ∧ Below w.heap.size w w' ∧ Row w' w.heap.size 32 [.int .i64 c, .int .i64 t, .bool f, .int .i64 n]) := Lib.hid (isUniv_on w c t f n false [23, 24] (by decide))
 have HO : Hid ((decide (c = 0) && (f == false) && decide (t ∈ ([23, 24] : List Int))) = fitsG 12 c t f n) := Lib.hid (by
  by_cases hc : c = 0
  ·cases f <;> simp [fitsG, rowG, hc, Bool.or_assoc]
  ·simp [fitsG, rowG, hc])
 generalize (decide (c = 0) && (f == false) && decide (t ∈ ([23, 24] : List Int))) = r at *
 go_enter Try.func27, Try.ntmps27
 go_wp2_with fail
 refine HQ.out.mono ?_
 rintro e w1 ⟨rfl, h1, _⟩
 go_wp2
 go_returns
 exact ⟨rets1 (congrArg Value.bool HO.out), h1⟩
set_option maxRecDepth 100000 in
set_option maxHeartbeats 8000000 in
theorem isOf_13 (c t : Int) (f : Bool) (n : Int) (w : World) :
  Calls Try.prog 27 #[.int .i64 13, .agg #[.int .i64 c, .int .i64 t, .bool f, .int .i64 n]] w fun e w' => e = .returned (.bool (fitsG 13 c t f n)) ∧ Below w.heap.size w w' := by
 have HQ : Hid (Calls Try.prog 40 #[.agg #[.int .i64 c, .int .i64 t, .bool f, .int .i64 n], .bool true, .slice (some ⟨w.heap.size + 1, 0, none⟩) 1 1] ((w.alloc (.cells #[.int .i64 c, .int .i64 t, .bool f, .int .i64 n] 32)).alloc (.cells #[.int .i64 16] 3)) fun e w' => e = .returned (.bool (decide (c = 0) && (f == true) && decide (t ∈ ([16] : List Int)))) ∧ Below w.heap.size w w' ∧ Row w' w.heap.size 32 [.int .i64 c, .int .i64 t, .bool f, .int .i64 n]) := Lib.hid (isUniv_on w c t f n true [16] (by decide))
 have HO : Hid ((decide (c = 0) && (f == true) && decide (t ∈ ([16] : List Int))) = fitsG 13 c t f n) := Lib.hid (by
  by_cases hc : c = 0
  ·cases f <;> simp [fitsG, rowG, hc, Bool.or_assoc]
  ·simp [fitsG, rowG, hc])
 generalize (decide (c = 0) && (f == true) && decide (t ∈ ([16] : List Int))) = r at *
 go_enter Try.func27, Try.ntmps27
 go_wp2_with fail
 refine HQ.out.mono ?_
 rintro e w1 ⟨rfl, h1, _⟩
 go_wp2
 go_returns
 exact ⟨rets1 (congrArg Value.bool HO.out), h1⟩
set_option maxRecDepth 100000 in
set_option maxHeartbeats 8000000 in
theorem isOf_14 (c t : Int) (f : Bool) (n : Int) (w : World) :
  Calls Try.prog 27 #[.int .i64 14, .agg #[.int .i64 c, .int .i64 t, .bool f, .int .i64 n]] w fun e w' => e = .returned (.bool (fitsG 14 c t f n)) ∧ Below w.heap.size w w' := by
 have HQ : Hid (Calls Try.prog 40 #[.agg #[.int .i64 c, .int .i64 t, .bool f, .int .i64 n], .bool true, .slice (some ⟨w.heap.size + 1, 0, none⟩) 1 1] ((w.alloc (.cells #[.int .i64 c, .int .i64 t, .bool f, .int .i64 n] 32)).alloc (.cells #[.int .i64 16] 3)) fun e w' => e = .returned (.bool (decide (c = 0) && (f == true) && decide (t ∈ ([16] : List Int)))) ∧ Below w.heap.size w w' ∧ Row w' w.heap.size 32 [.int .i64 c, .int .i64 t, .bool f, .int .i64 n]) := Lib.hid (isUniv_on w c t f n true [16] (by decide))
 have HO : Hid ((decide (c = 0) && (f == true) && decide (t ∈ ([16] : List Int))) = fitsG 14 c t f n) := Lib.hid (by
  by_cases hc : c = 0
  ·cases f <;> simp [fitsG, rowG, hc, Bool.or_assoc]
  ·simp [fitsG, rowG, hc])
 generalize (decide (c = 0) && (f == true) && decide (t ∈ ([16] : List Int))) = r at *
 go_enter Try.func27, Try.ntmps27
 go_wp2_with fail
 refine HQ.out.mono ?_
 rintro e w1 ⟨rfl, h1, _⟩
 go_wp2
 go_returns
 exact ⟨rets1 (congrArg Value.bool HO.out), h1⟩
set_option maxRecDepth 100000 in
set_option maxHeartbeats 8000000 in
theorem isOf_15 (c t : Int) (f : Bool) (n : Int) (w : World) :
  Calls Try.prog 27 #[.int .i64 15, .agg #[.int .i64 c, .int .i64 t, .bool f, .int .i64 n]] w fun e w' => e = .returned (.bool (fitsG 15 c t f n)) ∧ Below w.heap.size w w' := by
 have HQ : Hid (Calls Try.prog 40 #[.agg #[.int .i64 c, .int .i64 t, .bool f, .int .i64 n], .bool false, .slice (some ⟨w.heap.size + 1, 0, none⟩) 1 1] ((w.alloc (.cells #[.int .i64 c, .int .i64 t, .bool f, .int .i64 n] 32)).alloc (.cells #[.int .i64 2] 3)) fun e w' => e = .returned (.bool (decide (c = 0) && (f == false) && decide (t ∈ ([2] : List Int)))) ∧ Below w.heap.size w w' ∧ Row w' w.heap.size 32 [.int .i64 c, .int .i64 t, .bool f, .int .i64 n]) := Lib.hid (isUniv_on w c t f n false [2] (by decide))
 have HO : Hid ((decide (c = 0) && (f == false) && decide (t ∈ ([2] : List Int))) = fitsG 15 c t f n) := Lib.hid (by
  by_cases hc : c = 0
  ·cases f <;> simp [fitsG, rowG, hc, Bool.or_assoc]
  ·simp [fitsG, rowG, hc])
 generalize (decide (c = 0) && (f == false) && decide (t ∈ ([2] : List Int))) = r at *
 go_enter Try.func27, Try.ntmps27
 go_wp2_with fail
 refine HQ.out.mono ?_
 rintro e w1 ⟨rfl, h1, _⟩
 go_wp2
 go_returns
 exact ⟨rets1 (congrArg Value.bool HO.out), h1⟩
set_option maxRecDepth 100000 in
set_option maxHeartbeats 8000000 in
theorem isOf_16 (c t : Int) (f : Bool) (n : Int) (w : World) :
  Calls Try.prog 27 #[.int .i64 16, .agg #[.int .i64 c, .int .i64 t, .bool f, .int .i64 n]] w fun e w' => e = .returned (.bool (fitsG 16 c t f n)) ∧ Below w.heap.size w w' := by
 have HQ : Hid (Calls Try.prog 40 #[.agg #[.int .i64 c, .int .i64 t, .bool f, .int .i64 n], .bool false, .slice (some ⟨w.heap.size + 1, 0, none⟩) 2 2] ((w.alloc (.cells #[.int .i64 c, .int .i64 t, .bool f, .int .i64 n] 32)).alloc (.cells #[.int .i64 23, .int .i64 24] 3)) fun e w' => e = .returned (.bool (decide (c = 0) && (f == false) && decide (t ∈ ([23, 24] : List Int)))) ∧ Below w.heap.size w w' ∧ Row w' w.heap.size 32 [.int .i64 c, .int .i64 t, .bool f, .int .i64 n]) := Lib.hid (isUniv_on w c t f n false [23, 24] (by decide))
 have HO : Hid ((decide (c = 0) && (f == false) && decide (t ∈ ([23, 24] : List Int))) = fitsG 16 c t f n) := Lib.hid (by
  by_cases hc : c = 0
  ·cases f <;> simp [fitsG, rowG, hc, Bool.or_assoc]
  ·simp [fitsG, rowG, hc])
 generalize (decide (c = 0) && (f == false) && decide (t ∈ ([23, 24] : List Int))) = r at *
 go_enter Try.func27, Try.ntmps27
 go_wp2_with fail
 refine HQ.out.mono ?_
 rintro e w1 ⟨rfl, h1, _⟩
 go_wp2
 go_returns
 exact ⟨rets1 (congrArg Value.bool HO.out), h1⟩
set_option maxRecDepth 100000 in
set_option maxHeartbeats 8000000 in
theorem isOf_17 (c t : Int) (f : Bool) (n : Int) (w : World) :
  Calls Try.prog 27 #[.int .i64 17, .agg #[.int .i64 c, .int .i64 t, .bool f, .int .i64 n]] w fun e w' => e = .returned (.bool (fitsG 17 c t f n)) ∧ Below w.heap.size w w' := by
 have HQ : Hid (Calls Try.prog 40 #[.agg #[.int .i64 c, .int .i64 t, .bool f, .int .i64 n], .bool true, .slice (some ⟨w.heap.size + 1, 0, none⟩) 1 1] ((w.alloc (.cells #[.int .i64 c, .int .i64 t, .bool f, .int .i64 n] 32)).alloc (.cells #[.int .i64 16] 3)) fun e w' => e = .returned (.bool (decide (c = 0) && (f == true) && decide (t ∈ ([16] : List Int)))) ∧ Below w.heap.size w w' ∧ Row w' w.heap.size 32 [.int .i64 c, .int .i64 t, .bool f, .int .i64 n]) := Lib.hid (isUniv_on w c t f n true [16] (by decide))
 have HO : Hid ((decide (c = 0) && (f == true) && decide (t ∈ ([16] : List Int))) = fitsG 17 c t f n) := Lib.hid (by
  by_cases hc : c = 0
  ·cases f <;> simp [fitsG, rowG, hc, Bool.or_assoc]
  ·simp [fitsG, rowG, hc])
 generalize (decide (c = 0) && (f == true) && decide (t ∈ ([16] : List Int))) = r at *
 go_enter Try.func27, Try.ntmps27
 go_wp2_with fail
 refine HQ.out.mono ?_
 rintro e w1 ⟨rfl, h1, _⟩
 go_wp2
 go_returns
 exact ⟨rets1 (congrArg Value.bool HO.out), h1⟩
set_option maxRecDepth 100000 in
set_option maxHeartbeats 8000000 in
theorem isOf_18 (c t : Int) (f : Bool) (n : Int) (w : World) :
  Calls Try.prog 27 #[.int .i64 18, .agg #[.int .i64 c, .int .i64 t, .bool f, .int .i64 n]] w fun e w' => e = .returned (.bool (fitsG 18 c t f n)) ∧ Below w.heap.size w w' := by
 have HQ : Hid (Calls Try.prog 40 #[.agg #[.int .i64 c, .int .i64 t, .bool f, .int .i64 n], .bool true, .slice (some ⟨w.heap.size + 1, 0, none⟩) 1 1] ((w.alloc (.cells #[.int .i64 c, .int .i64 t, .bool f, .int .i64 n] 32)).alloc (.cells #[.int .i64 16] 3)) fun e w' => e = .returned (.bool (decide (c = 0) && (f == true) && decide (t ∈ ([16] : List Int)))) ∧ Below w.heap.size w w' ∧ Row w' w.heap.size 32 [.int .i64 c, .int .i64 t, .bool f, .int .i64 n]) := Lib.hid (isUniv_on w c t f n true [16] (by decide))
 have HO : Hid ((decide (c = 0) && (f == true) && decide (t ∈ ([16] : List Int))) = fitsG 18 c t f n) := Lib.hid (by
  by_cases hc : c = 0
  ·cases f <;> simp [fitsG, rowG, hc, Bool.or_assoc]
  ·simp [fitsG, rowG, hc])
 generalize (decide (c = 0) && (f == true) && decide (t ∈ ([16] : List Int))) = r at *
 go_enter Try.func27, Try.ntmps27
 go_wp2_with fail
 refine HQ.out.mono ?_
 rintro e w1 ⟨rfl, h1, _⟩
 go_wp2
 go_returns
 exact ⟨rets1 (congrArg Value.bool HO.out), h1⟩
set_option maxRecDepth 100000 in
set_option maxHeartbeats 8000000 in
theorem isOf_19 (c t : Int) (f : Bool) (n : Int) (w : World) :
  Calls Try.prog 27 #[.int .i64 19, .agg #[.int .i64 c, .int .i64 t, .bool f, .int .i64 n]] w fun e w' => e = .returned (.bool (fitsG 19 c t f n)) ∧ Below w.heap.size w w' := by
 have HQ : Hid (Calls Try.prog 40 #[.agg #[.int .i64 c, .int .i64 t, .bool f, .int .i64 n], .bool false, .slice (some ⟨w.heap.size + 1, 0, none⟩) 1 1] ((w.alloc (.cells #[.int .i64 c, .int .i64 t, .bool f, .int .i64 n] 32)).alloc (.cells #[.int .i64 1] 3)) fun e w' => e = .returned (.bool (decide (c = 0) && (f == false) && decide (t ∈ ([1] : List Int)))) ∧ Below w.heap.size w w' ∧ Row w' w.heap.size 32 [.int .i64 c, .int .i64 t, .bool f, .int .i64 n]) := Lib.hid (isUniv_on w c t f n false [1] (by decide))
 have HO : Hid ((decide (c = 0) && (f == false) && decide (t ∈ ([1] : List Int))) = fitsG 19 c t f n) := Lib.hid (by
  by_cases hc : c = 0
  ·cases f <;> simp [fitsG, rowG, hc, Bool.or_assoc]
  ·simp [fitsG, rowG, hc])
 generalize (decide (c = 0) && (f == false) && decide (t ∈ ([1] : List Int))) = r at *
 go_enter Try.func27, Try.ntmps27
 go_wp2_with fail
 refine HQ.out.mono ?_
 rintro e w1 ⟨rfl, h1, _⟩
 go_wp2
 go_returns
 exact ⟨rets1 (congrArg Value.bool HO.out), h1⟩
set_option maxRecDepth 100000 in
set_option maxHeartbeats 8000000 in
theorem isOf_20 (c t : Int) (f : Bool) (n : Int) (w : World) :
  Calls Try.prog 27 #[.int .i64 20, .agg #[.int .i64 c, .int .i64 t, .bool f, .int .i64 n]] w fun e w' => e = .returned (.bool (fitsG 20 c t f n)) ∧ Below w.heap.size w w' := by
 have HQ : Hid (Calls Try.prog 40 #[.agg #[.int .i64 c, .int .i64 t, .bool f, .int .i64 n], .bool false, .slice (some ⟨w.heap.size + 1, 0, none⟩) 1 1] ((w.alloc (.cells #[.int .i64 c, .int .i64 t, .bool f, .int .i64 n] 32)).alloc (.cells #[.int .i64 4] 3)) fun e w' => e = .returned (.bool (decide (c = 0) && (f == false) && decide (t ∈ ([4] : List Int)))) ∧ Below w.heap.size w w' ∧ Row w' w.heap.size 32 [.int .i64 c, .int .i64 t, .bool f, .int .i64 n]) := Lib.hid (isUniv_on w c t f n false [4] (by decide))
 have HO : Hid ((decide (c = 0) && (f == false) && decide (t ∈ ([4] : List Int))) = fitsG 20 c t f n) := Lib.hid (by
  by_cases hc : c = 0
  ·cases f <;> simp [fitsG, rowG, hc, Bool.or_assoc]
  ·simp [fitsG, rowG, hc])
 generalize (decide (c = 0) && (f == false) && decide (t ∈ ([4] : List Int))) = r at *
 go_enter Try.func27, Try.ntmps27
 go_wp2_with fail
 refine HQ.out.mono ?_
 rintro e w1 ⟨rfl, h1, _⟩
 go_wp2
 go_returns
 exact ⟨rets1 (congrArg Value.bool HO.out), h1⟩
set_option maxRecDepth 100000 in
set_option maxHeartbeats 8000000 in
theorem isOf_21 (c t : Int) (f : Bool) (n : Int) (w : World) :
  Calls Try.prog 27 #[.int .i64 21, .agg #[.int .i64 c, .int .i64 t, .bool f, .int .i64 n]] w fun e w' => e = .returned (.bool (fitsG 21 c t f n)) ∧ Below w.heap.size w w' := by
 have HB1 : Hid (Below w.heap.size w (w.alloc (.cells #[.int .i64 c, .int .i64 t, .bool f, .int .i64 n] 32))) := Lib.hid ((Below.refl _ _).alloc (Nat.le_refl _) _)
 by_cases hc : c = 2
 ·subst hc
  by_cases ht : t = 0
  ·subst ht
   have HO : Hid (f = fitsG 21 2 0 f n) := Lib.hid (by simp [fitsG])
   go_enter Try.func27, Try.ntmps27
   go_wp2
   go_returns
   exact ⟨rets1 (congrArg Value.bool HO.out), HB1.out⟩
  ·have bt : (t == 0) = false := by simpa using ht
   have HO : Hid (false = fitsG 21 2 t f n) := Lib.hid (by simp [fitsG, ht])
   go_enter Try.func27, Try.ntmps27
   go_wp2
   go_returns
   exact ⟨rets1 (congrArg Value.bool HO.out), HB1.out⟩
 ·have bc : (c == 2) = false := by simpa using hc
  have HO : Hid (false = fitsG 21 c t f n) := Lib.hid (by simp [fitsG, hc])
  go_enter Try.func27, Try.ntmps27
  go_wp2
  go_returns
  exact ⟨rets1 (congrArg Value.bool HO.out), HB1.out⟩
set_option maxRecDepth 100000 in
set_option maxHeartbeats 8000000 in
theorem isOf_22 (c t : Int) (f : Bool) (n : Int) (w : World) :
  Calls Try.prog 27 #[.int .i64 22, .agg #[.int .i64 c, .int .i64 t, .bool f, .int .i64 n]] w fun e w' => e = .returned (.bool (fitsG 22 c t f n)) ∧ Below w.heap.size w w' := by
 have HQ : Hid (Calls Try.prog 40 #[.agg #[.int .i64 c, .int .i64 t, .bool f, .int .i64 n], .bool false, .slice (some ⟨w.heap.size + 1, 0, none⟩) 1 1] ((w.alloc (.cells #[.int .i64 c, .int .i64 t, .bool f, .int .i64 n] 32)).alloc (.cells #[.int .i64 3] 3)) fun e w' => e = .returned (.bool (decide (c = 0) && (f == false) && decide (t ∈ ([3] : List Int)))) ∧ Below w.heap.size w w' ∧ Row w' w.heap.size 32 [.int .i64 c, .int .i64 t, .bool f, .int .i64 n]) := Lib.hid (isUniv_on w c t f n false [3] (by decide))
 have HO : Hid ((decide (c = 0) && (f == false) && decide (t ∈ ([3] : List Int))) = fitsG 22 c t f n) := Lib.hid (by
  by_cases hc : c = 0
  ·cases f <;> simp [fitsG, rowG, hc, Bool.or_assoc]
  ·simp [fitsG, rowG, hc])
 generalize (decide (c = 0) && (f == false) && decide (t ∈ ([3] : List Int))) = r at *
 go_enter Try.func27, Try.ntmps27
 go_wp2_with fail
 refine HQ.out.mono ?_
 rintro e w1 ⟨rfl, h1, _⟩
 go_wp2
 go_returns
 exact ⟨rets1 (congrArg Value.bool HO.out), h1⟩
theorem isOf_any (p c t : Int) (f : Bool) (n : Int) (w : World) (hp : 1 ≤ p ∧ p ≤ 22) :
  Calls Try.prog 27 #[.int .i64 p, .agg #[.int .i64 c, .int .i64 t, .bool f, .int .i64 n]] w fun e w' => e = .returned (.bool (fitsG p c t f n)) ∧ Below w.heap.size w w' := by
 have h : p = 1 ∨ p = 2 ∨ p = 3 ∨ p = 4 ∨ p = 5 ∨ p = 6 ∨ p = 7 ∨ p = 8 ∨ p = 9 ∨ p = 10 ∨ p = 11 ∨ p = 12 ∨ p = 13 ∨ p = 14 ∨ p = 15 ∨ p = 16 ∨ p = 17 ∨ p = 18 ∨ p = 19 ∨ p = 20 ∨ p = 21 ∨ p = 22 := by omega
 rcases h with rfl | rfl | rfl | rfl | rfl | rfl | rfl | rfl | rfl | rfl | rfl | rfl | rfl | rfl | rfl | rfl | rfl | rfl | rfl | rfl | rfl | rfl
 ·exact isOf_1 c t f n w
 ·exact isOf_2 c t f n w
 ·exact isOf_3 c t f n w
 ·exact isOf_4 c t f n w
 ·exact isOf_5 c t f n w
 ·exact isOf_6 c t f n w
 ·exact isOf_7 c t f n w
 ·exact isOf_8 c t f n w
 ·exact isOf_9 c t f n w
 ·exact isOf_10 c t f n w
 ·exact isOf_11 c t f n w
 ·exact isOf_12 c t f n w
 ·exact isOf_13 c t f n w
 ·exact isOf_14 c t f n w
 ·exact isOf_15 c t f n w
 ·exact isOf_16 c t f n w
 ·exact isOf_17 c t f n w
 ·exact isOf_18 c t f n w
 ·exact isOf_19 c t f n w
 ·exact isOf_20 c t f n w
 ·exact isOf_21 c t f n w
 ·exact isOf_22 c t f n w
end Go.Proofs.Ytiiimhamfibdbaa
