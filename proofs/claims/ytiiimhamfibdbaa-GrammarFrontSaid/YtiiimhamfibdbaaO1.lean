/- Slices of uint64: of a call's own (Sl) and as they came (Came): appended to, and read. Of any slice from a block's head on. -/
import Derived.Test.YtiiimhamfibdbaaB0
import Derived.Test.YtiiimhamfibdbaaP0
import Derived.Test.YtiiimhamfibdbaaChecked
import Derived.WalkKit
import Derived.WalkSpells
import Derived.Lib.Hide
import Derived.Laws.BytesArg
import Derived.Handy
namespace Go.Proofs.Ytiiimhamfibdbaa
open Go.RowKit
set_option linter.unusedVariables false
end Go.Proofs.Ytiiimhamfibdbaa
/- What the reference's Wrong, number and Same of object identifiers give. Of every text, number and list. -/
namespace Go.Proofs.Ytiiimhamfibdbaa
open Go.RowKit Go.PlainAid
set_option linter.unusedVariables false
end Go.Proofs.Ytiiimhamfibdbaa
/- What oid's Start and Push give: the landed code's contracts. Of every length, state and byte. -/
namespace Go.Proofs.Ytiiimhamfibdbaa
open Go.RowKit Go.PlainAid
set_option linter.unusedVariables false
def oSt (left : Int) (wi : Bool) : List Value := [.int .i64 left, .bool wi]
theorem infoOid : (Try.prog.info? 100).map (·.size) = some 2 := by kernel_rfl
theorem oid_load {W : World} {g : Nat} {x : Int} {y : Bool} (h : Row W g 100 (oSt x y)) : (loadVar 100 ⟨g, 0, none⟩).run Try.prog W = .ok (.agg #[.int .i64 x, .bool y]) W :=
 run_loadVar_mid _ _ 0 _ (oSt x y) _ h.whole Try.underlying100 rfl infoOid
def oStart (n : Int) : Int := if 1 ≤ n then n else 0
def oPush (left : Int) (wi : Bool) (b : Int) : Int × Bool × Bool :=
 if left < 1 ∨ (128 ≤ b ∧ left = 1) ∨ (b = 128 ∧ wi = false) then (0, false, false) else (left - 1, decide (128 ≤ b), true)
theorem oid_step (n : Int) (l : List Int) (i : Nat) (hi : i < l.length) (hn : (i : Int) < n) (h : ¬ (0 ≤ oW n true 0 l ∧ oW n true 0 l ≤ i)) :
  oPush (n - i) (!oFresh l i) l[i] = if oW n true 0 l = (i : Int) + 1 then (0, false, false) else (n - ((i + 1 : Nat) : Int), !oFresh l (i + 1), true) := by
 have hs := oW_step n l i hi h
 have hf : oFresh l (i + 1) = decide (l[i] < 128) := by unfold oFresh; rw [if_neg (by omega), Nat.add_sub_cancel, List.getD_eq_getElem?_getD, List.getElem?_eq_getElem hi]; rfl
 unfold oPush
 by_cases hw : oW n true 0 l = (i : Int) + 1
 ·rw [if_pos hw]
  rcases hs.1 hw with ⟨h1, h2⟩ | ⟨h1, h2⟩
  ·rw [if_pos (.inr (.inr ⟨h1, by rw [h2]; rfl⟩))]
  ·rw [if_pos (.inr (.inl ⟨by omega, by omega⟩))]
 ·rw [if_neg hw]
  have h1 : ¬ (l[i] = 128 ∧ oFresh l i = true) := fun e => hw (hs.2 (.inl e))
  have h2 : ¬ ((i : Int) = n - 1 ∧ 127 < l[i]) := fun e => hw (hs.2 (.inr e))
  rw [if_neg, hf]
  ·congr 1
   ·omega
   ·congr 1
    by_cases h3 : l[i] < 128
    ·rw [decide_eq_false (show ¬ 128 ≤ l[i] by omega), decide_eq_true h3]; rfl
    ·rw [decide_eq_true (show 128 ≤ l[i] by omega), decide_eq_false h3]; rfl
  ·rintro (h3 | h3 | ⟨h3, h4⟩)
   ·omega
   ·exact h2 ⟨by omega, by omega⟩
   ·exact h1 ⟨h3, by simpa using h4⟩
theorem oidStart_any (n : Int) (w : World) :
  Calls Try.prog 49 #[.int .i64 n] w fun e w' => e = .returned (.tuple #[.agg #[.int .i64 (oStart n), .bool false], .bool (decide (1 ≤ n))]) ∧ Below w.heap.size w w' := by
 by_cases h : n < 1
 ·have HO : Hid ((0 : Int) = oStart n) := Lib.hid (by unfold oStart; rw [if_neg (by omega)])
  have HB : Hid (false = decide (1 ≤ n)) := Lib.hid (decide_eq_false (by omega)).symm
  go_enter Try.func49, Try.ntmps49
  go_wp2
  exact bodyPost_ret (results_cell_one Try.results49 _ (ad := ⟨w.heap.size, 0, none⟩) rfl rfl (oid_load (Row.new w 100 (oSt 0 false)))) rfl ⟨rets2 (congrArg (fun z => Value.agg #[.int .i64 z, .bool false]) HO.out) (congrArg Value.bool HB.out), by go_grown⟩
 ·have HO : Hid (n = oStart n) := Lib.hid (by unfold oStart; rw [if_pos (by omega)])
  have HB : Hid (true = decide (1 ≤ n)) := Lib.hid (decide_eq_true (by omega)).symm
  go_enter Try.func49, Try.ntmps49
  go_wp2
  exact bodyPost_ret (results_cell_one Try.results49 _ (ad := ⟨w.heap.size, 0, none⟩) rfl rfl (oid_load (Row.new w 100 (oSt n false)))) rfl ⟨rets2 (congrArg (fun z => Value.agg #[.int .i64 z, .bool false]) HO.out) (congrArg Value.bool rfl), by go_grown⟩
set_option maxHeartbeats 1600000 in
theorem oidPush_any (left : Int) (wi : Bool) (b : Int) (hl : -9223372036854775808 ≤ left ∧ left ≤ 9223372036854775807) (hb : 0 ≤ b ∧ b ≤ 255) (w : World) :
  Calls Try.prog 87 #[.agg #[.int .i64 left, .bool wi], .int .u8 b] w fun e w' => e = .returned (.tuple #[.agg #[.int .i64 (oPush left wi b).1, .bool (oPush left wi b).2.1], .bool (oPush left wi b).2.2]) ∧ Below w.heap.size w w' := by
 obtain ⟨l0, l1⟩ := hl
 obtain ⟨b0, b1⟩ := hb
 by_cases h1 : left < 1
 ·have HO : Hid (oPush left wi b = (0, false, false)) := Lib.hid (by unfold oPush; rw [if_pos (.inl h1)])
  go_enter Try.func87, Try.ntmps87
  go_wp2
  exact bodyPost_ret (results_cell_one Try.results87 _ (ad := ⟨w.heap.size + 1, 0, none⟩) rfl rfl (oid_load (row_new2 w _ 100 (oSt 0 false)))) rfl ⟨by rw [HO.out]; rfl, by go_grown⟩
 ·by_cases h2 : 128 ≤ b ∧ left = 1
  ·obtain ⟨h2, rfl⟩ := h2
   have HO : Hid (oPush 1 wi b = (0, false, false)) := Lib.hid (by unfold oPush; rw [if_pos (.inr (.inl ⟨h2, rfl⟩))])
   go_enter Try.func87, Try.ntmps87
   go_wp2
   exact bodyPost_ret (results_cell_one Try.results87 _ (ad := ⟨w.heap.size + 1, 0, none⟩) rfl rfl (oid_load (row_new2 w _ 100 (oSt 0 false)))) rfl ⟨by rw [HO.out]; rfl, by go_grown⟩
  ·by_cases h3 : b = 128 ∧ wi = false
   ·obtain ⟨rfl, rfl⟩ := h3
    have h4 : ¬ left = 1 := fun e => h2 ⟨by decide, e⟩
    have h5 : (left == 1) = false := beq_eq_false_iff_ne.2 h4
    have HO : Hid (oPush left false 128 = (0, false, false)) := Lib.hid (by unfold oPush; rw [if_pos (.inr (.inr ⟨rfl, rfl⟩))])
    clear h2 h4
    go_enter Try.func87, Try.ntmps87
    go_wp2
    exact bodyPost_ret (results_cell_one Try.results87 _ (ad := ⟨w.heap.size + 1, 0, none⟩) rfl rfl (oid_load (row_new2 w _ 100 (oSt 0 false)))) rfl ⟨by rw [HO.out]; rfl, by go_grown⟩
   ·have HO : Hid (oPush left wi b = (left - 1, decide (128 ≤ b), true)) := Lib.hid (by unfold oPush; exact if_neg (fun h => h.elim h1 (fun h => h.elim h2 h3)))
    by_cases hm : 128 ≤ b
    ·have h4 : ¬ left = 1 := fun e => h2 ⟨hm, e⟩
     have h5 : (left == 1) = false := beq_eq_false_iff_ne.2 h4
     have HD : Hid (decide (128 ≤ b) = true) := Lib.hid (decide_eq_true hm)
     cases wi
     ·have h6 : (b == 128) = false := beq_eq_false_iff_ne.2 (fun e => h3 ⟨e, rfl⟩)
      clear h2 h3 h4
      go_enter Try.func87, Try.ntmps87
      go_wp2
      exact bodyPost_ret (results_cell_one Try.results87 _ (ad := ⟨w.heap.size + 1, 0, none⟩) rfl rfl (oid_load (row_new2 w _ 100 (oSt (left - 1) true)))) rfl ⟨by rw [HO.out, HD.out]; rfl, by go_grown⟩
     ·clear h2 h3 h4
      by_cases h6 : b = 128
      ·subst h6
       go_enter Try.func87, Try.ntmps87
       go_wp2
       exact bodyPost_ret (results_cell_one Try.results87 _ (ad := ⟨w.heap.size + 1, 0, none⟩) rfl rfl (oid_load (row_new2 w _ 100 (oSt (left - 1) true)))) rfl ⟨by rw [HO.out, HD.out]; rfl, by go_grown⟩
      ·have h7 : (b == 128) = false := beq_eq_false_iff_ne.2 h6
       go_enter Try.func87, Try.ntmps87
       go_wp2
       exact bodyPost_ret (results_cell_one Try.results87 _ (ad := ⟨w.heap.size + 1, 0, none⟩) rfl rfl (oid_load (row_new2 w _ 100 (oSt (left - 1) true)))) rfl ⟨by rw [HO.out, HD.out]; rfl, by go_grown⟩
    ·have HD : Hid (decide (128 ≤ b) = false) := Lib.hid (decide_eq_false hm)
     have h6 : (b == 128) = false := beq_eq_false_iff_ne.2 (by omega)
     clear h2 h3
     go_enter Try.func87, Try.ntmps87
     go_wp2
     exact bodyPost_ret (results_cell_one Try.results87 _ (ad := ⟨w.heap.size + 1, 0, none⟩) rfl rfl (oid_load (row_new2 w _ 100 (oSt (left - 1) false)))) rfl ⟨by rw [HO.out, HD.out]; rfl, by go_grown⟩
end Go.Proofs.Ytiiimhamfibdbaa
