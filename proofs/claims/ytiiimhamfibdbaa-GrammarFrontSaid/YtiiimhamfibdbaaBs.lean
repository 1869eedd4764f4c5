/- What the reference's low, Wrong, Right, Put and Bit of bit strings give. Of every length, text and number (Put, Bit: of at most a million bytes). -/
import Derived.Test.YtiiimhamfibdbaaB0
import Derived.Test.YtiiimhamfibdbaaP0
import Derived.Handy
import Derived.BigQuiet
import Derived.Deep.QuietTactic
import Derived.Laws.BytesArg
namespace Go.Proofs.Ytiiimhamfibdbaa
open Go.RowKit Go.PlainAid
set_option linter.unusedVariables false
end Go.Proofs.Ytiiimhamfibdbaa
/- What bitstr's canBegin, canEnd, fits, Start, Push and isRight give: the landed code's contracts. Of every length, state and byte. -/
namespace Go.Proofs.Ytiiimhamfibdbaa
open Go.RowKit Go.PlainAid
set_option linter.unusedVariables false
def bSt (left : Int) (be : Bool) (un : Int) : List Value := [.int .i64 left, .bool be, .int .u8 un]
theorem infoBst : (Try.prog.info? 105).map (·.size) = some 3 := by kernel_rfl
theorem bst_load {W : World} {g : Nat} {x : Int} {y : Bool} {z : Int} (h : Row W g 105 (bSt x y z)) : (loadVar 105 ⟨g, 0, none⟩).run Try.prog W = .ok (.agg #[.int .i64 x, .bool y, .int .u8 z]) W :=
 run_loadVar_mid _ _ 0 _ (bSt x y z) _ h.whole Try.underlying105 rfl infoBst
theorem canBegin_any (u n : Int) (w : World) :
  Calls Try.prog 90 #[.int .u8 u, .int .i64 n] w fun e w' => e = .returned (.bool (cB u n)) ∧ w' = w := by
 by_cases h0 : u = 0
 ·subst h0
  have HF : Hid (true = cB 0 n) := Lib.hid (cB_zero n).symm
  go_enter Try.func90, Try.ntmps90
  go_wp2
  go_returns
  exact ⟨rets1 (congrArg Value.bool HF.out), rfl⟩
 ·have b0 : (u == 0) = false := by simpa using h0
  by_cases h1 : u ≤ 7
  ·by_cases h2 : 1 < n
   ·have HF : Hid (true = cB u n) := Lib.hid (decide_eq_true (.inr ⟨h1, h2⟩)).symm
    clear h0
    go_enter Try.func90, Try.ntmps90
    go_wp2
    go_returns
    exact ⟨rets1 (congrArg Value.bool HF.out), rfl⟩
   ·have HF : Hid (false = cB u n) := Lib.hid (decide_eq_false (by omega)).symm
    clear h0
    go_enter Try.func90, Try.ntmps90
    go_wp2
    go_returns
    exact ⟨rets1 (congrArg Value.bool HF.out), rfl⟩
  ·have HF : Hid (false = cB u n) := Lib.hid (decide_eq_false (by omega)).symm
   clear h0
   go_enter Try.func90, Try.ntmps90
   go_wp2
   go_returns
   exact ⟨rets1 (congrArg Value.bool HF.out), rfl⟩
theorem canEnd_any (u x : Int) (h0 : 0 ≤ u) (h1 : u ≤ 7) (x0 : 0 ≤ x) (x1 : x ≤ 255) (w : World) :
  Calls Try.prog 91 #[.int .u8 u, .int .u8 x] w fun e w' => e = .returned (.bool (cE u x)) ∧ w' = w := by
 obtain ⟨k, rfl⟩ := Int.eq_ofNat_of_zero_le h0
 have hk : k ≤ 7 := by omega
 have HA := Lib.hid (and8_low x k x0 x1 (by omega))
 have HF : Hid ((x % 2 ^ k == 0) = cE (k : Int) x) := Lib.hid (by unfold cE lw; rw [Int.toNat_natCast]; rfl)
 clear h0 h1
 rcases (by omega : k = 0 ∨ k = 1 ∨ k = 2 ∨ k = 3 ∨ k = 4 ∨ k = 5 ∨ k = 6 ∨ k = 7) with rfl | rfl | rfl | rfl | rfl | rfl | rfl | rfl
 all_goals
  simp only [Int.reducePow, Int.reduceSub] at HA HF
  have hA := HA.out
  go_enter Try.func91, Try.ntmps91
  go_wp2
  go_returns
  first | exact ⟨rets1 (congrArg Value.bool HF.out), rfl⟩ | exact ⟨rets1 (congrArg Value.bool (cE_zero x).symm), rfl⟩
def bFit (left : Int) (be : Bool) (un b : Int) : Bool := if be = true then decide (1 < left) || cE un b else cB b left
theorem bPush_fit (left : Int) (be : Bool) (un b : Int) (h : ¬ left < 1) : bPush left be un b = if bFit left be un b = true then (left - 1, true, (if be = true then un else b), true) else (0, false, 0, false) := by
 unfold bPush bFit
 rw [if_neg h]
 cases be
 ·simp
 ·simp
theorem fits_any (left : Int) (be : Bool) (un b : Int) (hu : 0 ≤ un ∧ un ≤ 7) (hb : 0 ≤ b ∧ b ≤ 255) (w : World) :
  Calls Try.prog 89 #[.agg #[.int .i64 left, .bool be, .int .u8 un], .int .u8 b] w fun e w' => e = .returned (.bool (bFit left be un b)) ∧ Below w.heap.size w w' := by
 cases be
 ·have HB := Lib.hid (canBegin_any b left)
  have HF : Hid (cB b left = bFit left false un b) := Lib.hid rfl
  go_enter Try.func89, Try.ntmps89
  go_wp2_with fail
  refine (HB.out _).mono ?_
  rintro e w1 ⟨rfl, rfl⟩
  go_wp2
  go_returns
  exact ⟨rets1 (congrArg Value.bool HF.out), by go_grown⟩
 ·by_cases h1 : 1 < left
  ·have HF : Hid (true = bFit left true un b) := Lib.hid (by unfold bFit; rw [if_pos rfl, decide_eq_true h1]; rfl)
   go_enter Try.func89, Try.ntmps89
   go_wp2
   go_returns
   exact ⟨rets1 (congrArg Value.bool HF.out), by go_grown⟩
  ·have HF : Hid (cE un b = bFit left true un b) := Lib.hid (by unfold bFit; rw [if_pos rfl, decide_eq_false h1]; rfl)
   have HE := Lib.hid (canEnd_any un b hu.1 hu.2 hb.1 hb.2)
   go_enter Try.func89, Try.ntmps89
   go_wp2_with fail
   refine (HE.out _).mono ?_
   rintro e w1 ⟨rfl, rfl⟩
   go_wp2
   go_returns
   exact ⟨rets1 (congrArg Value.bool HF.out), by go_grown⟩
def bStart (n : Int) : Int := if 1 ≤ n then n else 0
theorem bsStart_any (n : Int) (w : World) :
  Calls Try.prog 51 #[.int .i64 n] w fun e w' => e = .returned (.tuple #[.agg #[.int .i64 (bStart n), .bool false, .int .u8 0], .bool (decide (1 ≤ n))]) ∧ Below w.heap.size w w' := by
 by_cases h : n < 1
 ·have HO : Hid ((0 : Int) = bStart n) := Lib.hid (by unfold bStart; rw [if_neg (by omega)])
  have HB : Hid (false = decide (1 ≤ n)) := Lib.hid (decide_eq_false (by omega)).symm
  go_enter Try.func51, Try.ntmps51
  go_wp2
  exact bodyPost_ret (results_cell_one Try.results51 _ (ad := ⟨w.heap.size, 0, none⟩) rfl rfl (bst_load (Row.new w 105 (bSt 0 false 0)))) rfl ⟨rets2 (congrArg (fun z => Value.agg #[.int .i64 z, .bool false, .int .u8 0]) HO.out) (congrArg Value.bool HB.out), by go_grown⟩
 ·have HO : Hid (n = bStart n) := Lib.hid (by unfold bStart; rw [if_pos (by omega)])
  have HB : Hid (true = decide (1 ≤ n)) := Lib.hid (decide_eq_true (by omega)).symm
  go_enter Try.func51, Try.ntmps51
  go_wp2
  exact bodyPost_ret (results_cell_one Try.results51 _ (ad := ⟨w.heap.size, 0, none⟩) rfl rfl (bst_load (Row.new w 105 (bSt n false 0)))) rfl ⟨rets2 (congrArg (fun z => Value.agg #[.int .i64 z, .bool false, .int .u8 0]) HO.out) (congrArg Value.bool rfl), by go_grown⟩
set_option maxHeartbeats 1600000 in
theorem bsPush_any (left : Int) (be : Bool) (un b : Int) (hl : -9223372036854775808 ≤ left ∧ left ≤ 9223372036854775807) (hu : 0 ≤ un ∧ un ≤ 7) (hb : 0 ≤ b ∧ b ≤ 255) (w : World) :
  Calls Try.prog 88 #[.agg #[.int .i64 left, .bool be, .int .u8 un], .int .u8 b] w fun e w' => e = .returned (.tuple #[.agg #[.int .i64 (bPush left be un b).1, .bool (bPush left be un b).2.1, .int .u8 (bPush left be un b).2.2.1], .bool (bPush left be un b).2.2.2]) ∧ Below w.heap.size w w' := by
 obtain ⟨l0, l1⟩ := hl
 by_cases h1 : left < 1
 ·have HO : Hid (bPush left be un b = (0, false, 0, false)) := Lib.hid (by unfold bPush; rw [if_pos h1])
  go_enter Try.func88, Try.ntmps88
  go_wp2
  exact bodyPost_ret (results_cell_one Try.results88 _ (ad := ⟨w.heap.size + 1, 0, none⟩) rfl rfl (bst_load (row_new2 w _ 105 (bSt 0 false 0)))) rfl ⟨by rw [HO.out]; rfl, by go_grown⟩
 ·have HF := Lib.hid (fits_any left be un b hu hb)
  have HO := Lib.hid (bPush_fit left be un b h1)
  generalize bFit left be un b = f at *
  generalize bPush left be un b = R at *
  have HW1 := Lib.hid (Row.new w 105 (bSt left be un))
  have HW2 := Lib.hid (HW1.out.alloc (.cells #[.int .i64 0, .bool false, .int .u8 0] 105))
  have HV := Lib.hid (row_new2 w (.cells #[.int .i64 left, .bool be, .int .u8 un] 105) 105 (bSt 0 false 0))
  go_enter Try.func88, Try.ntmps88
  go_wp2_with fail
  refine (HF.out _).mono ?_
  rintro e w1 ⟨rfl, hb1⟩
  have HR1 := Lib.hid (HW2.out.below hb1 HW2.out.lt)
  have HV1 := Lib.hid (HV.out.below hb1 HV.out.lt)
  have HB1 := Lib.hid ((((Below.refl w.heap.size w).alloc (Nat.le_refl _) (.cells #[.int .i64 left, .bool be, .int .u8 un] 105)).alloc (by simp) (.cells #[.int .i64 0, .bool false, .int .u8 0] 105)).trans (hb1.mono (by simp; omega)))
  have c0 : w1.cell? ⟨w.heap.size, 0, none⟩ = some (.int .i64 left) := HR1.out.cell 0
  have c1 : w1.cell? ⟨w.heap.size, 1, none⟩ = some (.bool be) := HR1.out.cell 1
  have c2 : w1.cell? ⟨w.heap.size, 2, none⟩ = some (.int .u8 un) := HR1.out.cell 2
  have f0 := HR1.out.frozen 0
  have f1 := HR1.out.frozen 1
  have f2 := HR1.out.frozen 2
  have d0 : w1.cell? ⟨w.heap.size + 1, 0, none⟩ = some (.int .i64 0) := HV1.out.cell 0
  have d1 : w1.cell? ⟨w.heap.size + 1, 1, none⟩ = some (.bool false) := HV1.out.cell 1
  have d2 : w1.cell? ⟨w.heap.size + 1, 2, none⟩ = some (.int .u8 0) := HV1.out.cell 2
  have e0 := HV1.out.frozen 0
  have e1 := HV1.out.frozen 1
  have e2 := HV1.out.frozen 2
  have hls := HV1.out.lt
  clear hb1 HW1 HW2 HV
  cases f
  ·go_wp2
   have HVx : Row _ (w.heap.size + 1) 105 (bSt (0) false 0) := (((HV1.out).set 0 (.int .i64 0)).set 1 (.bool false)).set 2 (.int .u8 0)
   have HBx := (((HB1.out).setCell (p := ⟨w.heap.size + 1, 0, none⟩) (by simp) (.int .i64 0)).setCell (p := ⟨w.heap.size + 1, 1, none⟩) (by simp) (.bool false)).setCell (p := ⟨w.heap.size + 1, 2, none⟩) (by simp) (.int .u8 0)
   exact bodyPost_ret (results_cell_one Try.results88 _ (ad := ⟨w.heap.size + 1, 0, none⟩) rfl rfl (bst_load (x := 0) (y := false) (z := 0) HVx)) rfl ⟨by rw [HO.out]; rfl, HBx⟩
  ·cases be
   ·go_wp2
    have HVx : Row _ (w.heap.size + 1) 105 (bSt (left - 1) true b) := ((((((HV1.out).far (p := ⟨w.heap.size, 1, none⟩) (by simp) (.bool true)).far (p := ⟨w.heap.size, 2, none⟩) (by simp) (.int .u8 b)).far (p := ⟨w.heap.size, 0, none⟩) (by simp) (.int .i64 (left - 1))).set 0 (.int .i64 (left - 1))).set 1 (.bool true)).set 2 (.int .u8 b)
    have HBx := ((((((HB1.out).setCell (p := ⟨w.heap.size, 1, none⟩) (by simp) (.bool true)).setCell (p := ⟨w.heap.size, 2, none⟩) (by simp) (.int .u8 b)).setCell (p := ⟨w.heap.size, 0, none⟩) (by simp) (.int .i64 (left - 1))).setCell (p := ⟨w.heap.size + 1, 0, none⟩) (by simp) (.int .i64 (left - 1))).setCell (p := ⟨w.heap.size + 1, 1, none⟩) (by simp) (.bool true)).setCell (p := ⟨w.heap.size + 1, 2, none⟩) (by simp) (.int .u8 b)
    exact bodyPost_ret (results_cell_one Try.results88 _ (ad := ⟨w.heap.size + 1, 0, none⟩) rfl rfl (bst_load (x := left - 1) (y := true) (z := b) HVx)) rfl ⟨by rw [HO.out]; rfl, HBx⟩
   ·go_wp2
    have HVx : Row _ (w.heap.size + 1) 105 (bSt (left - 1) true un) := ((((HV1.out).far (p := ⟨w.heap.size, 0, none⟩) (by simp) (.int .i64 (left - 1))).set 0 (.int .i64 (left - 1))).set 1 (.bool true)).set 2 (.int .u8 un)
    have HBx := ((((HB1.out).setCell (p := ⟨w.heap.size, 0, none⟩) (by simp) (.int .i64 (left - 1))).setCell (p := ⟨w.heap.size + 1, 0, none⟩) (by simp) (.int .i64 (left - 1))).setCell (p := ⟨w.heap.size + 1, 1, none⟩) (by simp) (.bool true)).setCell (p := ⟨w.heap.size + 1, 2, none⟩) (by simp) (.int .u8 un)
    exact bodyPost_ret (results_cell_one Try.results88 _ (ad := ⟨w.heap.size + 1, 0, none⟩) rfl rfl (bst_load (x := left - 1) (y := true) (z := un) HVx)) rfl ⟨by rw [HO.out]; rfl, HBx⟩
end Go.Proofs.Ytiiimhamfibdbaa
