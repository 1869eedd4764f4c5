/- What bitstr's canBegin, canEnd, fits, Start, Push and isRight give: the landed code's contracts. Of every length, state and byte. -/
import Derived.Test.YtiecbagejdcafaaGreatDoorB0
import Derived.Test.YtiecbagejdcafaaGreatDoorP0
import Derived.Handy
import Derived.BigQuiet
import Derived.Deep.QuietTactic
import Derived.Laws.BytesArg
import Derived.Test.YtiecbagejdcafaaGreatDoorShelf
import Derived.Lib.SliceRun
import Derived.Deep.RegionWith
namespace Go.Proofs.YtiecbagejdcafaaGreatDoor
open Go.RowKit Go.PlainAid
set_option linter.unusedVariables false
def bSt (left : Int) (be : Bool) (un : Int) : List Value := [.int .i64 left, .bool be, .int .u8 un]
theorem infoBst : (Tryz.prog.info? 194).map (·.size) = some 3 := by kernel_rfl
theorem bst_load {W : World} {g : Nat} {x : Int} {y : Bool} {z : Int} (h : Row W g 194 (bSt x y z)) : (loadVar 194 ⟨g, 0, none⟩).run Tryz.prog W = .ok (.agg #[.int .i64 x, .bool y, .int .u8 z]) W :=
 run_loadVar_mid _ _ 0 _ (bSt x y z) _ h.whole Tryz.underlying194 rfl infoBst
theorem canBegin_any (u n : Int) (w : World) :
  Calls Tryz.prog 76 #[.int .u8 u, .int .i64 n] w fun e w' => e = .returned (.bool (cB u n)) ∧ w' = w := by
 by_cases h0 : u = 0
 ·subst h0
  have HF : Hid (true = cB 0 n) := Lib.hid (cB_zero n).symm
  go_enter Tryz.func76, Tryz.ntmps76
  go_wp2
  go_returns
  exact ⟨rets1 (congrArg Value.bool HF.out), rfl⟩
 ·have b0 : (u == 0) = false := by simpa using h0
  by_cases h1 : u ≤ 7
  ·by_cases h2 : 1 < n
   ·have HF : Hid (true = cB u n) := Lib.hid (decide_eq_true (.inr ⟨h1, h2⟩)).symm
    clear h0
    go_enter Tryz.func76, Tryz.ntmps76
    go_wp2
    go_returns
    exact ⟨rets1 (congrArg Value.bool HF.out), rfl⟩
   ·have HF : Hid (false = cB u n) := Lib.hid (decide_eq_false (by omega)).symm
    clear h0
    go_enter Tryz.func76, Tryz.ntmps76
    go_wp2
    go_returns
    exact ⟨rets1 (congrArg Value.bool HF.out), rfl⟩
  ·have HF : Hid (false = cB u n) := Lib.hid (decide_eq_false (by omega)).symm
   clear h0
   go_enter Tryz.func76, Tryz.ntmps76
   go_wp2
   go_returns
   exact ⟨rets1 (congrArg Value.bool HF.out), rfl⟩
theorem canEnd_any (u x : Int) (h0 : 0 ≤ u) (h1 : u ≤ 7) (x0 : 0 ≤ x) (x1 : x ≤ 255) (w : World) :
  Calls Tryz.prog 77 #[.int .u8 u, .int .u8 x] w fun e w' => e = .returned (.bool (cE u x)) ∧ w' = w := by
 obtain ⟨k, rfl⟩ := Int.eq_ofNat_of_zero_le h0
 have hk : k ≤ 7 := by omega
 have HA := Lib.hid (and8_low x k x0 x1 (by omega))
 have HF : Hid ((x % 2 ^ k == 0) = cE (k : Int) x) := Lib.hid (by unfold cE lw; rw [Int.toNat_natCast]; rfl)
 clear h0 h1
 rcases (by omega : k = 0 ∨ k = 1 ∨ k = 2 ∨ k = 3 ∨ k = 4 ∨ k = 5 ∨ k = 6 ∨ k = 7) with rfl | rfl | rfl | rfl | rfl | rfl | rfl | rfl
 all_goals
  simp only [Int.reducePow, Int.reduceSub] at HA HF
  have hA := HA.out
  go_enter Tryz.func77, Tryz.ntmps77
  go_wp2
  go_returns
  first | exact ⟨rets1 (congrArg Value.bool HF.out), rfl⟩ | exact ⟨rets1 (congrArg Value.bool (cE_zero x).symm), rfl⟩
def bFit (left : Int) (be : Bool) (un b : Int) : Bool := if be = true then decide (1 < left) || cE un b else cB b left
theorem bPush_fit (left : Int) (be : Bool) (un b : Int) (h : ¬ left < 1) : bPush left be un b = if bFit left be un b = true then (left - 1, true, (if be = true then un else b), true) else (0, false, 0, false) := by
 unfold bPush bFit
 rw [if_neg h]
 cases be
 ·simp
 ·simp
theorem fits_any (left : Int) (be : Bool) (un b : Int) (hu : 0 ≤ un ∧ un ≤ 7) (hb : 0 ≤ b ∧ b ≤ 255) (w : World) :
  Calls Tryz.prog 215 #[.agg #[.int .i64 left, .bool be, .int .u8 un], .int .u8 b] w fun e w' => e = .returned (.bool (bFit left be un b)) ∧ Below w.heap.size w w' := by
 cases be
 ·have HB := Lib.hid (canBegin_any b left)
  have HF : Hid (cB b left = bFit left false un b) := Lib.hid rfl
  go_enter Tryz.func215, Tryz.ntmps215
  go_wp2_with fail
  refine (HB.out _).mono ?_
  rintro e w1 ⟨rfl, rfl⟩
  go_wp2
  go_returns
  exact ⟨rets1 (congrArg Value.bool HF.out), by go_grown⟩
 ·by_cases h1 : 1 < left
  ·have HF : Hid (true = bFit left true un b) := Lib.hid (by unfold bFit; rw [if_pos rfl, decide_eq_true h1]; rfl)
   go_enter Tryz.func215, Tryz.ntmps215
   go_wp2
   go_returns
   exact ⟨rets1 (congrArg Value.bool HF.out), by go_grown⟩
  ·have HF : Hid (cE un b = bFit left true un b) := Lib.hid (by unfold bFit; rw [if_pos rfl, decide_eq_false h1]; rfl)
   have HE := Lib.hid (canEnd_any un b hu.1 hu.2 hb.1 hb.2)
   go_enter Tryz.func215, Tryz.ntmps215
   go_wp2_with fail
   refine (HE.out _).mono ?_
   rintro e w1 ⟨rfl, rfl⟩
   go_wp2
   go_returns
   exact ⟨rets1 (congrArg Value.bool HF.out), by go_grown⟩
def bStart (n : Int) : Int := if 1 ≤ n then n else 0
theorem bsStart_any (n : Int) (w : World) :
  Calls Tryz.prog 131 #[.int .i64 n] w fun e w' => e = .returned (.tuple #[.agg #[.int .i64 (bStart n), .bool false, .int .u8 0], .bool (decide (1 ≤ n))]) ∧ Below w.heap.size w w' := by
 by_cases h : n < 1
 ·have HO : Hid ((0 : Int) = bStart n) := Lib.hid (by unfold bStart; rw [if_neg (by omega)])
  have HB : Hid (false = decide (1 ≤ n)) := Lib.hid (decide_eq_false (by omega)).symm
  go_enter Tryz.func131, Tryz.ntmps131
  go_wp2
  exact bodyPost_ret (results_cell_one Tryz.results131 _ (ad := ⟨w.heap.size, 0, none⟩) rfl rfl (bst_load (Row.new w 194 (bSt 0 false 0)))) rfl ⟨rets2 (congrArg (fun z => Value.agg #[.int .i64 z, .bool false, .int .u8 0]) HO.out) (congrArg Value.bool HB.out), by go_grown⟩
 ·have HO : Hid (n = bStart n) := Lib.hid (by unfold bStart; rw [if_pos (by omega)])
  have HB : Hid (true = decide (1 ≤ n)) := Lib.hid (decide_eq_true (by omega)).symm
  go_enter Tryz.func131, Tryz.ntmps131
  go_wp2
  exact bodyPost_ret (results_cell_one Tryz.results131 _ (ad := ⟨w.heap.size, 0, none⟩) rfl rfl (bst_load (Row.new w 194 (bSt n false 0)))) rfl ⟨rets2 (congrArg (fun z => Value.agg #[.int .i64 z, .bool false, .int .u8 0]) HO.out) (congrArg Value.bool rfl), by go_grown⟩
set_option maxHeartbeats 1600000 in
theorem bsPush_any (left : Int) (be : Bool) (un b : Int) (hl : -9223372036854775808 ≤ left ∧ left ≤ 9223372036854775807) (hu : 0 ≤ un ∧ un ≤ 7) (hb : 0 ≤ b ∧ b ≤ 255) (w : World) :
  Calls Tryz.prog 214 #[.agg #[.int .i64 left, .bool be, .int .u8 un], .int .u8 b] w fun e w' => e = .returned (.tuple #[.agg #[.int .i64 (bPush left be un b).1, .bool (bPush left be un b).2.1, .int .u8 (bPush left be un b).2.2.1], .bool (bPush left be un b).2.2.2]) ∧ Below w.heap.size w w' := by
 obtain ⟨l0, l1⟩ := hl
 by_cases h1 : left < 1
 ·have HO : Hid (bPush left be un b = (0, false, 0, false)) := Lib.hid (by unfold bPush; rw [if_pos h1])
  go_enter Tryz.func214, Tryz.ntmps214
  go_wp2
  exact bodyPost_ret (results_cell_one Tryz.results214 _ (ad := ⟨w.heap.size + 1, 0, none⟩) rfl rfl (bst_load (row_new2 w _ 194 (bSt 0 false 0)))) rfl ⟨by rw [HO.out]; rfl, by go_grown⟩
 ·have HF := Lib.hid (fits_any left be un b hu hb)
  have HO := Lib.hid (bPush_fit left be un b h1)
  generalize bFit left be un b = f at *
  generalize bPush left be un b = R at *
  have HW1 := Lib.hid (Row.new w 194 (bSt left be un))
  have HW2 := Lib.hid (HW1.out.alloc (.cells #[.int .i64 0, .bool false, .int .u8 0] 194))
  have HV := Lib.hid (row_new2 w (.cells #[.int .i64 left, .bool be, .int .u8 un] 194) 194 (bSt 0 false 0))
  go_enter Tryz.func214, Tryz.ntmps214
  go_wp2_with fail
  refine (HF.out _).mono ?_
  rintro e w1 ⟨rfl, hb1⟩
  have HR1 := Lib.hid (HW2.out.below hb1 HW2.out.lt)
  have HV1 := Lib.hid (HV.out.below hb1 HV.out.lt)
  have HB1 := Lib.hid ((((Below.refl w.heap.size w).alloc (Nat.le_refl _) (.cells #[.int .i64 left, .bool be, .int .u8 un] 194)).alloc (by simp) (.cells #[.int .i64 0, .bool false, .int .u8 0] 194)).trans (hb1.mono (by simp; omega)))
  have c0 : w1.cell? ⟨w.heap.size, 0, none⟩ = some (.int .i64 left) := HR1.out.cell 0
  have c1 : w1.cell? ⟨w.heap.size, 1, none⟩ = some (.bool be) := HR1.out.cell 1
  have c2 : w1.cell? ⟨w.heap.size, 2, none⟩ = some (.int .u8 un) := HR1.out.cell 2
  have f0 := HR1.out.frozen 0
  have f1 := HR1.out.frozen 1
  have f2 := HR1.out.frozen 2
  have d0 : w1.cell? ⟨w.heap.size + 1, 0, none⟩ = some (.int .i64 0) := HV1.out.cell 0
  have d1 : w1.cell? ⟨w.heap.size + 1, 1, none⟩ = some (.bool false) := HV1.out.cell 1
  have d2 : w1.cell? ⟨w.heap.size + 1, 2, none⟩ = some (.int .u8 0) := HV1.out.cell 2
  have e0 := HV1.out.frozen 0
  have e1 := HV1.out.frozen 1
  have e2 := HV1.out.frozen 2
  have hls := HV1.out.lt
  clear hb1 HW1 HW2 HV
  cases f
  ·go_wp2
   have HVx : Row _ (w.heap.size + 1) 194 (bSt (0) false 0) := (((HV1.out).set 0 (.int .i64 0)).set 1 (.bool false)).set 2 (.int .u8 0)
   have HBx := (((HB1.out).setCell (p := ⟨w.heap.size + 1, 0, none⟩) (by simp) (.int .i64 0)).setCell (p := ⟨w.heap.size + 1, 1, none⟩) (by simp) (.bool false)).setCell (p := ⟨w.heap.size + 1, 2, none⟩) (by simp) (.int .u8 0)
   exact bodyPost_ret (results_cell_one Tryz.results214 _ (ad := ⟨w.heap.size + 1, 0, none⟩) rfl rfl (bst_load (x := 0) (y := false) (z := 0) HVx)) rfl ⟨by rw [HO.out]; rfl, HBx⟩
  ·cases be
   ·go_wp2
    have HVx : Row _ (w.heap.size + 1) 194 (bSt (left - 1) true b) := ((((((HV1.out).far (p := ⟨w.heap.size, 1, none⟩) (by simp) (.bool true)).far (p := ⟨w.heap.size, 2, none⟩) (by simp) (.int .u8 b)).far (p := ⟨w.heap.size, 0, none⟩) (by simp) (.int .i64 (left - 1))).set 0 (.int .i64 (left - 1))).set 1 (.bool true)).set 2 (.int .u8 b)
    have HBx := ((((((HB1.out).setCell (p := ⟨w.heap.size, 1, none⟩) (by simp) (.bool true)).setCell (p := ⟨w.heap.size, 2, none⟩) (by simp) (.int .u8 b)).setCell (p := ⟨w.heap.size, 0, none⟩) (by simp) (.int .i64 (left - 1))).setCell (p := ⟨w.heap.size + 1, 0, none⟩) (by simp) (.int .i64 (left - 1))).setCell (p := ⟨w.heap.size + 1, 1, none⟩) (by simp) (.bool true)).setCell (p := ⟨w.heap.size + 1, 2, none⟩) (by simp) (.int .u8 b)
    exact bodyPost_ret (results_cell_one Tryz.results214 _ (ad := ⟨w.heap.size + 1, 0, none⟩) rfl rfl (bst_load (x := left - 1) (y := true) (z := b) HVx)) rfl ⟨by rw [HO.out]; rfl, HBx⟩
   ·go_wp2
    have HVx : Row _ (w.heap.size + 1) 194 (bSt (left - 1) true un) := ((((HV1.out).far (p := ⟨w.heap.size, 0, none⟩) (by simp) (.int .i64 (left - 1))).set 0 (.int .i64 (left - 1))).set 1 (.bool true)).set 2 (.int .u8 un)
    have HBx := ((((HB1.out).setCell (p := ⟨w.heap.size, 0, none⟩) (by simp) (.int .i64 (left - 1))).setCell (p := ⟨w.heap.size + 1, 0, none⟩) (by simp) (.int .i64 (left - 1))).setCell (p := ⟨w.heap.size + 1, 1, none⟩) (by simp) (.bool true)).setCell (p := ⟨w.heap.size + 1, 2, none⟩) (by simp) (.int .u8 un)
    exact bodyPost_ret (results_cell_one Tryz.results214 _ (ad := ⟨w.heap.size + 1, 0, none⟩) rfl rfl (bst_load (x := left - 1) (y := true) (z := un) HVx)) rfl ⟨by rw [HO.out]; rfl, HBx⟩
end Go.Proofs.YtiecbagejdcafaaGreatDoor
/- What bitstr's isRight gives: the landed code's contract. Of every text. -/
namespace Go.Proofs.YtiecbagejdcafaaGreatDoor
open Go.RowKit Go.PlainAid
set_option linter.unusedVariables false
set_option maxRecDepth 100000 in
set_option maxHeartbeats 1600000 in
theorem isRight_q (s : ByteArray) (hs : s.size ≤ maxLen) (w : World) :
  Calls Tryz.prog 51 #[.string s] w fun e w' => e = .returned (.bool (bsR s)) ∧ ∃ m, w' = w.drewN m := by
 have hb9 : (s.size : Int) ≤ 9223372036854775807 := by unfold maxLen at hs; omega
 have HI := Lib.hid (bsR_iff s)
 by_cases h0 : 0 < s.size
 ·have hi0 : (0 : Int) < (s.size : Int) := by omega
  have g0 := get_bt s 0 h0
  have HB := Lib.hid (canBegin_any (bt s 0) s.size)
  have hx0 := bt_nonneg s 0
  have hx1 := bt_le s 0
  have HL := Lib.hid (cB_le (u := bt s 0) (n := s.size))
  have gl := get_bt s (s.size - 1) (by omega)
  have hy0 := bt_nonneg s (s.size - 1)
  have hy1 := bt_le s (s.size - 1)
  generalize bt s (s.size - 1) = y at *
  generalize bt s 0 = x at *
  have hil : ((s.size : Int) - 1).toNat = s.size - 1 := by omega
  cases hb : cB x s.size
  ·have HF : Hid (false = bsR s) := Lib.hid (by cases h : bsR s; rfl; have := (HI.out.1 h).2.1; rw [hb] at this; cases this)
   rw [hb] at HB
   clear hb HL
   go_enter Tryz.func51, Tryz.ntmps51
   go_wp2_with fail
   go_quiet ((go_at_call 76; exact Calls.quiet_of_same (HB.out _)))
   go_wp2
   go_returns
   exact ⟨rets1 (congrArg Value.bool HF.out), _, rfl⟩
  ·have HE := Lib.hid (canEnd_any x y hx0 (HL.out hb) hy0 hy1)
   have HF : Hid (cE x y = bsR s) := Lib.hid (by
    cases h : bsR s
    ·cases he : cE x y
     ·rfl
     ·have := HI.out.2 ⟨h0, hb, he⟩; rw [h] at this; cases this
    ·exact (HI.out.1 h).2.2)
   rw [hb] at HB
   clear hb HL
   go_enter Tryz.func51, Tryz.ntmps51
   go_wp2_with fail
   go_quiet ((first | (go_at_call 76; exact Calls.quiet_of_same (HB.out _)) | (go_at_call 77; exact Calls.quiet_of_same (HE.out _))))
   go_wp2
   go_returns
   exact ⟨rets1 (congrArg Value.bool HF.out), _, rfl⟩
 ·have hz : s.size = 0 := by omega
  have HF : Hid (false = bsR s) := Lib.hid (by cases h : bsR s; rfl; exact absurd (HI.out.1 h).1 h0)
  clear h0
  go_enter Tryz.func51, Tryz.ntmps51
  go_wp2_with fail
  go_quiet (fail)
  go_wp2
  go_returns
  exact ⟨rets1 (congrArg Value.bool HF.out), _, rfl⟩
theorem isRight_any (s : ByteArray) (hs : s.size ≤ maxLen) (w : World) :
  Calls Tryz.prog 51 #[.string s] w fun e w' => e = .returned (.bool (bsR s)) ∧ Below w.heap.size w w' :=
 (isRight_q s hs w).mono (fun e w' ⟨h1, m, h2⟩ => ⟨h1, by rw [h2]; exact ⟨rfl, rfl, rfl, Nat.le_refl _, fun _ _ => rfl⟩⟩)
end Go.Proofs.YtiecbagejdcafaaGreatDoor
/- What strings.Clone, and bitstr's Put, Get and Bit give: the landed code's contracts. Of every text (Put: of at most a million bytes). -/
namespace Go.Proofs.YtiecbagejdcafaaGreatDoor
open Go.RowKit Go.PlainAid
set_option linter.unusedVariables false
set_option maxHeartbeats 1600000 in
theorem bsPut_any (u : Int) (b : ByteArray) (hb : b.size ≤ 1000000) (w : World) :
  Calls Tryz.prog 25 #[.int .i64 u, .string b] w fun e w' => e = .returned (.tuple #[.string (bpS u b), .bool (bpB u b)]) ∧ Below w.heap.size w w' := by
 by_cases h0 : u < 0
 ·obtain ⟨p1, p2⟩ := bp_out b (u := u) (by omega)
  have HB : Hid (false = bpB u b) := Lib.hid p1.symm
  have HS : Hid ((⟨#[]⟩ : ByteArray) = bpS u b) := Lib.hid p2.symm
  clear p1 p2
  go_enter Tryz.func25, Tryz.ntmps25
  go_wp2
  go_returns
  exact ⟨rets2 (congrArg Value.string HS.out) (congrArg Value.bool HB.out), Below.refl _ _⟩
 ·by_cases h7 : 7 < u
  ·obtain ⟨p1, p2⟩ := bp_out b (u := u) (by omega)
   have HB : Hid (false = bpB u b) := Lib.hid p1.symm
   have HS : Hid ((⟨#[]⟩ : ByteArray) = bpS u b) := Lib.hid p2.symm
   clear p1 p2
   go_enter Tryz.func25, Tryz.ntmps25
   go_wp2
   go_returns
   exact ⟨rets2 (congrArg Value.string HS.out) (congrArg Value.bool HB.out), Below.refl _ _⟩
  ·have hu8 : u % 256 = u := by omega
   have hcv := conv_one w u
   have hsz := bpC_size u b
   have HR := Lib.hid (isRight_any (bpC u b) (by rw [hsz]; unfold maxLen; omega))
   have HB := Lib.hid (bp_in b (u := u) (by omega))
   have HC : Hid (strOfNums [u] ++ b = bpC u b) := Lib.hid rfl
   have HS : Hid (bpS u b = if bpB u b = true then bpC u b else ⟨#[]⟩) := Lib.hid rfl
   have hmx : ¬ 9223372036854775807 < (strOfNums [u]).size + b.size := by rw [strOfNums_size]; simp only [List.length_cons, List.length_nil]; omega
   generalize bpC u b = C at *
   generalize bpB u b = B at *
   generalize bpS u b = S at *
   go_enter Tryz.func25, Tryz.ntmps25
   go_wp2_with fail
   rw [HC.out]
   refine (HR.out _).mono ?_
   rintro e w1 ⟨rfl, hb1⟩
   have hB1 := ((Below.refl w.heap.size w).alloc (Nat.le_refl _) (.cells #[.int .u8 u] 5)).trans (hb1.mono (by simp))
   rw [← HB.out]
   clear hb1 HR hcv
   cases B
   ·have HF : Hid ((⟨#[]⟩ : ByteArray) = S) := Lib.hid (by rw [HS.out]; rfl)
    clear HS HC
    go_wp2
    go_returns
    exact ⟨rets2 (congrArg Value.string HF.out) rfl, hB1⟩
   ·have HF : Hid (C = S) := Lib.hid (by rw [HS.out]; rfl)
    clear HS HC
    go_wp2
    go_returns
    exact ⟨rets2 (congrArg Value.string HF.out) rfl, hB1⟩
end Go.Proofs.YtiecbagejdcafaaGreatDoor
