/- What the reference's low, Wrong, Right, Put and Bit of bit strings give. Of every length, text and number (Put, Bit: of at most a million bytes). -/
import Derived.Test.YtiiimhamfibdbaaGreatB0
import Derived.Test.YtiiimhamfibdbaaGreatP0
import Derived.Handy
import Derived.BigQuiet
import Derived.Deep.QuietTactic
import Derived.Laws.BytesArg
namespace Go.Proofs.YtiiimhamfibdbaaGreat
open Go.RowKit Go.PlainAid
set_option linter.unusedVariables false
theorem pow8 (j : Nat) (h : j ≤ 8) : (1 : Int) ≤ 2 ^ j ∧ (2 : Int) ^ j ≤ 256 := by
 rcases (by omega : j = 0 ∨ j = 1 ∨ j = 2 ∨ j = 3 ∨ j = 4 ∨ j = 5 ∨ j = 6 ∨ j = 7 ∨ j = 8) with rfl | rfl | rfl | rfl | rfl | rfl | rfl | rfl | rfl <;> decide
theorem refLow_any (x n : Int) (x0 : 0 ≤ x) (x1 : x ≤ 255) (h0 : 0 ≤ n) (h8 : n ≤ 8) (w : World) :
  Calls Tryz.prog 83 #[.int .u8 x, .int .i64 n] w fun e w' => e = .returned (.int .i64 (lw x n)) ∧ w' = w := by
 obtain ⟨k, rfl⟩ := Int.eq_ofNat_of_zero_le h0
 have hk : k ≤ 8 := by omega
 have HP := Lib.hid pow8
 have HF : Hid (x % (2 ^ k) = lw x k) := Lib.hid (by unfold lw; rw [Int.toNat_natCast])
 have HM : Hid (IntKind.i64.wrap x = x) := Lib.hid (by rw [IntKind.wrap_i64]; omega)
 have HS := Lib.hid (fun j => Int.pow_succ 2 j)
 go_enter Tryz.func83, Tryz.ntmps83
 go_wp2
 go_loopw [5, 6] (fun uv iv wr => ∃ (j : Nat), uv = .int .i64 (2 ^ j) ∧ iv = .int .i64 (j : Int) ∧ j ≤ k ∧ wr = w) (fun _ iv _ => k - (intOf iv).toNat)
 case atStart => exact ⟨0, rfl, rfl, by omega, rfl⟩
 case round =>
  obtain ⟨j, rfl, rfl, hj, rfl⟩ := hrel
  have hp := HP.out j (by omega)
  have hs := HS.out j
  by_cases hlt : j < k
  ·have hlti : (j : Int) < (k : Int) := by omega
   have HE := Lib.hid hs
   clear hs
   obtain ⟨p, hpe⟩ : ∃ p : Int, 2 ^ j = p := ⟨_, rfl⟩
   rw [hpe] at hp HE
   obtain ⟨p0, p1⟩ := hp
   simp only [hpe]
   clear hpe
   go_wp2
   go_roundw
   case rel => exact ⟨j + 1, by rw [HE.out], by simp, by omega, by trivial⟩
   case measure => simp [intOf]; omega
  ·have hlti : ¬ (j : Int) < (k : Int) := by omega
   obtain rfl : j = k := by omega
   obtain ⟨p, hpe⟩ : ∃ p : Int, 2 ^ j = p := ⟨_, rfl⟩
   rw [hpe] at hp HF
   simp only [hpe]
   have hz : (p == 0) = false := by simp; omega
   have hz2 : ¬ p = 0 := by omega
   clear hs hpe
   go_wp2
   go_returns
   exact ⟨rets1 (congrArg (Value.int .i64) HF.out), rfl⟩
set_option maxRecDepth 100000 in
set_option maxHeartbeats 4000000 in
theorem refBstrWrong_any (n : Int) (s : ByteArray) (hs : s.size ≤ maxLen) (hn1 : n ≤ 9223372036854775807) (w : World) :
  Calls Tryz.prog 62 #[.int .i64 n, .string s] w fun e w' => e = .returned (.int .i64 (bsW n s)) ∧ Below w.heap.size w w' := by
 have hb9 : (s.size : Int) ≤ 9223372036854775807 := by unfold maxLen at hs; omega
 by_cases hn : n < 1
 ·have HF : Hid (0 = bsW n s) := Lib.hid (by unfold bsW; rw [if_pos hn])
  go_enter Tryz.func62, Tryz.ntmps62
  go_wp2
  go_returns
  exact ⟨rets1 (congrArg (Value.int .i64) HF.out), Below.refl _ _⟩
 ·have HW : Hid (bsW n s = if 0 < s.size ∧ cB (bt s 0) n = false then 1 else if 1 < n ∧ (s.size : Int) = n ∧ cE (bt s 0) (bt s (s.size - 1)) = false then n else -1) := Lib.hid (by unfold bsW; rw [if_neg hn])
  generalize bsW n s = R at *
  by_cases h0 : 0 < s.size
  ·have hi0 : (0 : Int) < (s.size : Int) := by omega
   have g0 := get_bt s 0 h0
   have hx0 := bt_nonneg s 0
   have hx1 := bt_le s 0
   have gl := get_bt s (s.size - 1) (by omega)
   have hy0 := bt_nonneg s (s.size - 1)
   have hy1 := bt_le s (s.size - 1)
   generalize bt s (s.size - 1) = y at *
   generalize bt s 0 = x at *
   by_cases h7 : 7 < x
   ·have HF : Hid (1 = R) := Lib.hid (by rw [HW.out, if_pos ⟨h0, (cB_iff (by omega)).2 (.inl h7)⟩])
    clear HW
    go_enter Tryz.func62, Tryz.ntmps62
    go_wp2
    go_returns
    exact ⟨rets1 (congrArg (Value.int .i64) HF.out), Below.refl _ _⟩
   ·by_cases h1 : n = 1
    ·subst h1
     by_cases hx : x = 0
     ·subst hx
      have HF : Hid (-1 = R) := Lib.hid (by rw [HW.out, if_neg (by rw [cB_zero]; simp), if_neg (by omega)])
      clear HW
      go_enter Tryz.func62, Tryz.ntmps62
      go_wp2_with fail
      go_quiet (fail)
      go_wp2
      go_returns
      exact ⟨rets1 (congrArg (Value.int .i64) HF.out), ⟨rfl, rfl, rfl, Nat.le_refl _, fun _ _ => rfl⟩⟩
     ·have hxb : (x != 0) = true := by simpa using hx
      have HF : Hid (1 = R) := Lib.hid (by rw [HW.out, if_pos ⟨h0, (cB_iff (by omega)).2 (.inr ⟨rfl, hx⟩)⟩])
      clear HW hx
      go_enter Tryz.func62, Tryz.ntmps62
      go_wp2
      go_returns
      exact ⟨rets1 (congrArg (Value.int .i64) HF.out), Below.refl _ _⟩
    ·have hnb : (n == 1) = false := by simpa using h1
     have h2 : 1 < n := by omega
     have hW : R = if (s.size : Int) = n ∧ cE x y = false then n else -1 := by
      rw [HW.out, if_neg (fun h => by have := (cB_iff (by omega)).1 h.2; omega)]
      by_cases h : (s.size : Int) = n ∧ cE x y = false
      ·rw [if_pos h, if_pos ⟨h2, h⟩]
      ·rw [if_neg h, if_neg (fun h3 => h h3.2)]
     clear HW h1
     by_cases hsz : (s.size : Int) = n
     ·subst hsz
      have hil : ((s.size : Int) - 1).toNat = s.size - 1 := by omega
      have HL := Lib.hid (refLow_any y x hy0 hy1 hx0 (by omega))
      have HXW : Hid (IntKind.i64.wrap x = x) := Lib.hid (by rw [IntKind.wrap_i64]; omega)
      by_cases he : lw y x = 0
      ·have HF : Hid (-1 = R) := Lib.hid (by rw [hW, if_neg (by rw [show cE x y = true from decide_eq_true he]; simp)])
       rw [he] at HL
       clear hW he
       go_enter Tryz.func62, Tryz.ntmps62
       go_wp2_with fail
       go_quiet ((go_at_call 83; exact Calls.quiet_of_same (HL.out _)))
       go_wp2
       go_returns
       exact ⟨rets1 (congrArg (Value.int .i64) HF.out), ⟨rfl, rfl, rfl, Nat.le_refl _, fun _ _ => rfl⟩⟩
      ·have HF : Hid ((s.size : Int) = R) := Lib.hid (by rw [hW, if_pos ⟨rfl, decide_eq_false he⟩])
       have heb : (lw y x != 0) = true := by simpa using he
       generalize lw y x = l at *
       clear hW he
       go_enter Tryz.func62, Tryz.ntmps62
       go_wp2_with fail
       go_quiet ((go_at_call 83; exact Calls.quiet_of_same (HL.out _)))
       go_wp2
       go_returns
       exact ⟨rets1 (congrArg (Value.int .i64) HF.out), ⟨rfl, rfl, rfl, Nat.le_refl _, fun _ _ => rfl⟩⟩
     ·have hszb : ((s.size : Int) == n) = false := by simpa using hsz
      have HF : Hid (-1 = R) := Lib.hid (by rw [hW, if_neg (fun h => hsz h.1)])
      clear hW hsz
      go_enter Tryz.func62, Tryz.ntmps62
      go_wp2_with fail
      go_quiet (fail)
      go_wp2
      go_returns
      exact ⟨rets1 (congrArg (Value.int .i64) HF.out), ⟨rfl, rfl, rfl, Nat.le_refl _, fun _ _ => rfl⟩⟩
  ·have hz : s.size = 0 := by omega
   have HF : Hid (-1 = R) := Lib.hid (by rw [HW.out, if_neg (fun h => h0 h.1), if_neg (by omega)])
   clear HW h0
   by_cases h1 : n = 1
   ·subst h1
    go_enter Tryz.func62, Tryz.ntmps62
    go_wp2_with fail
    go_quiet (fail)
    go_wp2
    go_returns
    exact ⟨rets1 (congrArg (Value.int .i64) HF.out), ⟨rfl, rfl, rfl, Nat.le_refl _, fun _ _ => rfl⟩⟩
   ·have h2 : 1 < n := by omega
    have hnb : ((0 : Int) == n) = false := by simp; omega
    clear h1
    go_enter Tryz.func62, Tryz.ntmps62
    go_wp2_with fail
    go_quiet (fail)
    go_wp2
    go_returns
    exact ⟨rets1 (congrArg (Value.int .i64) HF.out), ⟨rfl, rfl, rfl, Nat.le_refl _, fun _ _ => rfl⟩⟩
end Go.Proofs.YtiiimhamfibdbaaGreat
/- What bitstr's canBegin, canEnd, fits, Start, Push and isRight give: the landed code's contracts. Of every length, state and byte. -/
namespace Go.Proofs.YtiiimhamfibdbaaGreat
open Go.RowKit Go.PlainAid
set_option linter.unusedVariables false
def bSt (left : Int) (be : Bool) (un : Int) : List Value := [.int .i64 left, .bool be, .int .u8 un]
theorem infoBst : (Tryz.prog.info? 176).map (·.size) = some 3 := by kernel_rfl
theorem bst_load {W : World} {g : Nat} {x : Int} {y : Bool} {z : Int} (h : Row W g 176 (bSt x y z)) : (loadVar 176 ⟨g, 0, none⟩).run Tryz.prog W = .ok (.agg #[.int .i64 x, .bool y, .int .u8 z]) W :=
 run_loadVar_mid _ _ 0 _ (bSt x y z) _ h.whole Tryz.underlying176 rfl infoBst
theorem canBegin_any (u n : Int) (w : World) :
  Calls Tryz.prog 150 #[.int .u8 u, .int .i64 n] w fun e w' => e = .returned (.bool (cB u n)) ∧ w' = w := by
 by_cases h0 : u = 0
 ·subst h0
  have HF : Hid (true = cB 0 n) := Lib.hid (cB_zero n).symm
  go_enter Tryz.func150, Tryz.ntmps150
  go_wp2
  go_returns
  exact ⟨rets1 (congrArg Value.bool HF.out), rfl⟩
 ·have b0 : (u == 0) = false := by simpa using h0
  by_cases h1 : u ≤ 7
  ·by_cases h2 : 1 < n
   ·have HF : Hid (true = cB u n) := Lib.hid (decide_eq_true (.inr ⟨h1, h2⟩)).symm
    clear h0
    go_enter Tryz.func150, Tryz.ntmps150
    go_wp2
    go_returns
    exact ⟨rets1 (congrArg Value.bool HF.out), rfl⟩
   ·have HF : Hid (false = cB u n) := Lib.hid (decide_eq_false (by omega)).symm
    clear h0
    go_enter Tryz.func150, Tryz.ntmps150
    go_wp2
    go_returns
    exact ⟨rets1 (congrArg Value.bool HF.out), rfl⟩
  ·have HF : Hid (false = cB u n) := Lib.hid (decide_eq_false (by omega)).symm
   clear h0
   go_enter Tryz.func150, Tryz.ntmps150
   go_wp2
   go_returns
   exact ⟨rets1 (congrArg Value.bool HF.out), rfl⟩
theorem canEnd_any (u x : Int) (h0 : 0 ≤ u) (h1 : u ≤ 7) (x0 : 0 ≤ x) (x1 : x ≤ 255) (w : World) :
  Calls Tryz.prog 151 #[.int .u8 u, .int .u8 x] w fun e w' => e = .returned (.bool (cE u x)) ∧ w' = w := by
 obtain ⟨k, rfl⟩ := Int.eq_ofNat_of_zero_le h0
 have hk : k ≤ 7 := by omega
 have HA := Lib.hid (and8_low x k x0 x1 (by omega))
 have HF : Hid ((x % 2 ^ k == 0) = cE (k : Int) x) := Lib.hid (by unfold cE lw; rw [Int.toNat_natCast]; rfl)
 clear h0 h1
 rcases (by omega : k = 0 ∨ k = 1 ∨ k = 2 ∨ k = 3 ∨ k = 4 ∨ k = 5 ∨ k = 6 ∨ k = 7) with rfl | rfl | rfl | rfl | rfl | rfl | rfl | rfl
 all_goals
  simp only [Int.reducePow, Int.reduceSub] at HA HF
  have hA := HA.out
  go_enter Tryz.func151, Tryz.ntmps151
  go_wp2
  go_returns
  first | exact ⟨rets1 (congrArg Value.bool HF.out), rfl⟩ | exact ⟨rets1 (congrArg Value.bool (cE_zero x).symm), rfl⟩
def bFit (left : Int) (be : Bool) (un b : Int) : Bool := if be = true then decide (1 < left) || cE un b else cB b left
theorem bPush_fit (left : Int) (be : Bool) (un b : Int) (h : ¬ left < 1) : bPush left be un b = if bFit left be un b = true then (left - 1, true, (if be = true then un else b), true) else (0, false, 0, false) := by
 unfold bPush bFit
 rw [if_neg h]
 cases be
 ·simp
 ·simp
theorem fits_any (left : Int) (be : Bool) (un b : Int) (hu : 0 ≤ un ∧ un ≤ 7) (hb : 0 ≤ b ∧ b ≤ 255) (w : World) :
  Calls Tryz.prog 149 #[.agg #[.int .i64 left, .bool be, .int .u8 un], .int .u8 b] w fun e w' => e = .returned (.bool (bFit left be un b)) ∧ Below w.heap.size w w' := by
 cases be
 ·have HB := Lib.hid (canBegin_any b left)
  have HF : Hid (cB b left = bFit left false un b) := Lib.hid rfl
  go_enter Tryz.func149, Tryz.ntmps149
  go_wp2_with fail
  refine (HB.out _).mono ?_
  rintro e w1 ⟨rfl, rfl⟩
  go_wp2
  go_returns
  exact ⟨rets1 (congrArg Value.bool HF.out), by go_grown⟩
 ·by_cases h1 : 1 < left
  ·have HF : Hid (true = bFit left true un b) := Lib.hid (by unfold bFit; rw [if_pos rfl, decide_eq_true h1]; rfl)
   go_enter Tryz.func149, Tryz.ntmps149
   go_wp2
   go_returns
   exact ⟨rets1 (congrArg Value.bool HF.out), by go_grown⟩
  ·have HF : Hid (cE un b = bFit left true un b) := Lib.hid (by unfold bFit; rw [if_pos rfl, decide_eq_false h1]; rfl)
   have HE := Lib.hid (canEnd_any un b hu.1 hu.2 hb.1 hb.2)
   go_enter Tryz.func149, Tryz.ntmps149
   go_wp2_with fail
   refine (HE.out _).mono ?_
   rintro e w1 ⟨rfl, rfl⟩
   go_wp2
   go_returns
   exact ⟨rets1 (congrArg Value.bool HF.out), by go_grown⟩
def bStart (n : Int) : Int := if 1 ≤ n then n else 0
theorem bsStart_any (n : Int) (w : World) :
  Calls Tryz.prog 104 #[.int .i64 n] w fun e w' => e = .returned (.tuple #[.agg #[.int .i64 (bStart n), .bool false, .int .u8 0], .bool (decide (1 ≤ n))]) ∧ Below w.heap.size w w' := by
 by_cases h : n < 1
 ·have HO : Hid ((0 : Int) = bStart n) := Lib.hid (by unfold bStart; rw [if_neg (by omega)])
  have HB : Hid (false = decide (1 ≤ n)) := Lib.hid (decide_eq_false (by omega)).symm
  go_enter Tryz.func104, Tryz.ntmps104
  go_wp2
  exact bodyPost_ret (results_cell_one Tryz.results104 _ (ad := ⟨w.heap.size, 0, none⟩) rfl rfl (bst_load (Row.new w 176 (bSt 0 false 0)))) rfl ⟨rets2 (congrArg (fun z => Value.agg #[.int .i64 z, .bool false, .int .u8 0]) HO.out) (congrArg Value.bool HB.out), by go_grown⟩
 ·have HO : Hid (n = bStart n) := Lib.hid (by unfold bStart; rw [if_pos (by omega)])
  have HB : Hid (true = decide (1 ≤ n)) := Lib.hid (decide_eq_true (by omega)).symm
  go_enter Tryz.func104, Tryz.ntmps104
  go_wp2
  exact bodyPost_ret (results_cell_one Tryz.results104 _ (ad := ⟨w.heap.size, 0, none⟩) rfl rfl (bst_load (Row.new w 176 (bSt n false 0)))) rfl ⟨rets2 (congrArg (fun z => Value.agg #[.int .i64 z, .bool false, .int .u8 0]) HO.out) (congrArg Value.bool rfl), by go_grown⟩
set_option maxHeartbeats 1600000 in
theorem bsPush_any (left : Int) (be : Bool) (un b : Int) (hl : -9223372036854775808 ≤ left ∧ left ≤ 9223372036854775807) (hu : 0 ≤ un ∧ un ≤ 7) (hb : 0 ≤ b ∧ b ≤ 255) (w : World) :
  Calls Tryz.prog 148 #[.agg #[.int .i64 left, .bool be, .int .u8 un], .int .u8 b] w fun e w' => e = .returned (.tuple #[.agg #[.int .i64 (bPush left be un b).1, .bool (bPush left be un b).2.1, .int .u8 (bPush left be un b).2.2.1], .bool (bPush left be un b).2.2.2]) ∧ Below w.heap.size w w' := by
 obtain ⟨l0, l1⟩ := hl
 by_cases h1 : left < 1
 ·have HO : Hid (bPush left be un b = (0, false, 0, false)) := Lib.hid (by unfold bPush; rw [if_pos h1])
  go_enter Tryz.func148, Tryz.ntmps148
  go_wp2
  exact bodyPost_ret (results_cell_one Tryz.results148 _ (ad := ⟨w.heap.size + 1, 0, none⟩) rfl rfl (bst_load (row_new2 w _ 176 (bSt 0 false 0)))) rfl ⟨by rw [HO.out]; rfl, by go_grown⟩
 ·have HF := Lib.hid (fits_any left be un b hu hb)
  have HO := Lib.hid (bPush_fit left be un b h1)
  generalize bFit left be un b = f at *
  generalize bPush left be un b = R at *
  have HW1 := Lib.hid (Row.new w 176 (bSt left be un))
  have HW2 := Lib.hid (HW1.out.alloc (.cells #[.int .i64 0, .bool false, .int .u8 0] 176))
  have HV := Lib.hid (row_new2 w (.cells #[.int .i64 left, .bool be, .int .u8 un] 176) 176 (bSt 0 false 0))
  go_enter Tryz.func148, Tryz.ntmps148
  go_wp2_with fail
  refine (HF.out _).mono ?_
  rintro e w1 ⟨rfl, hb1⟩
  have HR1 := Lib.hid (HW2.out.below hb1 HW2.out.lt)
  have HV1 := Lib.hid (HV.out.below hb1 HV.out.lt)
  have HB1 := Lib.hid ((((Below.refl w.heap.size w).alloc (Nat.le_refl _) (.cells #[.int .i64 left, .bool be, .int .u8 un] 176)).alloc (by simp) (.cells #[.int .i64 0, .bool false, .int .u8 0] 176)).trans (hb1.mono (by simp; omega)))
  have c0 : w1.cell? ⟨w.heap.size, 0, none⟩ = some (.int .i64 left) := HR1.out.cell 0
  have c1 : w1.cell? ⟨w.heap.size, 1, none⟩ = some (.bool be) := HR1.out.cell 1
  have c2 : w1.cell? ⟨w.heap.size, 2, none⟩ = some (.int .u8 un) := HR1.out.cell 2
  have f0 := HR1.out.frozen 0
  have f1 := HR1.out.frozen 1
  have f2 := HR1.out.frozen 2
  have d0 : w1.cell? ⟨w.heap.size + 1, 0, none⟩ = some (.int .i64 0) := HV1.out.cell 0
  have d1 : w1.cell? ⟨w.heap.size + 1, 1, none⟩ = some (.bool false) := HV1.out.cell 1
  have d2 : w1.cell? ⟨w.heap.size + 1, 2, none⟩ = some (.int .u8 0) := HV1.out.cell 2
  have e0 := HV1.out.frozen 0
  have e1 := HV1.out.frozen 1
  have e2 := HV1.out.frozen 2
  have hls := HV1.out.lt
  clear hb1 HW1 HW2 HV
  cases f
  ·go_wp2
   have HVx : Row _ (w.heap.size + 1) 176 (bSt (0) false 0) := (((HV1.out).set 0 (.int .i64 0)).set 1 (.bool false)).set 2 (.int .u8 0)
   have HBx := (((HB1.out).setCell (p := ⟨w.heap.size + 1, 0, none⟩) (by simp) (.int .i64 0)).setCell (p := ⟨w.heap.size + 1, 1, none⟩) (by simp) (.bool false)).setCell (p := ⟨w.heap.size + 1, 2, none⟩) (by simp) (.int .u8 0)
   exact bodyPost_ret (results_cell_one Tryz.results148 _ (ad := ⟨w.heap.size + 1, 0, none⟩) rfl rfl (bst_load (x := 0) (y := false) (z := 0) HVx)) rfl ⟨by rw [HO.out]; rfl, HBx⟩
  ·cases be
   ·go_wp2
    have HVx : Row _ (w.heap.size + 1) 176 (bSt (left - 1) true b) := ((((((HV1.out).far (p := ⟨w.heap.size, 1, none⟩) (by simp) (.bool true)).far (p := ⟨w.heap.size, 2, none⟩) (by simp) (.int .u8 b)).far (p := ⟨w.heap.size, 0, none⟩) (by simp) (.int .i64 (left - 1))).set 0 (.int .i64 (left - 1))).set 1 (.bool true)).set 2 (.int .u8 b)
    have HBx := ((((((HB1.out).setCell (p := ⟨w.heap.size, 1, none⟩) (by simp) (.bool true)).setCell (p := ⟨w.heap.size, 2, none⟩) (by simp) (.int .u8 b)).setCell (p := ⟨w.heap.size, 0, none⟩) (by simp) (.int .i64 (left - 1))).setCell (p := ⟨w.heap.size + 1, 0, none⟩) (by simp) (.int .i64 (left - 1))).setCell (p := ⟨w.heap.size + 1, 1, none⟩) (by simp) (.bool true)).setCell (p := ⟨w.heap.size + 1, 2, none⟩) (by simp) (.int .u8 b)
    exact bodyPost_ret (results_cell_one Tryz.results148 _ (ad := ⟨w.heap.size + 1, 0, none⟩) rfl rfl (bst_load (x := left - 1) (y := true) (z := b) HVx)) rfl ⟨by rw [HO.out]; rfl, HBx⟩
   ·go_wp2
    have HVx : Row _ (w.heap.size + 1) 176 (bSt (left - 1) true un) := ((((HV1.out).far (p := ⟨w.heap.size, 0, none⟩) (by simp) (.int .i64 (left - 1))).set 0 (.int .i64 (left - 1))).set 1 (.bool true)).set 2 (.int .u8 un)
    have HBx := ((((HB1.out).setCell (p := ⟨w.heap.size, 0, none⟩) (by simp) (.int .i64 (left - 1))).setCell (p := ⟨w.heap.size + 1, 0, none⟩) (by simp) (.int .i64 (left - 1))).setCell (p := ⟨w.heap.size + 1, 1, none⟩) (by simp) (.bool true)).setCell (p := ⟨w.heap.size + 1, 2, none⟩) (by simp) (.int .u8 un)
    exact bodyPost_ret (results_cell_one Tryz.results148 _ (ad := ⟨w.heap.size + 1, 0, none⟩) rfl rfl (bst_load (x := left - 1) (y := true) (z := un) HVx)) rfl ⟨by rw [HO.out]; rfl, HBx⟩
end Go.Proofs.YtiiimhamfibdbaaGreat
