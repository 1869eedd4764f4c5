/- What the reference's Wrong, Put and Get of numbers give. Of every tag, length, value and text. -/
import Derived.Test.YtiiimhamfibdbaaGreatB0
import Derived.Test.YtiiimhamfibdbaaGreatP0
import Derived.Laws.BytesArg
import Derived.Handy
namespace Go.Proofs.YtiiimhamfibdbaaGreat
open Go.RowKit Go.PlainAid
set_option linter.unusedVariables false
theorem nW_neg {tag n : Int} {k : Nat} {x y : Int} (h : n < 0) : nW tag n k x y = 0 := by unfold nW; rw [if_pos h]
theorem nW_five {n : Int} {k : Nat} {x y : Int} (h : 0 ≤ n) : nW 5 n k x y = if n = 0 then -1 else 0 := by unfold nW; rw [if_neg (by omega), if_pos rfl]
theorem nW_one {n : Int} {k : Nat} {x y : Int} (h : 0 ≤ n) : nW 1 n k x y = if n = 1 then (if 0 < k ∧ x ≠ 0 ∧ x ≠ 255 then 1 else -1) else 0 := by unfold nW; rw [if_neg (by omega), if_neg (by decide), if_pos rfl]
theorem nW_two {tag n : Int} {k : Nat} {x y : Int} (h : 0 ≤ n) (ht : tag = 2 ∨ tag = 10) : nW tag n k x y = if n = 0 then 0 else if 1 < k ∧ (x = 0 ∧ y < 128 ∨ x = 255 ∧ 127 < y) then 2 else -1 := by
 unfold nW; rw [if_neg (by omega), if_neg (by omega), if_neg (by omega), if_pos ht]
theorem nW_any {tag n : Int} {k : Nat} {x y : Int} (h : 0 ≤ n) (h1 : tag ≠ 1) (h2 : tag ≠ 2) (h5 : tag ≠ 5) (h10 : tag ≠ 10) : nW tag n k x y = -1 := by
 unfold nW; rw [if_neg (by omega), if_neg h5, if_neg h1, if_neg (by omega)]
set_option maxRecDepth 100000 in
set_option maxHeartbeats 1600000 in
theorem refNumInt_any (tag n : Int) (s : ByteArray) (hs : s.size ≤ maxLen) (h0 : 0 ≤ n) (ht : tag = 2 ∨ tag = 10) (w : World) :
  Calls Tryz.prog 60 #[.int .i64 tag, .int .i64 n, .string s] w fun e w' => e = .returned (.int .i64 (nmWrong tag n s)) ∧ w' = w := by
 have hb9 : (s.size : Int) ≤ 9223372036854775807 := by unfold maxLen at hs; omega
 have HW : Hid (nmWrong tag n s = _) := Lib.hid (nW_two (tag := tag) (n := n) (k := s.size) (x := bt s 0) (y := bt s 1) h0 ht)
 generalize nmWrong tag n s = W at *
 have b5 : (tag == 5) = false := by simp; omega
 have b1 : (tag == 1) = false := by simp; omega
 have hn0 : ¬ n < 0 := by omega
 have HT : Hid ((tag != 2 && tag != 10) = false) := Lib.hid (by rcases ht with rfl | rfl <;> rfl)
 rcases ht with rfl | rfl
 all_goals
  clear HT b5 b1
  by_cases hz : n = 0
  ·subst hz
   have HF : Hid (0 = W) := Lib.hid (by rw [HW.out, if_pos rfl])
   go_enter Tryz.func60, Tryz.ntmps60
   go_wp2
   go_returns
   exact ⟨rets1 (congrArg (Value.int .i64) HF.out), rfl⟩
  ·have bz : (n == 0) = false := by simpa using hz
   by_cases hk : 1 < s.size
   ·have hk1 : (1 : Int) < (s.size : Int) := by omega
    have g0 := get_bt s 0 (by omega)
    have g1 := get_bt s 1 hk
    have x0 := bt_nonneg s 0
    have x1 := bt_le s 0
    have y0 := bt_nonneg s 1
    have y1 := bt_le s 1
    generalize bt s 0 = x at *
    generalize bt s 1 = y at *
    by_cases hx0 : x = 0
    ·subst hx0
     by_cases hy : y < 128
     ·have HF : Hid (2 = W) := Lib.hid (by rw [HW.out, if_neg hz, if_pos ⟨hk, by omega⟩])
      go_enter Tryz.func60, Tryz.ntmps60
      go_wp2
      go_returns
      exact ⟨rets1 (congrArg (Value.int .i64) HF.out), rfl⟩
     ·have HF : Hid (-1 = W) := Lib.hid (by rw [HW.out, if_neg hz, if_neg (by omega)])
      go_enter Tryz.func60, Tryz.ntmps60
      go_wp2
      go_returns
      exact ⟨rets1 (congrArg (Value.int .i64) HF.out), rfl⟩
    ·have bx0 : (x == 0) = false := by simpa using hx0
     by_cases hx5 : x = 255
     ·subst hx5
      by_cases hy : 127 < y
      ·have HF : Hid (2 = W) := Lib.hid (by rw [HW.out, if_neg hz, if_pos ⟨hk, by omega⟩])
       go_enter Tryz.func60, Tryz.ntmps60
       go_wp2
       go_returns
       exact ⟨rets1 (congrArg (Value.int .i64) HF.out), rfl⟩
      ·have HF : Hid (-1 = W) := Lib.hid (by rw [HW.out, if_neg hz, if_neg (by omega)])
       go_enter Tryz.func60, Tryz.ntmps60
       go_wp2
       go_returns
       exact ⟨rets1 (congrArg (Value.int .i64) HF.out), rfl⟩
     ·have bx5 : (x == 255) = false := by simpa using hx5
      have HF : Hid (-1 = W) := Lib.hid (by rw [HW.out, if_neg hz, if_neg (by omega)])
      go_enter Tryz.func60, Tryz.ntmps60
      go_wp2
      go_returns
      exact ⟨rets1 (congrArg (Value.int .i64) HF.out), rfl⟩
   ·have hk1 : ¬ (1 : Int) < (s.size : Int) := by omega
    have HF : Hid (-1 = W) := Lib.hid (by rw [HW.out, if_neg hz, if_neg (by omega)])
    go_enter Tryz.func60, Tryz.ntmps60
    go_wp2
    go_returns
    exact ⟨rets1 (congrArg (Value.int .i64) HF.out), rfl⟩
set_option maxRecDepth 100000 in
set_option maxHeartbeats 1600000 in
theorem refNumWrong_any (tag n : Int) (s : ByteArray) (hs : s.size ≤ maxLen) (w : World) :
  Calls Tryz.prog 60 #[.int .i64 tag, .int .i64 n, .string s] w fun e w' => e = .returned (.int .i64 (nmWrong tag n s)) ∧ w' = w := by
 have hb9 : (s.size : Int) ≤ 9223372036854775807 := by unfold maxLen at hs; omega
 by_cases hn : n < 0
 ·have HF : Hid (0 = nmWrong tag n s) := Lib.hid (nW_neg hn).symm
  go_enter Tryz.func60, Tryz.ntmps60
  go_wp2
  go_returns
  exact ⟨rets1 (congrArg (Value.int .i64) HF.out), rfl⟩
 ·have h0 : 0 ≤ n := by omega
  by_cases ht : tag = 2 ∨ tag = 10
  ·exact refNumInt_any tag n s hs h0 ht w
  ·have b2 : (tag != 2) = true := by simp; omega
   have b10 : (tag != 10) = true := by simp; omega
   by_cases h5 : tag = 5
   ·subst h5
    have HW : Hid (nmWrong 5 n s = _) := Lib.hid (nW_five h0)
    clear ht b2 b10
    by_cases hz : n = 0
    ·subst hz
     have HF : Hid (-1 = nmWrong 5 0 s) := Lib.hid (by rw [HW.out, if_pos rfl])
     go_enter Tryz.func60, Tryz.ntmps60
     go_wp2
     go_returns
     exact ⟨rets1 (congrArg (Value.int .i64) HF.out), rfl⟩
    ·have bz : (n == 0) = false := by simpa using hz
     have HF : Hid (0 = nmWrong 5 n s) := Lib.hid (by rw [HW.out, if_neg hz])
     go_enter Tryz.func60, Tryz.ntmps60
     go_wp2
     go_returns
     exact ⟨rets1 (congrArg (Value.int .i64) HF.out), rfl⟩
   ·have b5 : (tag == 5) = false := by simpa using h5
    by_cases h1 : tag = 1
    ·subst h1
     have HW : Hid (nmWrong 1 n s = _) := Lib.hid (nW_one h0)
     clear ht b2 b10 b5 h5
     by_cases hz : n = 1
     ·subst hz
      rw [if_pos rfl] at HW
      generalize nmWrong 1 1 s = W at *
      by_cases hk : 0 < s.size
      ·have hk1 : (0 : Int) < (s.size : Int) := by omega
       have g0 := get_bt s 0 hk
       have x0 := bt_nonneg s 0
       have x1 := bt_le s 0
       generalize bt s 0 = x at *
       by_cases hx0 : x = 0
       ·subst hx0
        have HF : Hid (-1 = W) := Lib.hid (by rw [HW.out, if_neg (by omega)])
        go_enter Tryz.func60, Tryz.ntmps60
        go_wp2
        go_returns
        exact ⟨rets1 (congrArg (Value.int .i64) HF.out), rfl⟩
       ·have bx0 : (x != 0) = true := by simpa using hx0
        by_cases hx5 : x = 255
        ·subst hx5
         have HF : Hid (-1 = W) := Lib.hid (by rw [HW.out, if_neg (by omega)])
         go_enter Tryz.func60, Tryz.ntmps60
         go_wp2
         go_returns
         exact ⟨rets1 (congrArg (Value.int .i64) HF.out), rfl⟩
        ·have bx5 : (x != 255) = true := by simpa using hx5
         have HF : Hid (1 = W) := Lib.hid (by rw [HW.out, if_pos ⟨hk, hx0, hx5⟩])
         go_enter Tryz.func60, Tryz.ntmps60
         go_wp2
         go_returns
         exact ⟨rets1 (congrArg (Value.int .i64) HF.out), rfl⟩
      ·have hk1 : ¬ (0 : Int) < (s.size : Int) := by omega
       have HF : Hid (-1 = W) := Lib.hid (by rw [HW.out, if_neg (by omega)])
       go_enter Tryz.func60, Tryz.ntmps60
       go_wp2
       go_returns
       exact ⟨rets1 (congrArg (Value.int .i64) HF.out), rfl⟩
     ·have bz : (n != 1) = true := by simpa using hz
      have HF : Hid (0 = nmWrong 1 n s) := Lib.hid (by rw [HW.out, if_neg hz])
      go_enter Tryz.func60, Tryz.ntmps60
      go_wp2
      go_returns
      exact ⟨rets1 (congrArg (Value.int .i64) HF.out), rfl⟩
    ·have b1 : (tag == 1) = false := by simpa using h1
     have HF : Hid (-1 = nmWrong tag n s) := Lib.hid (nW_any h0 h1 (by omega) h5 (by omega)).symm
     go_enter Tryz.func60, Tryz.ntmps60
     go_wp2
     go_returns
     exact ⟨rets1 (congrArg (Value.int .i64) HF.out), rfl⟩
end Go.Proofs.YtiiimhamfibdbaaGreat
/- What number's Start and Push give: the landed code's contracts. Of every tag, length, state and byte. -/
namespace Go.Proofs.YtiiimhamfibdbaaGreat
open Go.RowKit Go.PlainAid
set_option linter.unusedVariables false
theorem infoNum : (Tryz.prog.info? 166).map (·.size) = some 1 := by kernel_rfl
theorem num_load {W : World} {g : Nat} {x : Int} (h : Row W g 166 [.int .u8 x]) : (loadVar 166 ⟨g, 0, none⟩).run Tryz.prog W = .ok (.agg #[.int .u8 x]) W :=
 run_loadVar_mid _ _ 0 _ [.int .u8 x] _ h.whole Tryz.underlying166 rfl infoNum
theorem canHave_any (tag n : Int) (w : World) :
  Calls Tryz.prog 119 #[.int .i64 tag, .int .i64 n] w fun e w' => e = .returned (.bool (nmOk tag n)) ∧ w' = w := by
 by_cases h2 : tag = 2
 ·subst h2
  have HO : Hid (decide (1 ≤ n) = nmOk 2 n) := Lib.hid (by simp [nmOk])
  go_enter Tryz.func119, Tryz.ntmps119
  go_wp2
  go_returns
  exact ⟨rets1 (congrArg Value.bool HO.out), rfl⟩
 ·by_cases h10 : tag = 10
  ·subst h10
   have HO : Hid (decide (1 ≤ n) = nmOk 10 n) := Lib.hid (by simp [nmOk])
   go_enter Tryz.func119, Tryz.ntmps119
   go_wp2
   go_returns
   exact ⟨rets1 (congrArg Value.bool HO.out), rfl⟩
  ·have b2 : (tag == 2) = false := by simpa using h2
   have b10 : (tag == 10) = false := by simpa using h10
   by_cases h1 : tag = 1
   ·subst h1
    have HO : Hid ((n == 1) = nmOk 1 n) := Lib.hid (by simp [nmOk]; rfl)
    go_enter Tryz.func119, Tryz.ntmps119
    go_wp2
    go_returns
    exact ⟨rets1 (congrArg Value.bool HO.out), rfl⟩
   ·have b1 : (tag == 1) = false := by simpa using h1
    by_cases h5 : tag = 5
    ·subst h5
     have HO : Hid ((n == 0) = nmOk 5 n) := Lib.hid (by simp [nmOk]; rfl)
     go_enter Tryz.func119, Tryz.ntmps119
     go_wp2
     go_returns
     exact ⟨rets1 (congrArg Value.bool HO.out), rfl⟩
    ·have b5 : (tag == 5) = false := by simpa using h5
     have HO : Hid (decide (0 ≤ n) = nmOk tag n) := Lib.hid (by simp [nmOk, h1, h2, h5, h10])
     go_enter Tryz.func119, Tryz.ntmps119
     go_wp2
     go_returns
     exact ⟨rets1 (congrArg Value.bool HO.out), rfl⟩
theorem nmFirst_any (tag : Int) (w : World) :
  Calls Tryz.prog 120 #[.int .i64 tag] w fun e w' => e = .returned (.int .u8 (nmFirst tag)) ∧ w' = w := by
 by_cases h2 : tag = 2
 ·subst h2
  go_enter Tryz.func120, Tryz.ntmps120
  go_wp2
  go_returns
  exact ⟨rfl, rfl⟩
 ·by_cases h10 : tag = 10
  ·subst h10
   go_enter Tryz.func120, Tryz.ntmps120
   go_wp2
   go_returns
   exact ⟨rfl, rfl⟩
  ·have b2 : (tag == 2) = false := by simpa using h2
   have b10 : (tag == 10) = false := by simpa using h10
   by_cases h1 : tag = 1
   ·subst h1
    go_enter Tryz.func120, Tryz.ntmps120
    go_wp2
    go_returns
    exact ⟨rfl, rfl⟩
   ·have b1 : (tag == 1) = false := by simpa using h1
    by_cases h5 : tag = 5
    ·subst h5
     go_enter Tryz.func120, Tryz.ntmps120
     go_wp2
     go_returns
     exact ⟨rfl, rfl⟩
    ·have b5 : (tag == 5) = false := by simpa using h5
     have HO : Hid (1 = nmFirst tag) := Lib.hid (by simp [nmFirst, h1, h2, h5, h10])
     go_enter Tryz.func120, Tryz.ntmps120
     go_wp2
     go_returns
     exact ⟨rets1 (congrArg (Value.int .u8) HO.out), rfl⟩
theorem nmSecond_any (b : Int) (w : World) :
  Calls Tryz.prog 145 #[.int .u8 b] w fun e w' => e = .returned (.int .u8 (nmSecond b)) ∧ w' = w := by
 by_cases h0 : b = 0
 ·subst h0
  go_enter Tryz.func145, Tryz.ntmps145
  go_wp2
  go_returns
  exact ⟨rfl, rfl⟩
 ·have b0 : (b == 0) = false := by simpa using h0
  by_cases h5 : b = 255
  ·subst h5
   go_enter Tryz.func145, Tryz.ntmps145
   go_wp2
   go_returns
   exact ⟨rfl, rfl⟩
  ·have b5 : (b == 255) = false := by simpa using h5
   have HO : Hid (1 = nmSecond b) := Lib.hid (by simp [nmSecond, h0, h5])
   go_enter Tryz.func145, Tryz.ntmps145
   go_wp2
   go_returns
   exact ⟨rets1 (congrArg (Value.int .u8) HO.out), rfl⟩
theorem nmRest_any (r : Bool) (w : World) :
  Calls Tryz.prog 146 #[.bool r] w fun e w' => e = .returned (.tuple #[.agg #[.int .u8 (if r then 1 else 0)], .bool r]) ∧ Below w.heap.size w w' := by
 cases r
 all_goals
  go_enter Tryz.func146, Tryz.ntmps146
  go_wp2
  exact bodyPost_ret (results_cell_one Tryz.results146 _ (ad := ⟨w.heap.size, 0, none⟩) rfl rfl (num_load (Row.new w 166 _))) rfl ⟨rfl, by go_grown⟩
theorem nmStart_any (tag n : Int) (w : World) :
  Calls Tryz.prog 100 #[.int .i64 tag, .int .i64 n] w fun e w' => e = .returned (.tuple #[.agg #[.int .u8 (if nmOk tag n then nmFirst tag else 0)], .bool (nmOk tag n)]) ∧ Below w.heap.size w w' := by
 have HC := Lib.hid (canHave_any tag n)
 have HF := Lib.hid (nmFirst_any tag)
 generalize nmOk tag n = ok at *
 generalize nmFirst tag = f at *
 cases ok
 ·go_enter Tryz.func100, Tryz.ntmps100
  go_wp2_with fail
  refine (HC.out _).mono ?_
  rintro e w1 ⟨rfl, rfl⟩
  go_wp2
  exact bodyPost_ret (results_cell_one Tryz.results100 _ (ad := ⟨w.heap.size, 0, none⟩) rfl rfl (num_load (Row.new w 166 _))) rfl ⟨rfl, by go_grown⟩
 ·go_enter Tryz.func100, Tryz.ntmps100
  go_wp2_with fail
  refine (HC.out _).mono ?_
  rintro e w1 ⟨rfl, rfl⟩
  go_wp2_with fail
  refine (HF.out _).mono ?_
  rintro e w1 ⟨rfl, rfl⟩
  go_wp2
  exact bodyPost_ret (results_cell_one Tryz.results100 _ (ad := ⟨w.heap.size, 0, none⟩) rfl rfl (num_load (Row.new w 166 _))) rfl ⟨rfl, by go_grown⟩
set_option maxHeartbeats 1600000 in
theorem nmPush_any (s b : Int) (hs : 0 ≤ s ∧ s ≤ 5) (hb : 0 ≤ b ∧ b ≤ 255) (w : World) :
  Calls Tryz.prog 144 #[.agg #[.int .u8 s], .int .u8 b] w fun e w' => e = .returned (.tuple #[.agg #[.int .u8 (nmPush s b).1], .bool (nmPush s b).2]) ∧ Below w.heap.size w w' := by
 have hw : s = 0 ∨ s = 1 ∨ s = 2 ∨ s = 3 ∨ s = 4 ∨ s = 5 := by omega
 clear hs
 rcases hw with rfl | rfl | rfl | rfl | rfl | rfl
 ·go_enter Tryz.func144, Tryz.ntmps144
  go_wp2
  exact bodyPost_ret (results_cell_one Tryz.results144 _ (ad := ⟨w.heap.size + 1, 0, none⟩) rfl rfl (num_load (row_new2 w _ 166 _))) rfl ⟨rfl, by go_grown⟩
 ·go_enter Tryz.func144, Tryz.ntmps144
  go_wp2
  exact bodyPost_ret (results_cell_one Tryz.results144 _ (ad := ⟨w.heap.size + 1, 0, none⟩) rfl rfl (num_load (row_new2 w _ 166 _))) rfl ⟨rfl, by go_grown⟩
 ·have HO : Hid ((b == 0 || b == 255) = (nmPush 2 b).2) := Lib.hid (by by_cases h : b = 0 <;> by_cases h2 : b = 255 <;> simp [nmPush, h, h2])
  by_cases h : b = 0
  ·subst h
   go_enter Tryz.func144, Tryz.ntmps144
   go_wp2
   exact bodyPost_ret (results_cell_one Tryz.results144 _ (ad := ⟨w.heap.size + 1, 0, none⟩) rfl rfl (num_load (row_new2 w _ 166 _))) rfl ⟨rfl, by go_grown⟩
  ·go_enter Tryz.func144, Tryz.ntmps144
   go_wp2
   exact bodyPost_ret (results_cell_one Tryz.results144 _ (ad := ⟨w.heap.size + 1, 0, none⟩) rfl rfl (num_load (row_new2 w _ 166 _))) rfl ⟨rets2 rfl (congrArg Value.bool HO.out), by go_grown⟩
 ·have HC := Lib.hid (nmSecond_any b)
  go_enter Tryz.func144, Tryz.ntmps144
  go_wp2_with fail
  refine (HC.out _).mono ?_
  rintro e w1 ⟨rfl, rfl⟩
  go_wp2
  exact bodyPost_ret (results_cell_one Tryz.results144 _ (ad := ⟨w.heap.size + 1, 0, none⟩) rfl rfl (num_load (row_new2 w _ 166 _))) rfl ⟨rfl, by go_grown⟩
 ·have HC := Lib.hid (nmRest_any (decide (128 ≤ b)))
  have HO : Hid (Ending.returned (.tuple #[.agg #[.int .u8 (if decide (128 ≤ b) then 1 else 0)], .bool (decide (128 ≤ b))]) = Ending.returned (.tuple #[.agg #[.int .u8 (nmPush 4 b).1], .bool (nmPush 4 b).2])) := Lib.hid (by by_cases h : 128 ≤ b <;> simp [nmPush, h])
  generalize (if decide (128 ≤ b) = true then 1 else 0 : Int) = x at HC HO
  go_enter Tryz.func144, Tryz.ntmps144
  go_wp2_with fail
  refine (HC.out _).mono ?_
  rintro e w1 ⟨rfl, hb1⟩
  have hR := row_new2 w (.cells #[.int .u8 4] 166) 166 [.int .u8 0]
  have hR1 := hR.below hb1 hR.lt
  have hB1 : Below w.heap.size w w1 := Below.trans (by go_grown) (hb1.mono (by simp; omega))
  have HR := Lib.hid hR1
  have h0 := hR1.cell 0
  have f0 := hR1.frozen 0
  clear hR hR1 hb1
  go_wp2
  exact bodyPost_ret (results_cell_one Tryz.results144 _ (ad := ⟨w.heap.size + 1, 0, none⟩) rfl rfl (num_load (HR.out.set 0 _))) rfl ⟨HO.out, hB1.setCell (by simp) _⟩
 ·have HC := Lib.hid (nmRest_any (decide (b < 128)))
  have HO : Hid (Ending.returned (.tuple #[.agg #[.int .u8 (if decide (b < 128) then 1 else 0)], .bool (decide (b < 128))]) = Ending.returned (.tuple #[.agg #[.int .u8 (nmPush 5 b).1], .bool (nmPush 5 b).2])) := Lib.hid (by by_cases h : b < 128 <;> simp [nmPush, h])
  generalize (if decide (b < 128) = true then 1 else 0 : Int) = x at HC HO
  go_enter Tryz.func144, Tryz.ntmps144
  go_wp2_with fail
  refine (HC.out _).mono ?_
  rintro e w1 ⟨rfl, hb1⟩
  have hR := row_new2 w (.cells #[.int .u8 5] 166) 166 [.int .u8 0]
  have hR1 := hR.below hb1 hR.lt
  have hB1 : Below w.heap.size w w1 := Below.trans (by go_grown) (hb1.mono (by simp; omega))
  have HR := Lib.hid hR1
  have h0 := hR1.cell 0
  have f0 := hR1.frozen 0
  clear hR hR1 hb1
  go_wp2
  exact bodyPost_ret (results_cell_one Tryz.results144 _ (ad := ⟨w.heap.size + 1, 0, none⟩) rfl rfl (num_load (HR.out.set 0 _))) rfl ⟨HO.out, hB1.setCell (by simp) _⟩
end Go.Proofs.YtiiimhamfibdbaaGreat
