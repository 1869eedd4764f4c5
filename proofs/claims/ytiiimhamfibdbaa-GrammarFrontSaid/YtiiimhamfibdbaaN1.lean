/- What the reference's Wrong, Put and Get of numbers give. Of every tag, length, value and text. -/
import Derived.Test.YtiiimhamfibdbaaB0
import Derived.Test.YtiiimhamfibdbaaP0
import Derived.Laws.BytesArg
import Derived.Handy
namespace Go.Proofs.Ytiiimhamfibdbaa
open Go.RowKit Go.PlainAid
set_option linter.unusedVariables false
end Go.Proofs.Ytiiimhamfibdbaa
/- What number's Start and Push give: the landed code's contracts. Of every tag, length, state and byte. -/
namespace Go.Proofs.Ytiiimhamfibdbaa
open Go.RowKit Go.PlainAid
set_option linter.unusedVariables false
theorem infoNum : (Try.prog.info? 95).map (·.size) = some 1 := by kernel_rfl
theorem num_load {W : World} {g : Nat} {x : Int} (h : Row W g 95 [.int .u8 x]) : (loadVar 95 ⟨g, 0, none⟩).run Try.prog W = .ok (.agg #[.int .u8 x]) W :=
 run_loadVar_mid _ _ 0 _ [.int .u8 x] _ h.whole Try.underlying95 rfl infoNum
theorem canHave_any (tag n : Int) (w : World) :
  Calls Try.prog 60 #[.int .i64 tag, .int .i64 n] w fun e w' => e = .returned (.bool (nmOk tag n)) ∧ w' = w := by
 by_cases h2 : tag = 2
 ·subst h2
  have HO : Hid (decide (1 ≤ n) = nmOk 2 n) := Lib.hid (by simp [nmOk])
  go_enter Try.func60, Try.ntmps60
  go_wp2
  go_returns
  exact ⟨rets1 (congrArg Value.bool HO.out), rfl⟩
 ·by_cases h10 : tag = 10
  ·subst h10
   have HO : Hid (decide (1 ≤ n) = nmOk 10 n) := Lib.hid (by simp [nmOk])
   go_enter Try.func60, Try.ntmps60
   go_wp2
   go_returns
   exact ⟨rets1 (congrArg Value.bool HO.out), rfl⟩
  ·have b2 : (tag == 2) = false := by simpa using h2
   have b10 : (tag == 10) = false := by simpa using h10
   by_cases h1 : tag = 1
   ·subst h1
    have HO : Hid ((n == 1) = nmOk 1 n) := Lib.hid (by simp [nmOk]; rfl)
    go_enter Try.func60, Try.ntmps60
    go_wp2
    go_returns
    exact ⟨rets1 (congrArg Value.bool HO.out), rfl⟩
   ·have b1 : (tag == 1) = false := by simpa using h1
    by_cases h5 : tag = 5
    ·subst h5
     have HO : Hid ((n == 0) = nmOk 5 n) := Lib.hid (by simp [nmOk]; rfl)
     go_enter Try.func60, Try.ntmps60
     go_wp2
     go_returns
     exact ⟨rets1 (congrArg Value.bool HO.out), rfl⟩
    ·have b5 : (tag == 5) = false := by simpa using h5
     have HO : Hid (decide (0 ≤ n) = nmOk tag n) := Lib.hid (by simp [nmOk, h1, h2, h5, h10])
     go_enter Try.func60, Try.ntmps60
     go_wp2
     go_returns
     exact ⟨rets1 (congrArg Value.bool HO.out), rfl⟩
theorem nmFirst_any (tag : Int) (w : World) :
  Calls Try.prog 61 #[.int .i64 tag] w fun e w' => e = .returned (.int .u8 (nmFirst tag)) ∧ w' = w := by
 by_cases h2 : tag = 2
 ·subst h2
  go_enter Try.func61, Try.ntmps61
  go_wp2
  go_returns
  exact ⟨rfl, rfl⟩
 ·by_cases h10 : tag = 10
  ·subst h10
   go_enter Try.func61, Try.ntmps61
   go_wp2
   go_returns
   exact ⟨rfl, rfl⟩
  ·have b2 : (tag == 2) = false := by simpa using h2
   have b10 : (tag == 10) = false := by simpa using h10
   by_cases h1 : tag = 1
   ·subst h1
    go_enter Try.func61, Try.ntmps61
    go_wp2
    go_returns
    exact ⟨rfl, rfl⟩
   ·have b1 : (tag == 1) = false := by simpa using h1
    by_cases h5 : tag = 5
    ·subst h5
     go_enter Try.func61, Try.ntmps61
     go_wp2
     go_returns
     exact ⟨rfl, rfl⟩
    ·have b5 : (tag == 5) = false := by simpa using h5
     have HO : Hid (1 = nmFirst tag) := Lib.hid (by simp [nmFirst, h1, h2, h5, h10])
     go_enter Try.func61, Try.ntmps61
     go_wp2
     go_returns
     exact ⟨rets1 (congrArg (Value.int .u8) HO.out), rfl⟩
theorem nmSecond_any (b : Int) (w : World) :
  Calls Try.prog 85 #[.int .u8 b] w fun e w' => e = .returned (.int .u8 (nmSecond b)) ∧ w' = w := by
 by_cases h0 : b = 0
 ·subst h0
  go_enter Try.func85, Try.ntmps85
  go_wp2
  go_returns
  exact ⟨rfl, rfl⟩
 ·have b0 : (b == 0) = false := by simpa using h0
  by_cases h5 : b = 255
  ·subst h5
   go_enter Try.func85, Try.ntmps85
   go_wp2
   go_returns
   exact ⟨rfl, rfl⟩
  ·have b5 : (b == 255) = false := by simpa using h5
   have HO : Hid (1 = nmSecond b) := Lib.hid (by simp [nmSecond, h0, h5])
   go_enter Try.func85, Try.ntmps85
   go_wp2
   go_returns
   exact ⟨rets1 (congrArg (Value.int .u8) HO.out), rfl⟩
theorem nmRest_any (r : Bool) (w : World) :
  Calls Try.prog 86 #[.bool r] w fun e w' => e = .returned (.tuple #[.agg #[.int .u8 (if r then 1 else 0)], .bool r]) ∧ Below w.heap.size w w' := by
 cases r
 all_goals
  go_enter Try.func86, Try.ntmps86
  go_wp2
  exact bodyPost_ret (results_cell_one Try.results86 _ (ad := ⟨w.heap.size, 0, none⟩) rfl rfl (num_load (Row.new w 95 _))) rfl ⟨rfl, by go_grown⟩
theorem nmStart_any (tag n : Int) (w : World) :
  Calls Try.prog 47 #[.int .i64 tag, .int .i64 n] w fun e w' => e = .returned (.tuple #[.agg #[.int .u8 (if nmOk tag n then nmFirst tag else 0)], .bool (nmOk tag n)]) ∧ Below w.heap.size w w' := by
 have HC := Lib.hid (canHave_any tag n)
 have HF := Lib.hid (nmFirst_any tag)
 generalize nmOk tag n = ok at *
 generalize nmFirst tag = f at *
 cases ok
 ·go_enter Try.func47, Try.ntmps47
  go_wp2_with fail
  refine (HC.out _).mono ?_
  rintro e w1 ⟨rfl, rfl⟩
  go_wp2
  exact bodyPost_ret (results_cell_one Try.results47 _ (ad := ⟨w.heap.size, 0, none⟩) rfl rfl (num_load (Row.new w 95 _))) rfl ⟨rfl, by go_grown⟩
 ·go_enter Try.func47, Try.ntmps47
  go_wp2_with fail
  refine (HC.out _).mono ?_
  rintro e w1 ⟨rfl, rfl⟩
  go_wp2_with fail
  refine (HF.out _).mono ?_
  rintro e w1 ⟨rfl, rfl⟩
  go_wp2
  exact bodyPost_ret (results_cell_one Try.results47 _ (ad := ⟨w.heap.size, 0, none⟩) rfl rfl (num_load (Row.new w 95 _))) rfl ⟨rfl, by go_grown⟩
set_option maxHeartbeats 1600000 in
theorem nmPush_any (s b : Int) (hs : 0 ≤ s ∧ s ≤ 5) (hb : 0 ≤ b ∧ b ≤ 255) (w : World) :
  Calls Try.prog 84 #[.agg #[.int .u8 s], .int .u8 b] w fun e w' => e = .returned (.tuple #[.agg #[.int .u8 (nmPush s b).1], .bool (nmPush s b).2]) ∧ Below w.heap.size w w' := by
 have hw : s = 0 ∨ s = 1 ∨ s = 2 ∨ s = 3 ∨ s = 4 ∨ s = 5 := by omega
 clear hs
 rcases hw with rfl | rfl | rfl | rfl | rfl | rfl
 ·go_enter Try.func84, Try.ntmps84
  go_wp2
  exact bodyPost_ret (results_cell_one Try.results84 _ (ad := ⟨w.heap.size + 1, 0, none⟩) rfl rfl (num_load (row_new2 w _ 95 _))) rfl ⟨rfl, by go_grown⟩
 ·go_enter Try.func84, Try.ntmps84
  go_wp2
  exact bodyPost_ret (results_cell_one Try.results84 _ (ad := ⟨w.heap.size + 1, 0, none⟩) rfl rfl (num_load (row_new2 w _ 95 _))) rfl ⟨rfl, by go_grown⟩
 ·have HO : Hid ((b == 0 || b == 255) = (nmPush 2 b).2) := Lib.hid (by by_cases h : b = 0 <;> by_cases h2 : b = 255 <;> simp [nmPush, h, h2])
  by_cases h : b = 0
  ·subst h
   go_enter Try.func84, Try.ntmps84
   go_wp2
   exact bodyPost_ret (results_cell_one Try.results84 _ (ad := ⟨w.heap.size + 1, 0, none⟩) rfl rfl (num_load (row_new2 w _ 95 _))) rfl ⟨rfl, by go_grown⟩
  ·go_enter Try.func84, Try.ntmps84
   go_wp2
   exact bodyPost_ret (results_cell_one Try.results84 _ (ad := ⟨w.heap.size + 1, 0, none⟩) rfl rfl (num_load (row_new2 w _ 95 _))) rfl ⟨rets2 rfl (congrArg Value.bool HO.out), by go_grown⟩
 ·have HC := Lib.hid (nmSecond_any b)
  go_enter Try.func84, Try.ntmps84
  go_wp2_with fail
  refine (HC.out _).mono ?_
  rintro e w1 ⟨rfl, rfl⟩
  go_wp2
  exact bodyPost_ret (results_cell_one Try.results84 _ (ad := ⟨w.heap.size + 1, 0, none⟩) rfl rfl (num_load (row_new2 w _ 95 _))) rfl ⟨rfl, by go_grown⟩
 ·have HC := Lib.hid (nmRest_any (decide (128 ≤ b)))
  have HO : Hid (Ending.returned (.tuple #[.agg #[.int .u8 (if decide (128 ≤ b) then 1 else 0)], .bool (decide (128 ≤ b))]) = Ending.returned (.tuple #[.agg #[.int .u8 (nmPush 4 b).1], .bool (nmPush 4 b).2])) := Lib.hid (by by_cases h : 128 ≤ b <;> simp [nmPush, h])
  generalize (if decide (128 ≤ b) = true then 1 else 0 : Int) = x at HC HO
  go_enter Try.func84, Try.ntmps84
  go_wp2_with fail
  refine (HC.out _).mono ?_
  rintro e w1 ⟨rfl, hb1⟩
  have hR := row_new2 w (.cells #[.int .u8 4] 95) 95 [.int .u8 0]
  have hR1 := hR.below hb1 hR.lt
  have hB1 : Below w.heap.size w w1 := Below.trans (by go_grown) (hb1.mono (by simp; omega))
  have HR := Lib.hid hR1
  have h0 := hR1.cell 0
  have f0 := hR1.frozen 0
  clear hR hR1 hb1
  go_wp2
  exact bodyPost_ret (results_cell_one Try.results84 _ (ad := ⟨w.heap.size + 1, 0, none⟩) rfl rfl (num_load (HR.out.set 0 _))) rfl ⟨HO.out, hB1.setCell (by simp) _⟩
 ·have HC := Lib.hid (nmRest_any (decide (b < 128)))
  have HO : Hid (Ending.returned (.tuple #[.agg #[.int .u8 (if decide (b < 128) then 1 else 0)], .bool (decide (b < 128))]) = Ending.returned (.tuple #[.agg #[.int .u8 (nmPush 5 b).1], .bool (nmPush 5 b).2])) := Lib.hid (by by_cases h : b < 128 <;> simp [nmPush, h])
  generalize (if decide (b < 128) = true then 1 else 0 : Int) = x at HC HO
  go_enter Try.func84, Try.ntmps84
  go_wp2_with fail
  refine (HC.out _).mono ?_
  rintro e w1 ⟨rfl, hb1⟩
  have hR := row_new2 w (.cells #[.int .u8 5] 95) 95 [.int .u8 0]
  have hR1 := hR.below hb1 hR.lt
  have hB1 : Below w.heap.size w w1 := Below.trans (by go_grown) (hb1.mono (by simp; omega))
  have HR := Lib.hid hR1
  have h0 := hR1.cell 0
  have f0 := hR1.frozen 0
  clear hR hR1 hb1
  go_wp2
  exact bodyPost_ret (results_cell_one Try.results84 _ (ad := ⟨w.heap.size + 1, 0, none⟩) rfl rfl (num_load (HR.out.set 0 _))) rfl ⟨HO.out, hB1.setCell (by simp) _⟩
end Go.Proofs.Ytiiimhamfibdbaa
