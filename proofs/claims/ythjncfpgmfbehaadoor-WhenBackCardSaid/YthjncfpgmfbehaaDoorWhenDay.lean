/- What when's isLeap and Days give: the landed code's contracts. Of every year and month. -/
import Derived.Test.YthjncfpgmfbehaaDoorRefWhen
namespace Go.Proofs.YthjncfpgmfbehaaDoor
open Go.RowKit Go.PlainAid
set_option linter.unusedVariables false
set_option maxHeartbeats 1600000 in
theorem isLeap_any (y : Int) (hy : 0 ≤ y ∧ y ≤ 9999) (w : World) :
    Calls Tryd.prog 26 #[.int .i64 y] w fun e w' => e = .returned (.bool (leapI y)) ∧ w' = w := by
  have t4 : y.tmod 4 = y % 4 := Int.tmod_eq_emod_of_nonneg (by omega)
  have t1 : y.tmod 100 = y % 100 := Int.tmod_eq_emod_of_nonneg (by omega)
  have t3 : y.tmod 400 = y % 400 := Int.tmod_eq_emod_of_nonneg (by omega)
  have HF : Hid (leapI y = decide (y % 400 = 0 ∨ (y % 4 = 0 ∧ y % 100 ≠ 0))) := Lib.hid rfl
  generalize leapI y = R at *
  by_cases l2 : y % 4 = 0
  · by_cases l1 : y % 100 = 0
    · by_cases l4 : y % 400 = 0
      · have HR : Hid (true = R) := Lib.hid (by rw [HF.out, decide_eq_true (.inl l4)])
        have lb1 : (y % 100 != 0) = false := by simpa using l1
        clear HF
        go_enter Tryd.func26, Tryd.ntmps26
        go_wp2
        go_returns
        exact ⟨rets1 (congrArg Value.bool HR.out), rfl⟩
      · have HR : Hid (false = R) := Lib.hid (by rw [HF.out, decide_eq_false (by omega)])
        have lb1 : (y % 100 != 0) = false := by simpa using l1
        have lb4 : (y % 400 == 0) = false := by simpa using l4
        clear HF l4
        go_enter Tryd.func26, Tryd.ntmps26
        go_wp2
        go_returns
        exact ⟨rets1 (congrArg Value.bool HR.out), rfl⟩
    · have HR : Hid (true = R) := Lib.hid (by rw [HF.out, decide_eq_true (.inr ⟨l2, l1⟩)])
      have lb1 : (y % 100 != 0) = true := by simpa using l1
      clear HF l1
      go_enter Tryd.func26, Tryd.ntmps26
      go_wp2
      go_returns
      exact ⟨rets1 (congrArg Value.bool HR.out), rfl⟩
  · have HR : Hid (false = R) := Lib.hid (by rw [HF.out, decide_eq_false (by omega)])
    have lb2 : (y % 4 == 0) = false := by simpa using l2
    clear HF l2
    go_enter Tryd.func26, Tryd.ntmps26
    go_wp2
    go_returns
    exact ⟨rets1 (congrArg Value.bool HR.out), rfl⟩
set_option maxHeartbeats 4000000 in
theorem whenDays_q (y m : Int) (hy : -9223372036854775808 ≤ y ∧ y ≤ 9223372036854775807) (w : World) :
    Calls Tryd.prog 18 #[.int .i64 y, .int .i64 m] w fun e w' => e = .returned (.int .i64 (dysI y m)) ∧ w' = w := by
  have HF : Hid (dysI y m = _) := Lib.hid (by unfold dysI; rfl)
  generalize dysI y m = R at *
  by_cases h0 : y < 0
  · have HR : Hid (0 = R) := Lib.hid (by rw [HF.out, if_pos (.inl h0)])
    clear HF
    go_enter Tryd.func18, Tryd.ntmps18
    go_wp2
    go_returns
    exact ⟨rets1 (congrArg (Value.int .i64) HR.out), rfl⟩
  · by_cases h1 : 9999 < y
    · have HR : Hid (0 = R) := Lib.hid (by rw [HF.out, if_pos (.inr h1)])
      clear HF
      go_enter Tryd.func18, Tryd.ntmps18
      go_wp2
      go_returns
      exact ⟨rets1 (congrArg (Value.int .i64) HR.out), rfl⟩
    · have HM : Hid (R = if m = 1 ∨ m = 3 ∨ m = 5 ∨ m = 7 ∨ m = 8 ∨ m = 10 ∨ m = 12 then 31 else if m = 4 ∨ m = 6 ∨ m = 9 ∨ m = 11 then 30 else if m = 2 then (if y % 400 = 0 ∨ (y % 4 = 0 ∧ y % 100 ≠ 0) then 29 else 28) else 0) := Lib.hid (by rw [HF.out, if_neg (by omega)])
      clear HF
      by_cases hm : 1 ≤ m ∧ m ≤ 12
      · obtain ⟨m0, m1⟩ := hm
        rcases (by omega : m = 2 ∨ m = 1 ∨ m = 3 ∨ m = 4 ∨ m = 5 ∨ m = 6 ∨ m = 7 ∨ m = 8 ∨ m = 9 ∨ m = 10 ∨ m = 11 ∨ m = 12) with rfl | rfl | rfl | rfl | rfl | rfl | rfl | rfl | rfl | rfl | rfl | rfl
        · have HL := Lib.hid (isLeap_any y (by omega))
          have HR : Hid ((if leapI y = true then (29 : Int) else 28) = R) := Lib.hid (by
            rw [HM.out, if_neg (show ¬ ((2 : Int) = 1 ∨ (2 : Int) = 3 ∨ (2 : Int) = 5 ∨ (2 : Int) = 7 ∨ (2 : Int) = 8 ∨ (2 : Int) = 10 ∨ (2 : Int) = 12) by decide), if_neg (show ¬ ((2 : Int) = 4 ∨ (2 : Int) = 6 ∨ (2 : Int) = 9 ∨ (2 : Int) = 11) by decide), if_pos (show (2 : Int) = 2 from rfl)]
            unfold leapI
            by_cases hh : y % 400 = 0 ∨ (y % 4 = 0 ∧ y % 100 ≠ 0)
            · rw [if_pos hh, if_pos (decide_eq_true hh)]
            · rw [if_neg hh, if_neg (by rw [decide_eq_true_eq]; exact hh)])
          clear HM
          generalize leapI y = lp at *
          cases lp
          all_goals
            go_enter Tryd.func18, Tryd.ntmps18
            go_wp2_with fail
            refine (HL.out _).mono ?_
            rintro e w1 ⟨rfl, rfl⟩
            go_wp2
            go_returns
            exact ⟨rets1 (congrArg (Value.int .i64) HR.out), rfl⟩
        all_goals
          have HR := HM.out
          simp at HR
          subst HR
          clear HM
          go_enter Tryd.func18, Tryd.ntmps18
          go_wp2
          go_returns
          exact ⟨rfl, rfl⟩
      · have HR : Hid (0 = R) := Lib.hid (by rw [HM.out, if_neg (by omega), if_neg (by omega), if_neg (by omega)])
        have c1 : (m == 1) = false := by simp; omega
        have c2 : (m == 2) = false := by simp; omega
        have c3 : (m == 3) = false := by simp; omega
        have c4 : (m == 4) = false := by simp; omega
        have c5 : (m == 5) = false := by simp; omega
        have c6 : (m == 6) = false := by simp; omega
        have c7 : (m == 7) = false := by simp; omega
        have c8 : (m == 8) = false := by simp; omega
        have c9 : (m == 9) = false := by simp; omega
        have c10 : (m == 10) = false := by simp; omega
        have c11 : (m == 11) = false := by simp; omega
        have c12 : (m == 12) = false := by simp; omega
        clear HM hm
        go_enter Tryd.func18, Tryd.ntmps18
        go_wp2
        go_returns
        exact ⟨rets1 (congrArg (Value.int .i64) HR.out), rfl⟩
theorem whenDays_any (y m : Int) (hy : -9223372036854775808 ≤ y ∧ y ≤ 9223372036854775807) (hm : -9223372036854775808 ≤ m ∧ m ≤ 9223372036854775807) (w : World) :
    Calls Tryd.prog 18 #[.int .i64 y, .int .i64 m] w fun e w' => e = .returned (.int .i64 (dysI y m)) ∧ Below w.heap.size w w' :=
  (whenDays_q y m hy w).mono (by rintro e w' ⟨rfl, rfl⟩; exact ⟨rfl, Below.refl _ _⟩)
end Go.Proofs.YthjncfpgmfbehaaDoor
