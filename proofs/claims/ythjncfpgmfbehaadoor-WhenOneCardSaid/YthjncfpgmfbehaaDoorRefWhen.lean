/- What the reference's Days, two, plain and year of times give. Of every number, and every text of at most a million bytes. -/
import Derived.Test.YthjncfpgmfbehaaDoorByteSl
import Derived.Test.YthjncfpgmfbehaaDoorWhen
import Derived.Lib.Strings
import Derived.Laws.Cover1
import Derived.Handy
import Derived.Laws.BytesArg
namespace Go.Proofs.YthjncfpgmfbehaaDoor
open Go.RowKit Go.PlainAid
set_option linter.unusedVariables false
def twoI (l : List Int) (i : Nat) : Int := if isD (g l i) ∧ isD (g l (i + 1)) then n2 l i else -1
set_option maxHeartbeats 1600000 in
theorem refTwo_any (s : ByteArray) (i : Nat) (hs : s.size ≤ 1000000) (hi : i + 1 < s.size) (w : World) :
    Calls Tryd.prog 25 #[.string s, .int .i64 (i : Int)] w fun e w' => e = .returned (.int .i64 (twoI (bl s) i)) ∧ w' = w := by
  have hii : (i : Int) < (s.size : Int) := by omega
  have hii1 : (i : Int) + 1 < (s.size : Int) := by omega
  have hin : ((i : Int) + 1).toNat = i + 1 := by omega
  have gx := get_bt s i (by omega)
  have gy := get_bt s (i + 1) hi
  have x0 := bt_nonneg s i
  have x1 := bt_le s i
  have y0 := bt_nonneg s (i + 1)
  have y1 := bt_le s (i + 1)
  have HF : Hid (twoI (bl s) i = if (48 ≤ bt s i ∧ bt s i ≤ 57) ∧ (48 ≤ bt s (i + 1) ∧ bt s (i + 1) ≤ 57) then 10 * (bt s i - 48) + (bt s (i + 1) - 48) else -1) := Lib.hid (by
    rw [bt_g, bt_g]; rfl)
  generalize twoI (bl s) i = R at *
  generalize bt s i = x at *
  generalize bt s (i + 1) = y at *
  by_cases a0 : x - 48 < 0
  · have HR : Hid (-1 = R) := Lib.hid (by rw [HF.out, if_neg (by omega)])
    clear HF
    go_enter Tryd.func25, Tryd.ntmps25
    go_wp2
    go_returns
    exact ⟨rets1 (congrArg (Value.int .i64) HR.out), rfl⟩
  · by_cases a9 : 9 < x - 48
    · have HR : Hid (-1 = R) := Lib.hid (by rw [HF.out, if_neg (by omega)])
      clear HF
      go_enter Tryd.func25, Tryd.ntmps25
      go_wp2
      go_returns
      exact ⟨rets1 (congrArg (Value.int .i64) HR.out), rfl⟩
    · by_cases b0 : y - 48 < 0
      · have HR : Hid (-1 = R) := Lib.hid (by rw [HF.out, if_neg (by omega)])
        clear HF
        go_enter Tryd.func25, Tryd.ntmps25
        go_wp2
        go_returns
        exact ⟨rets1 (congrArg (Value.int .i64) HR.out), rfl⟩
      · by_cases b9 : 9 < y - 48
        · have HR : Hid (-1 = R) := Lib.hid (by rw [HF.out, if_neg (by omega)])
          clear HF
          go_enter Tryd.func25, Tryd.ntmps25
          go_wp2
          go_returns
          exact ⟨rets1 (congrArg (Value.int .i64) HR.out), rfl⟩
        · have HR : Hid (10 * (x - 48) + (y - 48) = R) := Lib.hid (by rw [HF.out, if_pos (by omega)])
          clear HF
          go_enter Tryd.func25, Tryd.ntmps25
          go_wp2
          go_returns
          exact ⟨rets1 (congrArg (Value.int .i64) HR.out), rfl⟩
def leapI (y : Int) : Bool := decide (y % 400 = 0 ∨ (y % 4 = 0 ∧ y % 100 ≠ 0))
set_option maxHeartbeats 4000000 in
theorem refDays_any (y m : Int) (hy : -9223372036854775808 ≤ y ∧ y ≤ 9223372036854775807) (w : World) :
    Calls Tryd.prog 19 #[.int .i64 y, .int .i64 m] w fun e w' => e = .returned (.int .i64 (dysI y m)) ∧ w' = w := by
  have HF : Hid (dysI y m = _) := Lib.hid (by unfold dysI; rfl)
  generalize dysI y m = R at *
  by_cases h0 : y < 0
  · have HR : Hid (0 = R) := Lib.hid (by rw [HF.out, if_pos (.inl h0)])
    clear HF
    go_enter Tryd.func19, Tryd.ntmps19
    go_wp2
    go_returns
    exact ⟨rets1 (congrArg (Value.int .i64) HR.out), rfl⟩
  · by_cases h1 : 9999 < y
    · have HR : Hid (0 = R) := Lib.hid (by rw [HF.out, if_pos (.inr h1)])
      clear HF
      go_enter Tryd.func19, Tryd.ntmps19
      go_wp2
      go_returns
      exact ⟨rets1 (congrArg (Value.int .i64) HR.out), rfl⟩
    · have HM : Hid (R = if m = 1 ∨ m = 3 ∨ m = 5 ∨ m = 7 ∨ m = 8 ∨ m = 10 ∨ m = 12 then 31 else if m = 4 ∨ m = 6 ∨ m = 9 ∨ m = 11 then 30 else if m = 2 then (if y % 400 = 0 ∨ (y % 4 = 0 ∧ y % 100 ≠ 0) then 29 else 28) else 0) := Lib.hid (by rw [HF.out, if_neg (by omega)])
      clear HF
      by_cases hm : 1 ≤ m ∧ m ≤ 12
      · obtain ⟨m0, m1⟩ := hm
        rcases (by omega : m = 2 ∨ m = 1 ∨ m = 3 ∨ m = 4 ∨ m = 5 ∨ m = 6 ∨ m = 7 ∨ m = 8 ∨ m = 9 ∨ m = 10 ∨ m = 11 ∨ m = 12) with rfl | rfl | rfl | rfl | rfl | rfl | rfl | rfl | rfl | rfl | rfl | rfl
        · have t4 : y.tmod 4 = y % 4 := Int.tmod_eq_emod_of_nonneg (by omega)
          have t1 : y.tmod 100 = y % 100 := Int.tmod_eq_emod_of_nonneg (by omega)
          have t3 : y.tmod 400 = y % 400 := Int.tmod_eq_emod_of_nonneg (by omega)
          have HL : Hid (R = if y % 400 = 0 ∨ (y % 4 = 0 ∧ y % 100 ≠ 0) then 29 else 28) := Lib.hid (by rw [HM.out, if_neg (by decide), if_neg (by decide), if_pos rfl])
          clear HM
          by_cases l4 : y % 400 = 0
          · have HR : Hid (29 = R) := Lib.hid (by rw [HL.out, if_pos (.inl l4)])
            clear HL
            go_enter Tryd.func19, Tryd.ntmps19
            go_wp2
            go_returns
            exact ⟨rets1 (congrArg (Value.int .i64) HR.out), rfl⟩
          · have lb4 : (y % 400 == 0) = false := by simpa using l4
            by_cases l2 : y % 4 = 0
            · by_cases l1 : y % 100 = 0
              · have HR : Hid (28 = R) := Lib.hid (by rw [HL.out, if_neg (by omega)])
                clear HL l4
                go_enter Tryd.func19, Tryd.ntmps19
                go_wp2
                go_returns
                exact ⟨rets1 (congrArg (Value.int .i64) HR.out), rfl⟩
              · have HR : Hid (29 = R) := Lib.hid (by rw [HL.out, if_pos (.inr ⟨l2, l1⟩)])
                have lb1 : (y % 100 != 0) = true := by simpa using l1
                clear HL l4 l1
                go_enter Tryd.func19, Tryd.ntmps19
                go_wp2
                go_returns
                exact ⟨rets1 (congrArg (Value.int .i64) HR.out), rfl⟩
            · have HR : Hid (28 = R) := Lib.hid (by rw [HL.out, if_neg (by omega)])
              have lb2 : (y % 4 == 0) = false := by simpa using l2
              clear HL l4 l2
              go_enter Tryd.func19, Tryd.ntmps19
              go_wp2
              go_returns
              exact ⟨rets1 (congrArg (Value.int .i64) HR.out), rfl⟩
        all_goals
          have HR := HM.out
          simp at HR
          subst HR
          clear HM
          go_enter Tryd.func19, Tryd.ntmps19
          go_wp2
          go_returns
          exact ⟨rfl, rfl⟩
      · have HR : Hid (0 = R) := Lib.hid (by rw [HM.out, if_neg (by omega), if_neg (by omega), if_neg (by omega)])
        have c1 : (m == 1) = false := by simp; omega
        have c2 : (m == 2) = false := by simp; omega
        have c3 : (m == 3) = false := by simp; omega
        have c4 : (m == 4) = false := by simp; omega
        have c5 : (m == 5) = false := by simp; omega
        have c6 : (m == 6) = false := by simp; omega
        have c7 : (m == 7) = false := by simp; omega
        have c8 : (m == 8) = false := by simp; omega
        have c9 : (m == 9) = false := by simp; omega
        have c10 : (m == 10) = false := by simp; omega
        have c11 : (m == 11) = false := by simp; omega
        have c12 : (m == 12) = false := by simp; omega
        clear HM hm
        go_enter Tryd.func19, Tryd.ntmps19
        go_wp2
        go_returns
        exact ⟨rets1 (congrArg (Value.int .i64) HR.out), rfl⟩
end Go.Proofs.YthjncfpgmfbehaaDoor
