/- What the reference's Wrong, Put and Get of numbers give. Of every tag, length, value and text. -/
import Derived.Test.YtpdflpobhmpbpaaByteSl
import Derived.Test.YtpdflpobhmpbpaaNumb
import Derived.Laws.BytesArg
import Derived.Handy
namespace Go.Proofs.Ytpdflpobhmpbpaa
open Go.RowKit Go.PlainAid
set_option linter.unusedVariables false
theorem nW_neg {tag n : Int} {k : Nat} {x y : Int} (h : n < 0) : nW tag n k x y = 0 := by unfold nW; rw [if_pos h]
theorem nW_five {n : Int} {k : Nat} {x y : Int} (h : 0 ≤ n) : nW 5 n k x y = if n = 0 then -1 else 0 := by unfold nW; rw [if_neg (by omega), if_pos rfl]
theorem nW_one {n : Int} {k : Nat} {x y : Int} (h : 0 ≤ n) : nW 1 n k x y = if n = 1 then (if 0 < k ∧ x ≠ 0 ∧ x ≠ 255 then 1 else -1) else 0 := by unfold nW; rw [if_neg (by omega), if_neg (by decide), if_pos rfl]
theorem nW_two {tag n : Int} {k : Nat} {x y : Int} (h : 0 ≤ n) (ht : tag = 2 ∨ tag = 10) : nW tag n k x y = if n = 0 then 0 else if 1 < k ∧ (x = 0 ∧ y < 128 ∨ x = 255 ∧ 127 < y) then 2 else -1 := by
  unfold nW; rw [if_neg (by omega), if_neg (by omega), if_neg (by omega), if_pos ht]
theorem nW_any {tag n : Int} {k : Nat} {x y : Int} (h : 0 ≤ n) (h1 : tag ≠ 1) (h2 : tag ≠ 2) (h5 : tag ≠ 5) (h10 : tag ≠ 10) : nW tag n k x y = -1 := by
  unfold nW; rw [if_neg (by omega), if_neg h5, if_neg h1, if_neg (by omega)]
set_option maxRecDepth 100000 in
set_option maxHeartbeats 1600000 in
theorem refNumInt_any (tag n : Int) (s : ByteArray) (hs : s.size ≤ maxLen) (h0 : 0 ≤ n) (ht : tag = 2 ∨ tag = 10) (w : World) :
    Calls Try.prog 24 #[.int .i64 tag, .int .i64 n, .string s] w fun e w' => e = .returned (.int .i64 (nmWrong tag n s)) ∧ w' = w := by
  have hb9 : (s.size : Int) ≤ 9223372036854775807 := by unfold maxLen at hs; omega
  have HW : Hid (nmWrong tag n s = _) := Lib.hid (nW_two (tag := tag) (n := n) (k := s.size) (x := bt s 0) (y := bt s 1) h0 ht)
  generalize nmWrong tag n s = W at *
  have b5 : (tag == 5) = false := by simp; omega
  have b1 : (tag == 1) = false := by simp; omega
  have hn0 : ¬ n < 0 := by omega
  have HT : Hid ((tag != 2 && tag != 10) = false) := Lib.hid (by rcases ht with rfl | rfl <;> rfl)
  rcases ht with rfl | rfl
  all_goals
    clear HT b5 b1
    by_cases hz : n = 0
    · subst hz
      have HF : Hid (0 = W) := Lib.hid (by rw [HW.out, if_pos rfl])
      go_enter Try.func24, Try.ntmps24
      go_wp2
      go_returns
      exact ⟨rets1 (congrArg (Value.int .i64) HF.out), rfl⟩
    · have bz : (n == 0) = false := by simpa using hz
      by_cases hk : 1 < s.size
      · have hk1 : (1 : Int) < (s.size : Int) := by omega
        have g0 := get_bt s 0 (by omega)
        have g1 := get_bt s 1 hk
        have x0 := bt_nonneg s 0
        have x1 := bt_le s 0
        have y0 := bt_nonneg s 1
        have y1 := bt_le s 1
        generalize bt s 0 = x at *
        generalize bt s 1 = y at *
        by_cases hx0 : x = 0
        · subst hx0
          by_cases hy : y < 128
          · have HF : Hid (2 = W) := Lib.hid (by rw [HW.out, if_neg hz, if_pos ⟨hk, by omega⟩])
            go_enter Try.func24, Try.ntmps24
            go_wp2
            go_returns
            exact ⟨rets1 (congrArg (Value.int .i64) HF.out), rfl⟩
          · have HF : Hid (-1 = W) := Lib.hid (by rw [HW.out, if_neg hz, if_neg (by omega)])
            go_enter Try.func24, Try.ntmps24
            go_wp2
            go_returns
            exact ⟨rets1 (congrArg (Value.int .i64) HF.out), rfl⟩
        · have bx0 : (x == 0) = false := by simpa using hx0
          by_cases hx5 : x = 255
          · subst hx5
            by_cases hy : 127 < y
            · have HF : Hid (2 = W) := Lib.hid (by rw [HW.out, if_neg hz, if_pos ⟨hk, by omega⟩])
              go_enter Try.func24, Try.ntmps24
              go_wp2
              go_returns
              exact ⟨rets1 (congrArg (Value.int .i64) HF.out), rfl⟩
            · have HF : Hid (-1 = W) := Lib.hid (by rw [HW.out, if_neg hz, if_neg (by omega)])
              go_enter Try.func24, Try.ntmps24
              go_wp2
              go_returns
              exact ⟨rets1 (congrArg (Value.int .i64) HF.out), rfl⟩
          · have bx5 : (x == 255) = false := by simpa using hx5
            have HF : Hid (-1 = W) := Lib.hid (by rw [HW.out, if_neg hz, if_neg (by omega)])
            go_enter Try.func24, Try.ntmps24
            go_wp2
            go_returns
            exact ⟨rets1 (congrArg (Value.int .i64) HF.out), rfl⟩
      · have hk1 : ¬ (1 : Int) < (s.size : Int) := by omega
        have HF : Hid (-1 = W) := Lib.hid (by rw [HW.out, if_neg hz, if_neg (by omega)])
        go_enter Try.func24, Try.ntmps24
        go_wp2
        go_returns
        exact ⟨rets1 (congrArg (Value.int .i64) HF.out), rfl⟩
set_option maxRecDepth 100000 in
set_option maxHeartbeats 1600000 in
theorem refNumWrong_any (tag n : Int) (s : ByteArray) (hs : s.size ≤ maxLen) (w : World) :
    Calls Try.prog 24 #[.int .i64 tag, .int .i64 n, .string s] w fun e w' => e = .returned (.int .i64 (nmWrong tag n s)) ∧ w' = w := by
  have hb9 : (s.size : Int) ≤ 9223372036854775807 := by unfold maxLen at hs; omega
  by_cases hn : n < 0
  · have HF : Hid (0 = nmWrong tag n s) := Lib.hid (nW_neg hn).symm
    go_enter Try.func24, Try.ntmps24
    go_wp2
    go_returns
    exact ⟨rets1 (congrArg (Value.int .i64) HF.out), rfl⟩
  · have h0 : 0 ≤ n := by omega
    by_cases ht : tag = 2 ∨ tag = 10
    · exact refNumInt_any tag n s hs h0 ht w
    · have b2 : (tag != 2) = true := by simp; omega
      have b10 : (tag != 10) = true := by simp; omega
      by_cases h5 : tag = 5
      · subst h5
        have HW : Hid (nmWrong 5 n s = _) := Lib.hid (nW_five h0)
        clear ht b2 b10
        by_cases hz : n = 0
        · subst hz
          have HF : Hid (-1 = nmWrong 5 0 s) := Lib.hid (by rw [HW.out, if_pos rfl])
          go_enter Try.func24, Try.ntmps24
          go_wp2
          go_returns
          exact ⟨rets1 (congrArg (Value.int .i64) HF.out), rfl⟩
        · have bz : (n == 0) = false := by simpa using hz
          have HF : Hid (0 = nmWrong 5 n s) := Lib.hid (by rw [HW.out, if_neg hz])
          go_enter Try.func24, Try.ntmps24
          go_wp2
          go_returns
          exact ⟨rets1 (congrArg (Value.int .i64) HF.out), rfl⟩
      · have b5 : (tag == 5) = false := by simpa using h5
        by_cases h1 : tag = 1
        · subst h1
          have HW : Hid (nmWrong 1 n s = _) := Lib.hid (nW_one h0)
          clear ht b2 b10 b5 h5
          by_cases hz : n = 1
          · subst hz
            rw [if_pos rfl] at HW
            generalize nmWrong 1 1 s = W at *
            by_cases hk : 0 < s.size
            · have hk1 : (0 : Int) < (s.size : Int) := by omega
              have g0 := get_bt s 0 hk
              have x0 := bt_nonneg s 0
              have x1 := bt_le s 0
              generalize bt s 0 = x at *
              by_cases hx0 : x = 0
              · subst hx0
                have HF : Hid (-1 = W) := Lib.hid (by rw [HW.out, if_neg (by omega)])
                go_enter Try.func24, Try.ntmps24
                go_wp2
                go_returns
                exact ⟨rets1 (congrArg (Value.int .i64) HF.out), rfl⟩
              · have bx0 : (x != 0) = true := by simpa using hx0
                by_cases hx5 : x = 255
                · subst hx5
                  have HF : Hid (-1 = W) := Lib.hid (by rw [HW.out, if_neg (by omega)])
                  go_enter Try.func24, Try.ntmps24
                  go_wp2
                  go_returns
                  exact ⟨rets1 (congrArg (Value.int .i64) HF.out), rfl⟩
                · have bx5 : (x != 255) = true := by simpa using hx5
                  have HF : Hid (1 = W) := Lib.hid (by rw [HW.out, if_pos ⟨hk, hx0, hx5⟩])
                  go_enter Try.func24, Try.ntmps24
                  go_wp2
                  go_returns
                  exact ⟨rets1 (congrArg (Value.int .i64) HF.out), rfl⟩
            · have hk1 : ¬ (0 : Int) < (s.size : Int) := by omega
              have HF : Hid (-1 = W) := Lib.hid (by rw [HW.out, if_neg (by omega)])
              go_enter Try.func24, Try.ntmps24
              go_wp2
              go_returns
              exact ⟨rets1 (congrArg (Value.int .i64) HF.out), rfl⟩
          · have bz : (n != 1) = true := by simpa using hz
            have HF : Hid (0 = nmWrong 1 n s) := Lib.hid (by rw [HW.out, if_neg hz])
            go_enter Try.func24, Try.ntmps24
            go_wp2
            go_returns
            exact ⟨rets1 (congrArg (Value.int .i64) HF.out), rfl⟩
        · have b1 : (tag == 1) = false := by simpa using h1
          have HF : Hid (-1 = nmWrong tag n s) := Lib.hid (nW_any h0 h1 (by omega) h5 (by omega)).symm
          go_enter Try.func24, Try.ntmps24
          go_wp2
          go_returns
          exact ⟨rets1 (congrArg (Value.int .i64) HF.out), rfl⟩
end Go.Proofs.Ytpdflpobhmpbpaa
