/- What the reference's low, Wrong, Right, Put and Bit of bit strings give. Of every length, text and number (Put, Bit: of at most a million bytes). -/
import Derived.Test.YtpdehfcpeoiepaaByteSl
import Derived.Test.YtpdehfcpeoiepaaBstr
import Derived.Handy
import Derived.BigQuiet
import Derived.Deep.QuietTactic
import Derived.Laws.BytesArg
namespace Go.Proofs.Ytpdehfcpeoiepaa
open Go.RowKit Go.PlainAid
set_option linter.unusedVariables false
theorem pow8 (j : Nat) (h : j ≤ 8) : (1 : Int) ≤ 2 ^ j ∧ (2 : Int) ^ j ≤ 256 := by
  rcases (by omega : j = 0 ∨ j = 1 ∨ j = 2 ∨ j = 3 ∨ j = 4 ∨ j = 5 ∨ j = 6 ∨ j = 7 ∨ j = 8) with rfl | rfl | rfl | rfl | rfl | rfl | rfl | rfl | rfl <;> decide
theorem refLow_any (x n : Int) (x0 : 0 ≤ x) (x1 : x ≤ 255) (h0 : 0 ≤ n) (h8 : n ≤ 8) (w : World) :
    Calls Try.prog 19 #[.int .u8 x, .int .i64 n] w fun e w' => e = .returned (.int .i64 (lw x n)) ∧ w' = w := by
  obtain ⟨k, rfl⟩ := Int.eq_ofNat_of_zero_le h0
  have hk : k ≤ 8 := by omega
  have HP := Lib.hid pow8
  have HF : Hid (x % (2 ^ k) = lw x k) := Lib.hid (by unfold lw; rw [Int.toNat_natCast])
  have HM : Hid (IntKind.i64.wrap x = x) := Lib.hid (by rw [IntKind.wrap_i64]; omega)
  have HS := Lib.hid (fun j => Int.pow_succ 2 j)
  go_enter Try.func19, Try.ntmps19
  go_wp2
  go_loopw [5, 6] (fun uv iv wr => ∃ (j : Nat), uv = .int .i64 (2 ^ j) ∧ iv = .int .i64 (j : Int) ∧ j ≤ k ∧ wr = w) (fun _ iv _ => k - (intOf iv).toNat)
  case atStart => exact ⟨0, rfl, rfl, by omega, rfl⟩
  case round =>
    obtain ⟨j, rfl, rfl, hj, rfl⟩ := hrel
    have hp := HP.out j (by omega)
    have hs := HS.out j
    by_cases hlt : j < k
    · have hlti : (j : Int) < (k : Int) := by omega
      have HE := Lib.hid hs
      clear hs
      obtain ⟨p, hpe⟩ : ∃ p : Int, 2 ^ j = p := ⟨_, rfl⟩
      rw [hpe] at hp HE
      obtain ⟨p0, p1⟩ := hp
      simp only [hpe]
      clear hpe
      go_wp2
      go_roundw
      case rel => exact ⟨j + 1, by rw [HE.out], by simp, by omega, by trivial⟩
      case measure => simp [intOf]; omega
    · have hlti : ¬ (j : Int) < (k : Int) := by omega
      obtain rfl : j = k := by omega
      obtain ⟨p, hpe⟩ : ∃ p : Int, 2 ^ j = p := ⟨_, rfl⟩
      rw [hpe] at hp HF
      simp only [hpe]
      have hz : (p == 0) = false := by simp; omega
      have hz2 : ¬ p = 0 := by omega
      clear hs hpe
      go_wp2
      go_returns
      exact ⟨rets1 (congrArg (Value.int .i64) HF.out), rfl⟩
set_option maxRecDepth 100000 in
set_option maxHeartbeats 4000000 in
theorem refWrong_any (n : Int) (s : ByteArray) (hs : s.size ≤ maxLen) (hn1 : n ≤ 9223372036854775807) (w : World) :
    Calls Try.prog 10 #[.int .i64 n, .string s] w fun e w' => e = .returned (.int .i64 (bsW n s)) ∧ Below w.heap.size w w' := by
  have hb9 : (s.size : Int) ≤ 9223372036854775807 := by unfold maxLen at hs; omega
  by_cases hn : n < 1
  · have HF : Hid (0 = bsW n s) := Lib.hid (by unfold bsW; rw [if_pos hn])
    go_enter Try.func10, Try.ntmps10
    go_wp2
    go_returns
    exact ⟨rets1 (congrArg (Value.int .i64) HF.out), Below.refl _ _⟩
  · have HW : Hid (bsW n s = if 0 < s.size ∧ cB (bt s 0) n = false then 1 else if 1 < n ∧ (s.size : Int) = n ∧ cE (bt s 0) (bt s (s.size - 1)) = false then n else -1) := Lib.hid (by unfold bsW; rw [if_neg hn])
    generalize bsW n s = R at *
    by_cases h0 : 0 < s.size
    · have hi0 : (0 : Int) < (s.size : Int) := by omega
      have g0 := get_bt s 0 h0
      have hx0 := bt_nonneg s 0
      have hx1 := bt_le s 0
      have gl := get_bt s (s.size - 1) (by omega)
      have hy0 := bt_nonneg s (s.size - 1)
      have hy1 := bt_le s (s.size - 1)
      generalize bt s (s.size - 1) = y at *
      generalize bt s 0 = x at *
      by_cases h7 : 7 < x
      · have HF : Hid (1 = R) := Lib.hid (by rw [HW.out, if_pos ⟨h0, (cB_iff (by omega)).2 (.inl h7)⟩])
        clear HW
        go_enter Try.func10, Try.ntmps10
        go_wp2
        go_returns
        exact ⟨rets1 (congrArg (Value.int .i64) HF.out), Below.refl _ _⟩
      · by_cases h1 : n = 1
        · subst h1
          by_cases hx : x = 0
          · subst hx
            have HF : Hid (-1 = R) := Lib.hid (by rw [HW.out, if_neg (by rw [cB_zero]; simp), if_neg (by omega)])
            clear HW
            go_enter Try.func10, Try.ntmps10
            go_wp2_with fail
            go_quiet (fail)
            go_wp2
            go_returns
            exact ⟨rets1 (congrArg (Value.int .i64) HF.out), ⟨rfl, rfl, rfl, Nat.le_refl _, fun _ _ => rfl⟩⟩
          · have hxb : (x != 0) = true := by simpa using hx
            have HF : Hid (1 = R) := Lib.hid (by rw [HW.out, if_pos ⟨h0, (cB_iff (by omega)).2 (.inr ⟨rfl, hx⟩)⟩])
            clear HW hx
            go_enter Try.func10, Try.ntmps10
            go_wp2
            go_returns
            exact ⟨rets1 (congrArg (Value.int .i64) HF.out), Below.refl _ _⟩
        · have hnb : (n == 1) = false := by simpa using h1
          have h2 : 1 < n := by omega
          have hW : R = if (s.size : Int) = n ∧ cE x y = false then n else -1 := by
            rw [HW.out, if_neg (fun h => by have := (cB_iff (by omega)).1 h.2; omega)]
            by_cases h : (s.size : Int) = n ∧ cE x y = false
            · rw [if_pos h, if_pos ⟨h2, h⟩]
            · rw [if_neg h, if_neg (fun h3 => h h3.2)]
          clear HW h1
          by_cases hsz : (s.size : Int) = n
          · subst hsz
            have hil : ((s.size : Int) - 1).toNat = s.size - 1 := by omega
            have HL := Lib.hid (refLow_any y x hy0 hy1 hx0 (by omega))
            have HXW : Hid (IntKind.i64.wrap x = x) := Lib.hid (by rw [IntKind.wrap_i64]; omega)
            by_cases he : lw y x = 0
            · have HF : Hid (-1 = R) := Lib.hid (by rw [hW, if_neg (by rw [show cE x y = true from decide_eq_true he]; simp)])
              rw [he] at HL
              clear hW he
              go_enter Try.func10, Try.ntmps10
              go_wp2_with fail
              go_quiet ((go_at_call 19; exact Calls.quiet_of_same (HL.out _)))
              go_wp2
              go_returns
              exact ⟨rets1 (congrArg (Value.int .i64) HF.out), ⟨rfl, rfl, rfl, Nat.le_refl _, fun _ _ => rfl⟩⟩
            · have HF : Hid ((s.size : Int) = R) := Lib.hid (by rw [hW, if_pos ⟨rfl, decide_eq_false he⟩])
              have heb : (lw y x != 0) = true := by simpa using he
              generalize lw y x = l at *
              clear hW he
              go_enter Try.func10, Try.ntmps10
              go_wp2_with fail
              go_quiet ((go_at_call 19; exact Calls.quiet_of_same (HL.out _)))
              go_wp2
              go_returns
              exact ⟨rets1 (congrArg (Value.int .i64) HF.out), ⟨rfl, rfl, rfl, Nat.le_refl _, fun _ _ => rfl⟩⟩
          · have hszb : ((s.size : Int) == n) = false := by simpa using hsz
            have HF : Hid (-1 = R) := Lib.hid (by rw [hW, if_neg (fun h => hsz h.1)])
            clear hW hsz
            go_enter Try.func10, Try.ntmps10
            go_wp2_with fail
            go_quiet (fail)
            go_wp2
            go_returns
            exact ⟨rets1 (congrArg (Value.int .i64) HF.out), ⟨rfl, rfl, rfl, Nat.le_refl _, fun _ _ => rfl⟩⟩
    · have hz : s.size = 0 := by omega
      have HF : Hid (-1 = R) := Lib.hid (by rw [HW.out, if_neg (fun h => h0 h.1), if_neg (by omega)])
      clear HW h0
      by_cases h1 : n = 1
      · subst h1
        go_enter Try.func10, Try.ntmps10
        go_wp2_with fail
        go_quiet (fail)
        go_wp2
        go_returns
        exact ⟨rets1 (congrArg (Value.int .i64) HF.out), ⟨rfl, rfl, rfl, Nat.le_refl _, fun _ _ => rfl⟩⟩
      · have h2 : 1 < n := by omega
        have hnb : ((0 : Int) == n) = false := by simp; omega
        clear h1
        go_enter Try.func10, Try.ntmps10
        go_wp2_with fail
        go_quiet (fail)
        go_wp2
        go_returns
        exact ⟨rets1 (congrArg (Value.int .i64) HF.out), ⟨rfl, rfl, rfl, Nat.le_refl _, fun _ _ => rfl⟩⟩
end Go.Proofs.Ytpdehfcpeoiepaa
