/- What package order's Compare gives: which of two elements comes first. Of every two elements of at most 10^15 bytes each. -/
import Derived.Test.YtnlhpldjficecaaRefOrd
namespace Go.Proofs.Ytnlhpldjficecaa
open Go.RowKit Go.PlainAid
set_option linter.unusedVariables false
theorem isNaN_any (x : Int) (w : World) : Calls Try.prog 29 #[.int .u8 x] w fun e w' => e = .returned (.bool false) ∧ w' = w := by
  have h : (x != x) = false := by simp
  go_enter Try.func29, Try.ntmps29
  go_wp2
  go_returns
  exact ⟨rfl, rfl⟩
set_option maxHeartbeats 1000000 in
theorem cmpB_any (x y : Int) (w : World) : Calls Try.prog 22 #[.int .u8 x, .int .u8 y] w fun e w' => e = .returned (.int .i64 (cmp1 x y)) ∧ w' = w := by
  obtain ⟨R, hR⟩ : ∃ R, cmp1 x y = R := ⟨_, rfl⟩
  rw [hR]
  unfold cmp1 at hR
  go_enter Try.func22, Try.ntmps22
  by_cases h1 : x < y
  · rw [if_pos h1] at hR
    subst hR
    go_wp2_with ((with_reducible refine (isNaN_any _ _).mono ?_); rintro e w1 ⟨rfl, rfl⟩)
    go_returns
    exact ⟨rfl, rfl⟩
  · rw [if_neg h1] at hR
    by_cases h2 : y < x
    · rw [if_pos h2] at hR
      subst hR
      go_wp2_with ((with_reducible refine (isNaN_any _ _).mono ?_); rintro e w1 ⟨rfl, rfl⟩)
      go_returns
      exact ⟨rfl, rfl⟩
    · rw [if_neg h2] at hR
      subst hR
      go_wp2_with ((with_reducible refine (isNaN_any _ _).mono ?_); rintro e w1 ⟨rfl, rfl⟩)
      go_returns
      exact ⟨rfl, rfl⟩
theorem byteAt_any (s : ByteArray) (hs : s.size ≤ 1000000000000000) (i : Nat) (hi : i ≤ 1000000000000000) (w : World) :
    Calls Try.prog 23 #[.string s, .int .i64 (i : Int)] w fun e w' => e = .returned (.int .u8 (hd0 ((bl s).drop i))) ∧ w' = w := by
  by_cases h : i < s.size
  · have hlt : (i : Int) < (s.size : Int) := by omega
    have hg := get_bt s i h
    rw [bl_drop s i h]
    show Calls _ _ _ _ fun e w' => e = .returned (.int .u8 (bt s i)) ∧ w' = w
    generalize bt s i = x at *
    go_enter Try.func23, Try.ntmps23
    go_wp2
    go_returns
    exact ⟨rfl, rfl⟩
  · have hlt : ¬ (i : Int) < (s.size : Int) := by omega
    rw [bl_drop_end s i (by omega)]
    show Calls _ _ _ _ fun e w' => e = .returned (.int .u8 0) ∧ w' = w
    clear h
    go_enter Try.func23, Try.ntmps23
    go_wp2
    go_returns
    exact ⟨rfl, rfl⟩
theorem drop_tail (l : List Int) (i : Nat) : (l.drop i).tail = l.drop (i + 1) := by rw [List.tail_drop]
set_option maxRecDepth 100000 in
set_option maxHeartbeats 4000000 in
theorem ordCompare_any (a b : ByteArray) (ha : a.size ≤ 1000000000000000) (hb : b.size ≤ 1000000000000000) (w : World) :
    Calls Try.prog 9 #[.string a, .string b] w fun e w' => e = .returned (.int .i64 (cmpL (bl a) (bl b))) ∧ w' = w := by
  obtain ⟨R, hR⟩ : ∃ R, cmpL (bl a) (bl b) = R := ⟨_, rfl⟩
  rw [hR]
  have HR := Lib.hid hR
  clear hR
  obtain ⟨M, hM⟩ : ∃ M, max a.size b.size = M := ⟨_, rfl⟩
  have hMi : max (a.size : Int) (b.size : Int) = (M : Int) := by omega
  have hM2 : M ≤ 1000000000000000 := by omega
  have haM : a.size ≤ M := by omega
  have hbM : b.size ≤ M := by omega
  clear hM
  have HHH := Lib.hid hMi
  clear hMi
  go_enter Try.func9, Try.ntmps9
  go_wp2_with fail
  rw [HHH.out]
  clear HHH
  go_loopg [12] M (fun gk iv wr => ∃ i : Nat, iv = .int .i64 (i : Int) ∧ i ≤ M ∧ M - i ≤ gk ∧ w = wr ∧ Hid (cmpL ((bl a).drop i) ((bl b).drop i) = R))
  case atStart => exact ⟨0, rfl, by omega, by omega, rfl, HR⟩
  case round =>
    obtain ⟨i, rfl, hi, hgk, rfl, HI⟩ := hrel
    by_cases hlt : i < M
    · have hlt2 : (i : Int) < (M : Int) := by omega
      have hC1 := byteAt_any a ha i (by omega) w
      have hC2 := byteAt_any b hb i (by omega) w
      have hst := HI.out
      rw [cmpL_step, drop_tail, drop_tail] at hst
      generalize hd0 ((bl a).drop i) = x at *
      generalize hd0 ((bl b).drop i) = y at *
      have hC3 := cmpB_any x y w
      have HC1 := Lib.hid hC1
      have HC2 := Lib.hid hC2
      have HC3 := Lib.hid hC3
      clear hC1 hC2 hC3
      by_cases hz : cmp1 x y = 0
      · rw [if_neg (by omega)] at hst
        have HS := Lib.hid hst
        have hne : (cmp1 x y != 0) = false := by simp [hz]
        clear hst HI
        go_wp2_with fail
        refine HC1.out.mono ?_
        rintro e w1 ⟨rfl, rfl⟩
        go_wp2_with fail
        refine HC2.out.mono ?_
        rintro e w2 ⟨rfl, rfl⟩
        go_wp2_with fail
        refine HC3.out.mono ?_
        rintro e w3 ⟨rfl, rfl⟩
        go_wp2_with fail
        go_roundg (M - (i + 1))
        case measure => omega
        case rel => exact ⟨i + 1, by simp, by omega, by omega, rfl, HS⟩
      · rw [if_pos hz] at hst
        have hne : (cmp1 x y != 0) = true := by simp [hz]
        subst hst
        clear HI
        go_wp2_with fail
        refine HC1.out.mono ?_
        rintro e w1 ⟨rfl, rfl⟩
        go_wp2_with fail
        refine HC2.out.mono ?_
        rintro e w2 ⟨rfl, rfl⟩
        go_wp2_with fail
        refine HC3.out.mono ?_
        rintro e w3 ⟨rfl, rfl⟩
        go_wp2_with fail
        go_returns
        exact ⟨rfl, rfl⟩
    · have hlt2 : ¬ (i : Int) < (M : Int) := by omega
      have hst := HI.out
      rw [List.drop_eq_nil_of_le (by rw [bl_length]; omega), List.drop_eq_nil_of_le (by rw [bl_length]; omega)] at hst
      rw [show cmpL [] [] = 0 by simp [cmpL]] at hst
      subst hst
      clear HI hlt
      go_wp2
      go_returns
      exact ⟨rfl, rfl⟩
end Go.Proofs.Ytnlhpldjficecaa
