/- What the reference's Date, Full and Right of times give. Of every text of at most a million bytes. -/
import Derived.Test.YthjncfpgmfbehaaDoorRefWhen2
namespace Go.Proofs.YthjncfpgmfbehaaDoor
open Go.RowKit Go.PlainAid
set_option linter.unusedVariables false
theorem n2_range {l : List Int} {i : Nat} (h : isD (g l i)) (h2 : isD (g l (i + 1))) : 0 ≤ n2 l i ∧ n2 l i ≤ 99 := by
  unfold isD at *; unfold n2; omega
theorem two_is {l : List Int} {i : Nat} (h : isD (g l i)) (h2 : isD (g l (i + 1))) : twoI l i = n2 l i := if_pos ⟨h, h2⟩
theorem two_neg (l : List Int) (i : Nat) : twoI l i < 0 ↔ ¬ (isD (g l i) ∧ isD (g l (i + 1))) := by
  unfold twoI
  by_cases h : isD (g l i) ∧ isD (g l (i + 1))
  · rw [if_pos h]
    have := n2_range h.1 h.2
    exact ⟨fun h2 => by omega, fun h2 => absurd h h2⟩
  · rw [if_neg h]
    exact ⟨fun _ => h, fun _ => by decide⟩
set_option maxRecDepth 100000 in
set_option maxHeartbeats 4000000 in
theorem refDate_any (s : ByteArray) (hs : s.size ≤ 1000000) (w : World) :
    Calls Tryd.prog 15 #[.string s] w fun e w' => e = .returned (.bool (decide (dateP (bl s)))) ∧ w' = w := by
  by_cases h14 : s.size = 14
  · have hi14 : (s.size : Int) = 14 := by omega
    have HT := Lib.hid (fun (i : Nat) (hi : i + 1 < s.size) => refTwo_any s i hs hi)
    have HN := Lib.hid (two_neg (bl s))
    have HI := Lib.hid (fun (i : Nat) => n2_range (l := bl s) (i := i))
    have HW := Lib.hid (fun (i : Nat) => two_is (l := bl s) (i := i))
    have HD := Lib.hid (date_iff (bl s) (by rw [bl_length]; exact h14))
    have HB : Hid (decide (dateP (bl s)) = true ↔ okD (bl s)) := Lib.hid (by rw [decide_eq_true_eq]; unfold dateP; rw [bl_length]; exact ⟨fun h => h.2, fun h => ⟨h14, h⟩⟩)
    generalize hB : decide (dateP (bl s)) = B at *
    clear hB
    generalize bl s = l at *
    go_enter Tryd.func15, Tryd.ntmps15
    go_wp2
    go_loopw [3] (fun iv wr => ∃ (j : Nat), iv = .int .i64 ((2 * j : Nat) : Int) ∧ j ≤ 7 ∧ wr = w ∧ Hid (∀ k, k < 2 * j → isD (g l k))) (fun iv _ => 14 - (intOf iv).toNat)
    case atStart => exact ⟨0, rfl, by omega, rfl, Lib.hid (by intro j hj; omega)⟩
    case round =>
      obtain ⟨j, rfl, hj, rfl, HK⟩ := hrel
      by_cases hlt : j < 7
      · have hlti : ((2 * j : Nat) : Int) < 14 := by omega
        have HC := Lib.hid (HT.out (2 * j) (by omega))
        have hn := HN.out (2 * j)
        have HX : Hid (¬ (isD (g l (2 * j)) ∧ isD (g l (2 * j + 1))) → false = B) := Lib.hid (by
          intro h
          cases hb : B
          · rfl
          · have := (HD.out.1 (HB.out.1 hb)).1
            exact absurd ⟨this _ (by omega), this _ (by omega)⟩ h)
        have HY : Hid ((isD (g l (2 * j)) ∧ isD (g l (2 * j + 1))) → ∀ k, k < 2 * (j + 1) → isD (g l k)) := Lib.hid (by
          intro h k hk
          by_cases h1 : k < 2 * j
          · exact HK.out k h1
          · by_cases h2 : k = 2 * j
            · rw [h2]; exact h.1
            · rw [show k = 2 * j + 1 by omega]; exact h.2)
        obtain ⟨q, hq⟩ : ∃ q : Nat, 2 * j = q := ⟨_, rfl⟩
        have HQ : Hid (((q : Nat) : Int) + 2 = ((2 * (j + 1) : Nat) : Int)) := Lib.hid (by omega)
        rw [hq] at HC hn HX HY hlti
        simp only [hq]
        have hq9 : q ≤ 14 := by omega
        generalize twoI l q = t at *
        go_wp2_with fail
        refine (HC.out _).mono ?_
        rintro e w' ⟨rfl, rfl⟩
        by_cases ht : t < 0
        · have HR := Lib.hid (HX.out (hn.1 ht))
          clear hn HX HY
          go_wp2
          go_returns
          exact ⟨rets1 (congrArg Value.bool HR.out), rfl⟩
        · have HZ := Lib.hid (HY.out (Classical.byContradiction (fun h => ht (hn.2 h))))
          clear hn HX HY
          go_wp2
          go_roundw
          case rel => exact ⟨j + 1, by rw [HQ.out], by omega, by trivial, HZ⟩
          case measure => simp [intOf]; omega
      · have hj7 : j = 7 := by omega
        subst hj7
        have hne : ¬ ((2 * 7 : Nat) : Int) < 14 := by decide
        have hd : ∀ k, k < 14 → isD (g l k) := HK.out
        have C : ∀ i : Nat, i + 1 < 14 → ∀ w, Calls Tryd.prog 25 #[.string s, .int .i64 (i : Int)] w fun e w' => e = .returned (.int .i64 (n2 l i)) ∧ w' = w := fun i hi w => by
          have := HT.out i (by omega) w
          rwa [HW.out i (hd i (by omega)) (hd (i + 1) (by omega))] at this
        have C0 : Hid (∀ w, Calls Tryd.prog 25 #[.string s, .int .i64 0] w fun e w' => e = .returned (.int .i64 (n2 l 0)) ∧ w' = w) := Lib.hid (C 0 (by decide))
        have C2 : Hid (∀ w, Calls Tryd.prog 25 #[.string s, .int .i64 2] w fun e w' => e = .returned (.int .i64 (n2 l 2)) ∧ w' = w) := Lib.hid (C 2 (by decide))
        have C4 : Hid (∀ w, Calls Tryd.prog 25 #[.string s, .int .i64 4] w fun e w' => e = .returned (.int .i64 (n2 l 4)) ∧ w' = w) := Lib.hid (C 4 (by decide))
        have C6 : Hid (∀ w, Calls Tryd.prog 25 #[.string s, .int .i64 6] w fun e w' => e = .returned (.int .i64 (n2 l 6)) ∧ w' = w) := Lib.hid (C 6 (by decide))
        have C8 : Hid (∀ w, Calls Tryd.prog 25 #[.string s, .int .i64 8] w fun e w' => e = .returned (.int .i64 (n2 l 8)) ∧ w' = w) := Lib.hid (C 8 (by decide))
        have C10 : Hid (∀ w, Calls Tryd.prog 25 #[.string s, .int .i64 10] w fun e w' => e = .returned (.int .i64 (n2 l 10)) ∧ w' = w) := Lib.hid (C 10 (by decide))
        have C12 : Hid (∀ w, Calls Tryd.prog 25 #[.string s, .int .i64 12] w fun e w' => e = .returned (.int .i64 (n2 l 12)) ∧ w' = w) := Lib.hid (C 12 (by decide))
        have r0 := HI.out 0 (hd 0 (by decide)) (hd 1 (by decide))
        have r2 := HI.out 2 (hd 2 (by decide)) (hd 3 (by decide))
        have HDY := Lib.hid (refDays_any (100 * n2 l 0 + n2 l 2) (n2 l 4) (by omega))
        have HF : Hid (B = true ↔ 1 ≤ n2 l 6 ∧ n2 l 6 ≤ dysI (100 * n2 l 0 + n2 l 2) (n2 l 4) ∧ n2 l 8 < 24 ∧ n2 l 10 < 60 ∧ n2 l 12 < 60) := Lib.hid (by
          rw [HB.out, HD.out]; exact ⟨fun h => h.2, fun h => ⟨hd, h⟩⟩)
        clear C HT HN HI HW HD HB HK hd
        generalize dysI (100 * n2 l 0 + n2 l 2) (n2 l 4) = D at *
        generalize n2 l 0 = a0 at *
        generalize n2 l 2 = a2 at *
        generalize n2 l 4 = a4 at *
        generalize n2 l 6 = a6 at *
        generalize n2 l 8 = a8 at *
        generalize n2 l 10 = a10 at *
        generalize n2 l 12 = a12 at *
        go_wp2_with fail
        refine (C6.out _).mono ?_
        rintro e w' ⟨rfl, rfl⟩
        by_cases h1 : a6 < 1
        · have HR : Hid (false = B) := Lib.hid (by cases hb : B; rfl; have := HF.out.1 hb; omega)
          clear HF
          go_wp2
          go_returns
          exact ⟨rets1 (congrArg Value.bool HR.out), rfl⟩
        · go_wp2_with fail
          refine (C0.out _).mono ?_
          rintro e w' ⟨rfl, rfl⟩
          go_wp2_with fail
          refine (C2.out _).mono ?_
          rintro e w' ⟨rfl, rfl⟩
          go_wp2_with fail
          refine (C4.out _).mono ?_
          rintro e w' ⟨rfl, rfl⟩
          go_wp2_with fail
          refine (HDY.out _).mono ?_
          rintro e w' ⟨rfl, rfl⟩
          by_cases hD : D < a6
          · have HR : Hid (false = B) := Lib.hid (by cases hb : B; rfl; have := HF.out.1 hb; omega)
            clear HF
            go_wp2
            go_returns
            exact ⟨rets1 (congrArg Value.bool HR.out), rfl⟩
          · go_wp2_with fail
            refine (C8.out _).mono ?_
            rintro e w' ⟨rfl, rfl⟩
            by_cases h8 : a8 < 24
            · go_wp2_with fail
              refine (C10.out _).mono ?_
              rintro e w' ⟨rfl, rfl⟩
              by_cases h10 : a10 < 60
              · go_wp2_with fail
                refine (C12.out _).mono ?_
                rintro e w' ⟨rfl, rfl⟩
                have HR : Hid (decide (a12 < 60) = B) := Lib.hid (by
                  cases hb : B
                  · exact decide_eq_false (fun h12 => by have := HF.out.2 ⟨by omega, by omega, h8, h10, h12⟩; rw [hb] at this; cases this)
                  · exact decide_eq_true (HF.out.1 hb).2.2.2.2)
                clear HF
                go_wp2
                go_returns
                exact ⟨rets1 (congrArg Value.bool HR.out), rfl⟩
              · have HR : Hid (false = B) := Lib.hid (by cases hb : B; rfl; have := HF.out.1 hb; omega)
                clear HF
                go_wp2
                go_returns
                exact ⟨rets1 (congrArg Value.bool HR.out), rfl⟩
            · have HR : Hid (false = B) := Lib.hid (by cases hb : B; rfl; have := HF.out.1 hb; omega)
              clear HF
              go_wp2
              go_returns
              exact ⟨rets1 (congrArg Value.bool HR.out), rfl⟩
  · have hb : ((s.size : Int) != 14) = true := by simp; omega
    have HR : Hid (false = decide (dateP (bl s))) := Lib.hid (decide_eq_false (fun h => h14 (by rw [← bl_length]; exact h.1))).symm
    clear h14
    go_enter Tryd.func15, Tryd.ntmps15
    go_wp2
    go_returns
    exact ⟨rets1 (congrArg Value.bool HR.out), rfl⟩
end Go.Proofs.YthjncfpgmfbehaaDoor
