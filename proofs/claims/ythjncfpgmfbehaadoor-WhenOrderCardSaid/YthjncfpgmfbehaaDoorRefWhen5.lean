/- What the reference's grow gives. Of every text of at most a million bytes that has the whole year. -/
import Derived.Test.YthjncfpgmfbehaaDoorRefWhen4
namespace Go.Proofs.YthjncfpgmfbehaaDoor
open Go.RowKit Go.PlainAid
set_option linter.unusedVariables false
theorem bl_one {x : Int} (h0 : 0 ≤ x) (h1 : x ≤ 255) (s : ByteArray) : bl (s ++ strOfNums [x]) = bl s ++ [x] := by
  rw [bl_append, bl_str (IsB.cons h0 h1 IsB.nil)]
set_option maxRecDepth 100000 in
set_option maxHeartbeats 4000000 in
theorem refGrow_any (tag n : Int) (ht : typ tag n) : ∀ (k : Nat) (s : ByteArray), s.size ≤ 1000000 → n - 10 ≤ s.size → n - s.size ≤ k → ∀ (w : World),
    Calls Tryd.prog 29 #[.int .i64 tag, .int .i64 n, .string s] w fun e w' => e = .returned (.bool (decide (canP tag n (bl s)))) ∧ Below w.heap.size w w' := by
  intro k
  induction k with
  | zero =>
    intro s hs h10 hk w
    have hov : n ≤ (s.size : Int) := by omega
    have HR := Lib.hid (refRightW_any tag s hs)
    rw [decide_eq_decide.2 (can_over (l := bl s) ht (by rw [bl_length]; exact hov))] at HR
    generalize decide (canP tag n (bl s)) = B at *
    go_enter Tryd.func29, Tryd.ntmps29
    go_wp2_with fail
    refine (HR.out _).mono ?_
    rintro e w' ⟨rfl, rfl⟩
    go_wp2
    go_returns
    exact ⟨rfl, Below.refl _ _⟩
  | succ k ih =>
    intro s hs h10 hk w
    have hn13 : 13 ≤ n ∧ n ≤ 15 := by rcases ht with ⟨_, h⟩ | ⟨_, h⟩ <;> omega
    by_cases hov : n ≤ (s.size : Int)
    · have HR := Lib.hid (refRightW_any tag s hs)
      rw [decide_eq_decide.2 (can_over (l := bl s) ht (by rw [bl_length]; exact hov))] at HR
      generalize decide (canP tag n (bl s)) = B at *
      clear ih
      go_enter Tryd.func29, Tryd.ntmps29
      go_wp2_with fail
      refine (HR.out _).mono ?_
      rintro e w' ⟨rfl, rfl⟩
      go_wp2
      go_returns
      exact ⟨rfl, Below.refl _ _⟩
    · by_cases h1 : (s.size : Int) = n - 1
      · have h1b : ((s.size : Int) == n - 1) = true := by simpa using h1
        have HR := Lib.hid (refRightW_any tag (s ++ ⟨#[90]⟩) (by rw [ByteArray.size_append]; show s.size + 1 ≤ _; omega))
        have e : bl (s ++ ⟨#[90]⟩) = bl s ++ [90] := by rw [bl_append]; rfl
        rw [e, decide_eq_decide.2 (can_last (l := bl s) ht (by rw [bl_length]; exact h1))] at HR
        have hmx : ¬ 9223372036854775807 < s.size + (⟨#[90]⟩ : ByteArray).size := by rw [show (⟨#[90]⟩ : ByteArray).size = 1 from rfl]; omega
        generalize decide (canP tag n (bl s)) = B at *
        clear ih e h1
        go_enter Tryd.func29, Tryd.ntmps29
        go_wp2_with fail
        refine (HR.out _).mono ?_
        rintro e w' ⟨rfl, rfl⟩
        go_wp2
        go_returns
        exact ⟨rfl, Below.refl _ _⟩
      · have h1b : ((s.size : Int) == n - 1) = false := by simpa using h1
        have htm : (n - (s.size : Int)).tmod 2 = (n - (s.size : Int)) % 2 := Int.tmod_eq_emod_of_nonneg (by omega)
        by_cases h7 : n - 7 ≤ (s.size : Int) ∧ (n - (s.size : Int)) % 2 = 1
        · obtain ⟨h7, ho⟩ := h7
          have HR := Lib.hid (ih (s ++ ⟨#[48, 48]⟩) (by rw [ByteArray.size_append]; show s.size + 2 ≤ _; omega) (by rw [ByteArray.size_append]; show n - 10 ≤ ((s.size + 2 : Nat) : Int); omega) (by rw [ByteArray.size_append]; show n - ((s.size + 2 : Nat) : Int) ≤ k; omega))
          have e : bl (s ++ ⟨#[48, 48]⟩) = bl s ++ [48, 48] := by rw [bl_append]; rfl
          rw [e, decide_eq_decide.2 (can_zeros (l := bl s) ht (by rw [bl_length]; exact h7) (by rw [bl_length]; omega))] at HR
          have hmx : ¬ 9223372036854775807 < s.size + (⟨#[48, 48]⟩ : ByteArray).size := by rw [show (⟨#[48, 48]⟩ : ByteArray).size = 2 from rfl]; omega
          generalize decide (canP tag n (bl s)) = B at *
          clear ih e h1
          go_enter Tryd.func29, Tryd.ntmps29
          go_wp2_with fail
          refine (HR.out _).mono ?_
          rintro e w' ⟨rfl, hb⟩
          go_wp2
          go_returns
          exact ⟨rfl, hb⟩
        · have HIH := Lib.hid (fun (x : Int) (h0 : 0 ≤ x) (h2 : x ≤ 255) => ih (s ++ strOfNums [x]) (by rw [ByteArray.size_append, strOfNums_size]; show s.size + 1 ≤ _; omega) (by rw [ByteArray.size_append, strOfNums_size]; show n - 10 ≤ ((s.size + 1 : Nat) : Int); omega) (by rw [ByteArray.size_append, strOfNums_size]; show n - ((s.size + 1 : Nat) : Int) ≤ k; omega))
          have HBL := Lib.hid (fun (x : Int) (h0 : 0 ≤ x) (h2 : x ≤ 255) => bl_one h0 h2 s)
          have HW : Hid (∀ h : canP tag n (bl s), canP tag n (bl s ++ [48]) ∨ canP tag n (bl s ++ [49])) := Lib.hid (fun h => can_wit h (by rw [bl_length]; exact h10) (by rw [bl_length]; omega))
          have HI : Hid (∀ x, canP tag n (bl s ++ [x]) → canP tag n (bl s)) := Lib.hid (fun x h => canP_init h)
          have hmx : ∀ x : Int, ¬ 9223372036854775807 < s.size + (strOfNums [x]).size := fun x => by rw [strOfNums_size]; simp only [List.length_cons, List.length_nil]; omega
          have HMX := Lib.hid hmx
          clear ih hmx h1
          have hcase : ¬ n - 7 ≤ (s.size : Int) ∨ (n - 7 ≤ (s.size : Int) ∧ ((n - (s.size : Int)) % 2 == 1) = false) := by
            by_cases h : n - 7 ≤ (s.size : Int)
            · refine .inr ⟨h, ?_⟩; simp; omega
            · exact .inl h
          rcases hcase with h7n | ⟨h7n, hodd⟩
          all_goals
            clear h7
            go_enter Tryd.func29, Tryd.ntmps29
            go_wp2
            go_loopw [7] (fun dv wr => ∃ (d : Nat), dv = .int .i64 (d : Int) ∧ d ≤ 10 ∧ Hid (Below w.heap.size w wr) ∧ Hid (∀ e : Nat, e < d → ¬ canP tag n (bl s ++ [48 + (e : Int)]))) (fun dv _ => 10 - (intOf dv).toNat)
            case atStart => exact ⟨0, rfl, by omega, Lib.hid (Below.refl _ _), Lib.hid (by intro e he; omega)⟩
            case round =>
              obtain ⟨d, rfl, hd, HB, HN⟩ := hrel
              by_cases hlt : d < 10
              · have hlti : (d : Int) < 10 := by omega
                have h8 : (48 + (d : Int)) % 256 = 48 + (d : Int) := by omega
                have hcv := conv_one wr (48 + (d : Int))
                have hmx := HMX.out (48 + (d : Int))
                have HC := Lib.hid (HIH.out (48 + (d : Int)) (by omega) (by omega))
                rw [HBL.out (48 + (d : Int)) (by omega) (by omega)] at HC
                have HX : Hid (decide (canP tag n (bl s ++ [48 + (d : Int)])) = true → decide (canP tag n (bl s)) = true) := Lib.hid (fun h => decide_eq_true (HI.out _ (of_decide_eq_true h)))
                have HY : Hid (decide (canP tag n (bl s ++ [48 + (d : Int)])) = false → ∀ e : Nat, e < d + 1 → ¬ canP tag n (bl s ++ [48 + (e : Int)])) := Lib.hid (fun h e he => by
                  by_cases h2 : e < d
                  · exact HN.out e h2
                  · obtain rfl : e = d := by omega
                    exact of_decide_eq_false h)
                generalize decide (canP tag n (bl s ++ [48 + (d : Int)])) = B at *
                go_wp2_with fail
                refine (HC.out _).mono ?_
                rintro e w' ⟨rfl, hb⟩
                have HB2 := Lib.hid ((HB.out.alloc HB.out.size (.cells #[.int .u8 (48 + (d : Int))] 5)).trans (hb.mono (Nat.le_trans HB.out.size (by simp))))
                clear hb hcv HC
                cases B
                · have HZ := Lib.hid (HY.out rfl)
                  clear HX HY
                  go_wp2
                  go_roundw
                  case rel => exact ⟨d + 1, by simp, by omega, HB2, HZ⟩
                  case measure => simp [intOf]; omega
                · have HZ := Lib.hid (HX.out rfl)
                  clear HX HY
                  go_wp2
                  go_returns
                  exact ⟨rets1 (congrArg Value.bool HZ.out.symm), HB2.out⟩
              · have hne : ¬ (d : Int) < 10 := by omega
                have HZ : Hid (false = decide (canP tag n (bl s))) := Lib.hid (decide_eq_false (fun h => by
                  rcases HW.out h with h2 | h2
                  · exact HN.out 0 (by omega) h2
                  · exact HN.out 1 (by omega) h2)).symm
                go_wp2
                go_returns
                exact ⟨rets1 (congrArg Value.bool HZ.out), HB.out⟩
end Go.Proofs.YthjncfpgmfbehaaDoor
