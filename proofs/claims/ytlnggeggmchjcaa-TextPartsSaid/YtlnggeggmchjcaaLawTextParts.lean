/- Of every tag and two contents (of more than 300 bytes the law asks only for the fixed answers): two that are right are so one behind the other, and what else the law says of them. No condition but the form of the row. -/
import Derived.Test.YtlnggeggmchjcaaTextAwake
import Derived.Test.YtlnggeggmchjcaaRows
import Derived.WalkKit
import Derived.ProofKit
import Derived.OpenShut
import Derived.ShutString
import Derived.ChangeOld
import Derived.Below
namespace Go.Proofs.Ytlnggeggmchjcaa
open Go.ChangeShapes Go.WideShapes Go.ChangeAt Go.RowKit
open Go.ChangeMaps (open_string shut_string)
set_option linter.unusedVariables false
open Go.PlainAid in
set_option maxRecDepth 100000 in
set_option maxHeartbeats 8000000 in
theorem walkTextParts (a0 : Int) (a1 : ByteArray) (a2 : ByteArray) (b0 : -9223372036854775808 ≤ a0 ∧ a0 ≤ 9223372036854775807) (b1 : a1.size ≤ maxLen) (b2 : a2.size ≤ maxLen) (w : World) :
    Calls Try.prog 5 #[.int .i64 a0, .string a1, .string a2] w fun e w' => e = .returned (.bool true) ∧ Below w.heap.size w w' := by
  have hb9 : (a1.size : Int) ≤ 9223372036854775807 := by unfold maxLen at b1; omega
  have hc9 : (a2.size : Int) ≤ 9223372036854775807 := by unfold maxLen at b2; omega
  by_cases hl : (300 : Int) < (a1.size : Int)
  · go_enter Try.func5, Try.ntmps5
    go_wp2_with fail
    refine (awake14_any _).mono ?_
    rintro e w1 ⟨rfl, hB1⟩
    go_wp2_with fail
    refine (awake14_any _).mono ?_
    rintro e w2 ⟨rfl, hb⟩
    have hB2 := hB1.trans (hb.mono hB1.size)
    clear hb hB1
    go_wp2
    go_returns
    exact ⟨rfl, hB2⟩
  · by_cases hm : (300 : Int) < (a2.size : Int)
    · go_enter Try.func5, Try.ntmps5
      go_wp2_with fail
      refine (awake14_any _).mono ?_
      rintro e w1 ⟨rfl, hB1⟩
      go_wp2_with fail
      refine (awake14_any _).mono ?_
      rintro e w2 ⟨rfl, hb⟩
      have hB2 := hB1.trans (hb.mono hB1.size)
      clear hb hB1
      go_wp2
      go_returns
      exact ⟨rfl, hB2⟩
    · have hmx : ¬ 9223372036854775807 < a1.size + a2.size := by omega
      have HX := Lib.hid (textCheck_any a0 a1 (by omega))
      have HY := Lib.hid (textCheck_any a0 a2 (by omega))
      have HZ := Lib.hid (textCheck_any a0 (a1 ++ a2) (by rw [ByteArray.size_append]; omega))
      rw [bl_append] at HZ
      have h1 : decide (rightT a0 (bl a1)) = true → decide (rightT a0 (bl a1 ++ bl a2)) = decide (rightT a0 (bl a2)) := fun h => decide_eq_decide.2 (right_append (of_decide_eq_true h))
      have h2 : decide (rightT a0 (bl a1 ++ bl a2)) = true → a0 ≠ 12 → decide (rightT a0 (bl a1)) = true := fun h ht => decide_eq_true (right_parts ht (of_decide_eq_true h)).1
      generalize decide (rightT a0 (bl a1)) = X at *
      generalize decide (rightT a0 (bl a2)) = Y at *
      generalize decide (rightT a0 (bl a1 ++ bl a2)) = Z at *
      clear b1 b2
      have hcase : (X = true ∧ Y = true ∧ Z = true) ∨ (X = true ∧ Y = false ∧ Z = false) ∨ (X = false ∧ Y = true ∧ Z = false) ∨ (X = false ∧ Y = false ∧ Z = false) ∨ (X = false ∧ Y = true ∧ Z = true ∧ a0 = 12) ∨ (X = false ∧ Y = false ∧ Z = true ∧ a0 = 12) := by
        cases X
        · cases Z
          · cases Y
            · exact .inr (.inr (.inr (.inl ⟨rfl, rfl, rfl⟩)))
            · exact .inr (.inr (.inl ⟨rfl, rfl, rfl⟩))
          · have h12 : a0 = 12 := Decidable.byContradiction fun h => by cases h2 rfl h
            cases Y
            · exact .inr (.inr (.inr (.inr (.inr ⟨rfl, rfl, rfl, h12⟩))))
            · exact .inr (.inr (.inr (.inr (.inl ⟨rfl, rfl, rfl, h12⟩))))
        · have := h1 rfl
          subst this
          cases Z
          · exact .inr (.inl ⟨rfl, rfl, rfl⟩)
          · exact .inl ⟨rfl, rfl, rfl⟩
      clear h1 h2
      rcases hcase with ⟨rfl, rfl, rfl⟩ | ⟨rfl, rfl, rfl⟩ | ⟨rfl, rfl, rfl⟩ | ⟨rfl, rfl, rfl⟩ | ⟨rfl, rfl, rfl, rfl⟩ | ⟨rfl, rfl, rfl, rfl⟩
      all_goals
        go_enter Try.func5, Try.ntmps5
        go_wp2_with fail
        refine (awake14_any _).mono ?_
        rintro e w1 ⟨rfl, hB1⟩
        go_wp2_with fail
        refine (HX.out _).mono ?_
        rintro e w2 ⟨rfl, hb⟩
        have hB2 := hB1.trans (hb.mono hB1.size)
        clear hb hB1
        go_wp2_with fail
        refine (HY.out _).mono ?_
        rintro e w3 ⟨rfl, hb⟩
        have hB3 := hB2.trans (hb.mono hB2.size)
        clear hb hB2
        go_wp2_with fail
        refine (HZ.out _).mono ?_
        rintro e w4 ⟨rfl, hb⟩
        have hB4 := hB3.trans (hb.mono hB3.size)
        clear hb hB3
        go_wp2
        all_goals
          go_returns
          exact ⟨rfl, hB4⟩


/-! ### TextParts: the step from the walk to the statement -/
namespace textParts
theorem own : ownKnob Try.prog.godebug = none := by kernel_rfl
set_option maxRecDepth 100000 in
theorem lifted (os : Os) (started : os.Started) (H : Type) (enc : TypeId × Value → H) :
    ReturnsInHanded {} Try.checked os 5 .any (Rows.textPartsSpec.pre6 enc Try.prog Try.f5 Rows.textPartsRow.domain false) (Rows.textPartsSpec.post enc Try.prog Try.f5 false true false false) := by
  refine returnsInHanded_of_change (C := Try.checked) own started (by kernel_rfl) Try.func5
    (ChangeSpec.witness6 (enc := enc) (C := Try.checked) false ⟨#[], #[.int .i64 0, .string ByteArray.empty, .string ByteArray.empty], []⟩ 8 (by kernel_rfl) (by kernel_rfl) (by kernel_rfl) (by kernel_rfl)) ?_
  intro W base args ds gs before hval0 hW hcnd _
  have hval : ∀ (j : Nat) t v, Try.f5.params[j]? = some t → args[j]? = some v → Value.okWide Try.prog W .any base t v := hval0
  have hW' := hW
  obtain ⟨p, q, hA0, hV, rfl, hfz, hnd⟩ := hW
  have hA : DataW.TrodAll enc Try.prog W 0 (fun _ => true) true Try.f5.params.toList args.toList ds p := hA0
  rw [Try.params5] at hA hval
  obtain ⟨v0, vs0, d0, ds0, p0, q0, hargs, rfl, rfl, h0, r0⟩ := trodAll_cons hA
  obtain ⟨v1, vs1, d1, ds1, p1, q1, rfl, rfl, rfl, h1, r1⟩ := trodAll_cons r0
  obtain ⟨v2, vs2, d2, ds2, p2, q2, rfl, rfl, rfl, h2, r2⟩ := trodAll_cons r1
  obtain ⟨rfl, rfl, rfl⟩ := trodAll_nil r2
  obtain rfl : args = #[v0, v1, v2] := by cases args; simp_all
  obtain ⟨rfl, rfl⟩ := trodVars_none hV
  obtain ⟨a0, rfl, rfl, rfl, w0⟩ := open_int Try.underlying3 (hval 0 3 v0 rfl rfl) h0
  obtain ⟨a1, rfl, rfl, rfl, w1⟩ := open_string Try.underlying9 (hval 1 9 v1 rfl rfl) h1
  obtain ⟨a2, rfl, rfl, rfl, w2⟩ := open_string Try.underlying9 (hval 2 9 v2 rfl rfl) h2
  clear hA0 hval0
  simp only [List.append_nil] at hW'
  refine (walkTextParts a0 a1 a2 (bounds_i64 w0) w1 w2 W).mono fun e W' ⟨he, bel⟩ => ?_
  subst he
  exact ⟨_, rfl, _, _, _, [], [], [], hW', trodAll_mk1 (shut_bool Try.underlying4 _), (trodAll_cons_mk (shut_int Try.underlying3 w0) (trodAll_cons_mk (shut_string Try.underlying9 w1) (trodAll_cons_mk (shut_string Try.underlying9 w2) trodAll_mk0))), rfl, bel.frame _, fun h => by cases h⟩
theorem over : Rows.textPartsRow.holds Try.pinned (OpenSpec.ofChange Rows.textPartsSpec) :=
  OpenClaim.holds_of_wide 5 Try.f5 rfl rfl rfl rfl rfl rfl rfl ⟨rfl, rfl, rfl, rfl, rfl⟩ rfl rfl rfl rfl rfl (by kernel_rfl) Try.func5 (by kernel_rfl)
    (of_decide_eq_true (by kernel_rfl)) (by unfold Func.isWrapper; first | (rw [if_pos (by decide +kernel)]; kernel_rfl) | (rw [if_neg (by decide +kernel)]; exact ⟨rfl, rfl⟩))
    (fun os started H enc _ => lifted os started H enc)
/-- THE STATEMENT. -/
theorem proved : Rows.TextPartsSaid := over
end textParts
end Go.Proofs.Ytlnggeggmchjcaa
