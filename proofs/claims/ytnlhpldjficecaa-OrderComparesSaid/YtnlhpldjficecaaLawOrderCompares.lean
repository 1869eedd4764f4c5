/- Of every two elements (of more than 300 bytes the law asks only for the fixed answers): Compare tells what the reference tells, the other way round the other way round, and a byte 0 behind plays no part. No condition but the form of the row. -/
import Derived.Test.YtnlhpldjficecaaOrdAwake
import Derived.Test.YtnlhpldjficecaaRows
import Derived.WalkKit
import Derived.ProofKit
import Derived.OpenShut
import Derived.ShutString
import Derived.ChangeOld
import Derived.Below
namespace Go.Proofs.Ytnlhpldjficecaa
open Go.ChangeShapes Go.WideShapes Go.ChangeAt Go.RowKit
open Go.ChangeMaps (open_string shut_string)
set_option linter.unusedVariables false
open Go.PlainAid in
set_option maxRecDepth 100000 in
set_option maxHeartbeats 8000000 in
theorem walkOrderCompares (a0 : ByteArray) (a1 : ByteArray) (b0 : a0.size ≤ maxLen) (b1 : a1.size ≤ maxLen) (w : World) :
    Calls Try.prog 3 #[.string a0, .string a1] w fun e w' => e = .returned (.bool true) ∧ Below w.heap.size w w' := by
  have hb9 : (a0.size : Int) ≤ 9223372036854775807 := by unfold maxLen at b0; omega
  have hc9 : (a1.size : Int) ≤ 9223372036854775807 := by unfold maxLen at b1; omega
  by_cases hl : (300 : Int) < (a0.size : Int)
  · go_enter Try.func3, Try.ntmps3
    go_wp2_with fail
    refine (awake16_any _).mono ?_
    rintro e w1 ⟨rfl, hB1⟩
    go_wp2_with fail
    refine (awake16_any _).mono ?_
    rintro e w2 ⟨rfl, hb⟩
    have hB2 := hB1.trans (hb.mono hB1.size)
    go_wp2
    go_returns
    exact ⟨rfl, hB2⟩
  · by_cases hm : (300 : Int) < (a1.size : Int)
    · go_enter Try.func3, Try.ntmps3
      go_wp2_with fail
      refine (awake16_any _).mono ?_
      rintro e w1 ⟨rfl, hB1⟩
      go_wp2_with fail
      refine (awake16_any _).mono ?_
      rintro e w2 ⟨rfl, hb⟩
      have hB2 := hB1.trans (hb.mono hB1.size)
      go_wp2
      go_returns
      exact ⟨rfl, hB2⟩
    · have h1 : a0.size ≤ 300 := by omega
      have h2 : a1.size ≤ 300 := by omega
      have HC1 := Lib.hid (fun W => ordCompare_any a0 a1 (by omega) (by omega) W)
      have HR := Lib.hid (fun W => refCompare_any a0 a1 (by omega) (by omega) W)
      have hC2 := fun W => ordCompare_any a1 a0 (by omega) (by omega) W
      have hC3 := fun W => ordCompare_any (a0 ++ ⟨#[0]⟩) a1 (by rw [size_snoc0]; omega) (by omega) W
      rw [cmpL_neg (bl a0) (bl a1)] at hC2
      rw [bl_snoc0, cmpL_zero] at hC3
      have HC2 := Lib.hid hC2
      have HC3 := Lib.hid hC3
      clear hC2 hC3
      have hov : ¬ 9223372036854775807 < a0.size + (⟨#[0]⟩ : ByteArray).size := by show ¬ 9223372036854775807 < a0.size + 1; omega
      have hrg := cmpL_range (bl a0) (bl a1)
      generalize cmpL (bl a0) (bl a1) = R at *
      rcases hrg with rfl | rfl | rfl
      all_goals
        go_enter Try.func3, Try.ntmps3
        go_wp2_with fail
        refine (awake16_any _).mono ?_
        rintro e w1 ⟨rfl, hB1⟩
        go_wp2_with fail
        refine (HC1.out _).mono ?_
        rintro e w2 ⟨rfl, rfl⟩
        go_wp2_with fail
        refine (HR.out _).mono ?_
        rintro e w3 ⟨rfl, rfl⟩
        go_wp2_with fail
        refine (HC2.out _).mono ?_
        rintro e w4 ⟨rfl, rfl⟩
        go_wp2_with fail
        refine (HC3.out _).mono ?_
        rintro e w5 ⟨rfl, rfl⟩
        go_wp2
        go_returns
        exact ⟨rfl, hB1⟩


/-! ### OrderCompares: the step from the walk to the statement -/
namespace orderCompares
theorem own : ownKnob Try.prog.godebug = none := by kernel_rfl
set_option maxRecDepth 100000 in
theorem lifted (os : Os) (started : os.Started) (H : Type) (enc : TypeId × Value → H) :
    ReturnsInHanded {} Try.checked os 3 .any (Rows.orderComparesSpec.pre6 enc Try.prog Try.f3 Rows.orderComparesRow.domain false) (Rows.orderComparesSpec.post enc Try.prog Try.f3 false true false false) := by
  refine returnsInHanded_of_change (C := Try.checked) own started (by kernel_rfl) Try.func3
    (ChangeSpec.witness6 (enc := enc) (C := Try.checked) false ⟨#[], #[.string ByteArray.empty, .string ByteArray.empty], []⟩ 8 (by kernel_rfl) (by kernel_rfl) (by kernel_rfl) (by kernel_rfl)) ?_
  intro W base args ds gs before hval0 hW hcnd _
  have hval : ∀ (j : Nat) t v, Try.f3.params[j]? = some t → args[j]? = some v → Value.okWide Try.prog W .any base t v := hval0
  have hW' := hW
  obtain ⟨p, q, hA0, hV, rfl, hfz, hnd⟩ := hW
  have hA : DataW.TrodAll enc Try.prog W 0 (fun _ => true) true Try.f3.params.toList args.toList ds p := hA0
  rw [Try.params3] at hA hval
  obtain ⟨v0, vs0, d0, ds0, p0, q0, hargs, rfl, rfl, h0, r0⟩ := trodAll_cons hA
  obtain ⟨v1, vs1, d1, ds1, p1, q1, rfl, rfl, rfl, h1, r1⟩ := trodAll_cons r0
  obtain ⟨rfl, rfl, rfl⟩ := trodAll_nil r1
  obtain rfl : args = #[v0, v1] := by cases args; simp_all
  obtain ⟨rfl, rfl⟩ := trodVars_none hV
  obtain ⟨a0, rfl, rfl, rfl, w0⟩ := open_string Try.underlying9 (hval 0 9 v0 rfl rfl) h0
  obtain ⟨a1, rfl, rfl, rfl, w1⟩ := open_string Try.underlying9 (hval 1 9 v1 rfl rfl) h1
  clear hA0 hval0
  simp only [List.append_nil] at hW'
  refine (walkOrderCompares a0 a1 w0 w1 W).mono fun e W' ⟨he, bel⟩ => ?_
  subst he
  exact ⟨_, rfl, _, _, _, [], [], [], hW', trodAll_mk1 (shut_bool Try.underlying4 _), (trodAll_cons_mk (shut_string Try.underlying9 w0) (trodAll_cons_mk (shut_string Try.underlying9 w1) trodAll_mk0)), rfl, bel.frame _, fun h => by cases h⟩
theorem over : Rows.orderComparesRow.holds Try.pinned (OpenSpec.ofChange Rows.orderComparesSpec) :=
  OpenClaim.holds_of_wide 3 Try.f3 rfl rfl rfl rfl rfl rfl rfl ⟨rfl, rfl, rfl, rfl, rfl⟩ rfl rfl rfl rfl rfl (by kernel_rfl) Try.func3 (by kernel_rfl)
    (of_decide_eq_true (by kernel_rfl)) (by unfold Func.isWrapper; first | (rw [if_pos (by decide +kernel)]; kernel_rfl) | (rw [if_neg (by decide +kernel)]; exact ⟨rfl, rfl⟩))
    (fun os started H enc _ => lifted os started H enc)
/-- THE STATEMENT. -/
theorem proved : Rows.OrderComparesSaid := over
end orderCompares
end Go.Proofs.Ytnlhpldjficecaa
