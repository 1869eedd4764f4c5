/- Of every two numbers: the greater one's bytes are never fewer, and of like many they are the greater text. No condition but the form of the row. -/
import Derived.Test.YtaijmnagbagocaaLenAwake
import Derived.Test.YtaijmnagbagocaaRows
import Derived.WalkKit
import Derived.ProofKit
import Derived.OpenShut
import Derived.ShutString
import Derived.ChangeOld
import Derived.Below
namespace Go.Proofs.Ytaijmnagbagocaa
open Go.ChangeShapes Go.WideShapes Go.ChangeAt Go.RowKit
open Go.ChangeMaps (open_string shut_string)
set_option linter.unusedVariables false
set_option maxRecDepth 100000 in
set_option maxHeartbeats 4000000 in
theorem walkLengthRise (a0 : Int) (a1 : Int) (b0 : -9223372036854775808 ≤ a0 ∧ a0 ≤ 9223372036854775807) (b1 : -9223372036854775808 ≤ a1 ∧ a1 ≤ 9223372036854775807) (w : World) :
    Calls Try.prog 7 #[.int .i64 a0, .int .i64 a1] w fun e w' => e = .returned (.bool true) ∧ Below w.heap.size w w' := by
  have H0 := Lib.hid (lenPut_all a0 b0)
  have H1 := Lib.hid (lenPut_all a1 b1)
  by_cases hin : lenOk a0 = true ∧ lenOk a1 = true ∧ a0 ≤ a1
  · obtain ⟨h0, h1, h2⟩ := hin
    have hsz := rise_len h0 h1 h2
    have hle := rise_le h0 h1 h2
    have hps := lpS_le a0
    have hpt := lpS_le a1
    rw [lpE_ok.2 h0] at H0
    rw [lpE_ok.2 h1] at H1
    generalize lpS a0 = s at *
    generalize lpS a1 = t at *
    clear h0 h1
    by_cases hs : s.size = t.size
    · have hle2 := hle hs
      have hsi : (s.size : Int) = (t.size : Int) := by omega
      clear hle hs
      go_enter Try.func7, Try.ntmps7
      go_wp2_with fail
      refine (H0.out _).mono ?_
      rintro e w1 ⟨rfl, hB1⟩
      go_wp2_with fail
      refine (H1.out _).mono ?_
      rintro e w2 ⟨rfl, hb⟩
      have hB2 := hB1.trans (hb.mono hB1.size)
      clear hb hB1
      go_wp2_with fail
      refine (awake06_any _).mono ?_
      rintro e w3 ⟨rfl, hb⟩
      have hB3 := hB2.trans (hb.mono hB2.size)
      clear hb hB2
      go_wp2
      go_returns
      exact ⟨rfl, hB3⟩
    · have hlt : (s.size : Int) < (t.size : Int) := by omega
      clear hle hs
      go_enter Try.func7, Try.ntmps7
      go_wp2_with fail
      refine (H0.out _).mono ?_
      rintro e w1 ⟨rfl, hB1⟩
      go_wp2_with fail
      refine (H1.out _).mono ?_
      rintro e w2 ⟨rfl, hb⟩
      have hB2 := hB1.trans (hb.mono hB1.size)
      clear hb hB1
      go_wp2_with fail
      refine (awake06_any _).mono ?_
      rintro e w3 ⟨rfl, hb⟩
      have hB3 := hB2.trans (hb.mono hB2.size)
      clear hb hB2
      go_wp2
      go_returns
      exact ⟨rfl, hB3⟩
  · have hw : lpE a0 = 1 ∨ (lpE a0 = 0 ∧ lpE a1 = 1) ∨ (lpE a0 = 0 ∧ lpE a1 = 0 ∧ a1 < a0) := by
      have e0 : lpE a0 = 0 ∨ lpE a0 = 1 := by unfold lpE; split <;> simp
      have e1 : lpE a1 = 0 ∨ lpE a1 = 1 := by unfold lpE; split <;> simp
      rw [← lpE_ok, ← lpE_ok] at hin
      omega
    generalize lpE a0 = e0 at *
    generalize lpE a1 = e1 at *
    generalize lpS a0 = s at *
    generalize lpS a1 = t at *
    clear hin
    rcases hw with rfl | ⟨rfl, rfl⟩ | ⟨rfl, rfl, h⟩
    all_goals
      go_enter Try.func7, Try.ntmps7
      go_wp2_with fail
      refine (H0.out _).mono ?_
      rintro e w1 ⟨rfl, hB1⟩
      go_wp2_with fail
      refine (H1.out _).mono ?_
      rintro e w2 ⟨rfl, hb⟩
      have hB2 := hB1.trans (hb.mono hB1.size)
      clear hb hB1
      go_wp2_with fail
      refine (awake06_any _).mono ?_
      rintro e w3 ⟨rfl, hb⟩
      have hB3 := hB2.trans (hb.mono hB2.size)
      clear hb hB2
      go_wp2_with fail
      refine (awake06_any _).mono ?_
      rintro e w4 ⟨rfl, hb⟩
      have hB4 := hB3.trans (hb.mono hB3.size)
      clear hb hB3
      go_wp2
      go_returns
      exact ⟨rfl, hB4⟩


/-! ### LengthRise: the step from the walk to the statement -/
namespace lengthRise
theorem own : ownKnob Try.prog.godebug = none := by kernel_rfl
set_option maxRecDepth 100000 in
theorem lifted (os : Os) (started : os.Started) (H : Type) (enc : TypeId × Value → H) :
    ReturnsInHanded {} Try.checked os 7 .any (Rows.lengthRiseSpec.pre6 enc Try.prog Try.f7 Rows.lengthRiseRow.domain false) (Rows.lengthRiseSpec.post enc Try.prog Try.f7 false true false false) := by
  refine returnsInHanded_of_change (C := Try.checked) own started (by kernel_rfl) Try.func7
    (ChangeSpec.witness6 (enc := enc) (C := Try.checked) false ⟨#[], #[.int .i64 0, .int .i64 0], []⟩ 8 (by kernel_rfl) (by kernel_rfl) (by kernel_rfl) (by kernel_rfl)) ?_
  intro W base args ds gs before hval0 hW hcnd _
  have hval : ∀ (j : Nat) t v, Try.f7.params[j]? = some t → args[j]? = some v → Value.okWide Try.prog W .any base t v := hval0
  have hW' := hW
  obtain ⟨p, q, hA0, hV, rfl, hfz, hnd⟩ := hW
  have hA : DataW.TrodAll enc Try.prog W 0 (fun _ => true) true Try.f7.params.toList args.toList ds p := hA0
  rw [Try.params7] at hA hval
  obtain ⟨v0, vs0, d0, ds0, p0, q0, hargs, rfl, rfl, h0, r0⟩ := trodAll_cons hA
  obtain ⟨v1, vs1, d1, ds1, p1, q1, rfl, rfl, rfl, h1, r1⟩ := trodAll_cons r0
  obtain ⟨rfl, rfl, rfl⟩ := trodAll_nil r1
  obtain rfl : args = #[v0, v1] := by cases args; simp_all
  obtain ⟨rfl, rfl⟩ := trodVars_none hV
  obtain ⟨a0, rfl, rfl, rfl, w0⟩ := open_int Try.underlying3 (hval 0 3 v0 rfl rfl) h0
  obtain ⟨a1, rfl, rfl, rfl, w1⟩ := open_int Try.underlying3 (hval 1 3 v1 rfl rfl) h1
  clear hA0 hval0
  simp only [List.append_nil] at hW'
  refine (walkLengthRise a0 a1 (bounds_i64 w0) (bounds_i64 w1) W).mono fun e W' ⟨he, bel⟩ => ?_
  subst he
  exact ⟨_, rfl, _, _, _, [], [], [], hW', trodAll_mk1 (shut_bool Try.underlying4 _), (trodAll_cons_mk (shut_int Try.underlying3 w0) (trodAll_cons_mk (shut_int Try.underlying3 w1) trodAll_mk0)), rfl, bel.frame _, fun h => by cases h⟩
theorem over : Rows.lengthRiseRow.holds Try.pinned (OpenSpec.ofChange Rows.lengthRiseSpec) :=
  OpenClaim.holds_of_wide 7 Try.f7 rfl rfl rfl rfl rfl rfl rfl ⟨rfl, rfl, rfl, rfl, rfl⟩ rfl rfl rfl rfl rfl (by kernel_rfl) Try.func7 (by kernel_rfl)
    (of_decide_eq_true (by kernel_rfl)) (by unfold Func.isWrapper; first | (rw [if_pos (by decide +kernel)]; kernel_rfl) | (rw [if_neg (by decide +kernel)]; exact ⟨rfl, rfl⟩))
    (fun os started H enc _ => lifted os started H enc)
/-- THE STATEMENT. -/
theorem proved : Rows.LengthRiseSaid := over
end lengthRise
end Go.Proofs.Ytaijmnagbagocaa
