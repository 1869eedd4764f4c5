/- Of every number, bits and content (of more than 300 bytes the law asks only for the fixed answers): Put's bytes are the reference's, and Get tells the first byte, and those behind it, just of what is right. No condition but the form of the row. -/
import Derived.Test.YtpdehfcpeoiepaaBstrAwake
import Derived.Test.YtpdehfcpeoiepaaRefBstr2
import Derived.Test.YtpdehfcpeoiepaaRows
import Derived.WalkKit
import Derived.ProofKit
import Derived.OpenShut
import Derived.ShutString
import Derived.ChangeOld
import Derived.Below
namespace Go.Proofs.Ytpdehfcpeoiepaa
open Go.ChangeShapes Go.WideShapes Go.ChangeAt Go.RowKit
open Go.ChangeMaps (open_string shut_string)
set_option linter.unusedVariables false
open Go.PlainAid in
set_option maxRecDepth 100000 in
set_option maxHeartbeats 4000000 in
theorem walkBitstrPuts (a0 : Int) (a1 : ByteArray) (a2 : ByteArray) (b0 : -9223372036854775808 ≤ a0 ∧ a0 ≤ 9223372036854775807) (b1 : a1.size ≤ maxLen) (b2 : a2.size ≤ maxLen) (w : World) :
    Calls Try.prog 4 #[.int .i64 a0, .string a1, .string a2] w fun e w' => e = .returned (.bool true) ∧ Below w.heap.size w w' := by
  have hb9 : (a1.size : Int) ≤ 9223372036854775807 := by unfold maxLen at b1; omega
  have hc9 : (a2.size : Int) ≤ 9223372036854775807 := by unfold maxLen at b2; omega
  by_cases hl : (300 : Int) < (a1.size : Int)
  · go_enter Try.func4, Try.ntmps4
    go_wp2_with fail
    refine (awake12_any _).mono ?_
    rintro e w1 ⟨rfl, hB1⟩
    go_wp2_with fail
    refine (awake12_any _).mono ?_
    rintro e w2 ⟨rfl, hb⟩
    have hB2 := hB1.trans (hb.mono hB1.size)
    go_wp2
    go_returns
    exact ⟨rfl, hB2⟩
  · by_cases hm : (300 : Int) < (a2.size : Int)
    · go_enter Try.func4, Try.ntmps4
      go_wp2_with fail
      refine (awake12_any _).mono ?_
      rintro e w1 ⟨rfl, hB1⟩
      go_wp2_with fail
      refine (awake12_any _).mono ?_
      rintro e w2 ⟨rfl, hb⟩
      have hB2 := hB1.trans (hb.mono hB1.size)
      go_wp2
      go_returns
      exact ⟨rfl, hB2⟩
    · have HP := Lib.hid (bsPut_any a0 a1 (by omega))
      have HRP := Lib.hid (refPut_any a0 a1 (by omega))
      have HRR := Lib.hid (refRight_any a2 b2)
      generalize bpS a0 a1 = S at *
      generalize bpB a0 a1 = B at *
      cases hr : bsR a2
      · have HG := Lib.hid (bsGet_is a2 (by omega) (u := 0) (s := ⟨#[]⟩) (ok := false) (by unfold bgU; rw [hr]; rfl) (by unfold bgS; rw [hr]; rfl) hr)
        rw [hr] at HRR
        clear hr
        cases B
        all_goals
          go_enter Try.func4, Try.ntmps4
          go_wp2_with fail
          refine (awake12_any _).mono ?_
          rintro e w1 ⟨rfl, hB1⟩
          go_wp2_with fail
          refine (HP.out _).mono ?_
          rintro e w2 ⟨rfl, hb⟩
          have hB2 := hB1.trans (hb.mono hB1.size)
          clear hb hB1
          go_wp2_with fail
          refine (HRP.out _).mono ?_
          rintro e w3 ⟨rfl, hb⟩
          have hB3 := hB2.trans (hb.mono hB2.size)
          clear hb hB2
          go_wp2_with fail
          refine (HG.out _).mono ?_
          rintro e w4 ⟨rfl, hb⟩
          have hB4 := hB3.trans (hb.mono hB3.size)
          clear hb hB3
          go_wp2_with fail
          refine (HRR.out _).mono ?_
          rintro e w5 ⟨rfl, hb⟩
          have hB5 := hB4.trans (hb.mono hB4.size)
          clear hb hB4
          go_wp2
          go_returns
          exact ⟨rfl, hB5⟩
      · have HG := Lib.hid (bsGet_is a2 (by omega) (u := bt a2 0) (s := a2.extract 1 a2.size) (ok := true) (by unfold bgU; rw [hr]; rfl) (by unfold bgS; rw [hr]; rfl) hr)
        have h0 : 0 < a2.size := ((bsR_iff a2).1 hr).1
        have g0 := get_bt a2 0 h0
        have hx0 := bt_nonneg a2 0
        have hx1 := bt_le a2 0
        have hi0 : (0 : Int) < (a2.size : Int) := by omega
        have hi1 : (1 : Int) ≤ (a2.size : Int) := by omega
        rw [hr] at HRR
        clear hr
        generalize bt a2 0 = x at *
        cases B
        all_goals
          go_enter Try.func4, Try.ntmps4
          go_wp2_with fail
          refine (awake12_any _).mono ?_
          rintro e w1 ⟨rfl, hB1⟩
          go_wp2_with fail
          refine (HP.out _).mono ?_
          rintro e w2 ⟨rfl, hb⟩
          have hB2 := hB1.trans (hb.mono hB1.size)
          clear hb hB1
          go_wp2_with fail
          refine (HRP.out _).mono ?_
          rintro e w3 ⟨rfl, hb⟩
          have hB3 := hB2.trans (hb.mono hB2.size)
          clear hb hB2
          go_wp2_with fail
          refine (HG.out _).mono ?_
          rintro e w4 ⟨rfl, hb⟩
          have hB4 := hB3.trans (hb.mono hB3.size)
          clear hb hB3
          go_wp2_with fail
          refine (HRR.out _).mono ?_
          rintro e w5 ⟨rfl, hb⟩
          have hB5 := hB4.trans (hb.mono hB4.size)
          clear hb hB4
          go_wp2
          go_returns
          exact ⟨rfl, hB5⟩


/-! ### BitstrPuts: the step from the walk to the statement -/
namespace bitstrPuts
theorem own : ownKnob Try.prog.godebug = none := by kernel_rfl
set_option maxRecDepth 100000 in
theorem lifted (os : Os) (started : os.Started) (H : Type) (enc : TypeId × Value → H) :
    ReturnsInHanded {} Try.checked os 4 .any (Rows.bitstrPutsSpec.pre6 enc Try.prog Try.f4 Rows.bitstrPutsRow.domain false) (Rows.bitstrPutsSpec.post enc Try.prog Try.f4 false true false false) := by
  refine returnsInHanded_of_change (C := Try.checked) own started (by kernel_rfl) Try.func4
    (ChangeSpec.witness6 (enc := enc) (C := Try.checked) false ⟨#[], #[.int .i64 0, .string ByteArray.empty, .string ByteArray.empty], []⟩ 8 (by kernel_rfl) (by kernel_rfl) (by kernel_rfl) (by kernel_rfl)) ?_
  intro W base args ds gs before hval0 hW hcnd _
  have hval : ∀ (j : Nat) t v, Try.f4.params[j]? = some t → args[j]? = some v → Value.okWide Try.prog W .any base t v := hval0
  have hW' := hW
  obtain ⟨p, q, hA0, hV, rfl, hfz, hnd⟩ := hW
  have hA : DataW.TrodAll enc Try.prog W 0 (fun _ => true) true Try.f4.params.toList args.toList ds p := hA0
  rw [Try.params4] at hA hval
  obtain ⟨v0, vs0, d0, ds0, p0, q0, hargs, rfl, rfl, h0, r0⟩ := trodAll_cons hA
  obtain ⟨v1, vs1, d1, ds1, p1, q1, rfl, rfl, rfl, h1, r1⟩ := trodAll_cons r0
  obtain ⟨v2, vs2, d2, ds2, p2, q2, rfl, rfl, rfl, h2, r2⟩ := trodAll_cons r1
  obtain ⟨rfl, rfl, rfl⟩ := trodAll_nil r2
  obtain rfl : args = #[v0, v1, v2] := by cases args; simp_all
  obtain ⟨rfl, rfl⟩ := trodVars_none hV
  obtain ⟨a0, rfl, rfl, rfl, w0⟩ := open_int Try.underlying3 (hval 0 3 v0 rfl rfl) h0
  obtain ⟨a1, rfl, rfl, rfl, w1⟩ := open_string Try.underlying9 (hval 1 9 v1 rfl rfl) h1
  obtain ⟨a2, rfl, rfl, rfl, w2⟩ := open_string Try.underlying9 (hval 2 9 v2 rfl rfl) h2
  clear hA0 hval0
  simp only [List.append_nil] at hW'
  refine (walkBitstrPuts a0 a1 a2 (bounds_i64 w0) w1 w2 W).mono fun e W' ⟨he, bel⟩ => ?_
  subst he
  exact ⟨_, rfl, _, _, _, [], [], [], hW', trodAll_mk1 (shut_bool Try.underlying4 _), (trodAll_cons_mk (shut_int Try.underlying3 w0) (trodAll_cons_mk (shut_string Try.underlying9 w1) (trodAll_cons_mk (shut_string Try.underlying9 w2) trodAll_mk0))), rfl, bel.frame _, fun h => by cases h⟩
theorem over : Rows.bitstrPutsRow.holds Try.pinned (OpenSpec.ofChange Rows.bitstrPutsSpec) :=
  OpenClaim.holds_of_wide 4 Try.f4 rfl rfl rfl rfl rfl rfl rfl ⟨rfl, rfl, rfl, rfl, rfl⟩ rfl rfl rfl rfl rfl (by kernel_rfl) Try.func4 (by kernel_rfl)
    (of_decide_eq_true (by kernel_rfl)) (by unfold Func.isWrapper; first | (rw [if_pos (by decide +kernel)]; kernel_rfl) | (rw [if_neg (by decide +kernel)]; exact ⟨rfl, rfl⟩))
    (fun os started H enc _ => lifted os started H enc)
/-- THE STATEMENT. -/
theorem proved : Rows.BitstrPutsSaid := over
end bitstrPuts
end Go.Proofs.Ytpdehfcpeoiepaa
