/- Roots rise with the number and fall with the degree. For every two numbers and every degree; no condition. -/
import Derived.Test.YtlolkelkbanhjaaAwake
import Derived.Test.YtlolkelkbanhjaaRows
import Derived.WalkKit
import Derived.ProofKit
import Derived.OpenShut
import Derived.ShutString
import Derived.ChangeOld
import Derived.Below
namespace Go.Proofs.Ytlolkelkbanhjaa
open Go.PlainAid
open Go.ChangeShapes Go.WideShapes Go.ChangeAt Go.RowKit
open Go.ChangeMaps (open_string shut_string)
set_option linter.unusedVariables false
set_option maxRecDepth 100000 in
set_option maxHeartbeats 1000000 in
theorem walkWordRise (a0 : Int) (a1 : Int) (a2 : Int) (b0 : 0 ≤ a0 ∧ a0 ≤ 18446744073709551615) (b1 : 0 ≤ a1 ∧ a1 ≤ 18446744073709551615) (b2 : -9223372036854775808 ≤ a2 ∧ a2 ≤ 9223372036854775807) (w : World) :
    Calls Try.prog 10 #[.int .u64 a0, .int .u64 a1, .int .i64 a2] w fun e w' => e = .returned (.bool true) ∧ Below w.heap.size w w' := by
  obtain ⟨x0, x1⟩ := b0
  obtain ⟨y0, y1⟩ := b1
  have H1 := Lib.hid (rootN_one (n := a0.toNat) (by omega))
  by_cases hk0 : a2 < 1
  · go_enter Try.func10, Try.ntmps10
    go_wp2_with fail
    refine (awake01_any _).mono ?_
    rintro e w1 ⟨rfl, hbA⟩
    go_wp2_with fail
    refine (awake01_any _).mono ?_
    rintro e w2 ⟨rfl, hbB⟩
    have hbC := hbA.trans (hbB.mono hbA.size)
    clear hbA hbB
    go_wp2
    go_returns
    exact ⟨rfl, hbC⟩
  · by_cases hk1 : 64 < a2
    · go_enter Try.func10, Try.ntmps10
      go_wp2_with fail
      refine (awake01_any _).mono ?_
      rintro e w1 ⟨rfl, hbA⟩
      go_wp2_with fail
      refine (awake01_any _).mono ?_
      rintro e w2 ⟨rfl, hbB⟩
      have hbC := hbA.trans (hbB.mono hbA.size)
      clear hbA hbB
      go_wp2
      go_returns
      exact ⟨rfl, hbC⟩
    · have hk2 : 1 ≤ a2 := by omega
      have HK := Lib.hid (show (a2 + 1).toNat = a2.toNat + 1 by omega)
      have r2 := rootN_succ (n := a0.toNat) (k := a2.toNat) (by omega) (by omega)
      have r2' : ((rootN a0.toNat (a2.toNat + 1) : Nat) : Int) ≤ ((rootN a0.toNat a2.toNat : Nat) : Int) := by omega
      by_cases hnm : a0 < a1
      · have r1 := rootN_mono (n := a0.toNat) (m := a1.toNat) (k := a2.toNat) (by omega) (by omega)
        have r1' : ((rootN a0.toNat a2.toNat : Nat) : Int) ≤ ((rootN a1.toNat a2.toNat : Nat) : Int) := by omega
        clear r1 r2
        go_enter Try.func10, Try.ntmps10
        go_wp2_with fail
        refine (awake01_any _).mono ?_
        rintro e w1 ⟨rfl, hbA⟩
        go_wp2_with fail
        refine (root_any _ a2 (by omega) (by omega) _).mono ?_
        rintro e w1 ⟨rfl, rfl⟩
        go_wp2_with fail
        refine (root_any _ a2 (by omega) (by omega) _).mono ?_
        rintro e w1 ⟨rfl, rfl⟩
        go_wp2_with fail
        refine (root_any a0 a2 (by omega) (by omega) _).mono ?_
        rintro e w1 ⟨rfl, rfl⟩
        go_wp2_with fail
        refine (root_any a0 _ (by omega) (by omega) _).mono ?_
        rintro e w1 ⟨rfl, rfl⟩
        rw [HK.out]
        go_wp2_with fail
        refine (root_any a0 1 (by omega) (by omega) _).mono ?_
        rintro e w1 ⟨rfl, rfl⟩
        rw [show (1 : Int).toNat = 1 from rfl, H1.out, Int.toNat_of_nonneg x0]
        go_wp2
        go_returns
        exact ⟨rfl, hbA⟩
      · by_cases hmn : a1 < a0
        · have r1 := rootN_mono (n := a1.toNat) (m := a0.toNat) (k := a2.toNat) (by omega) (by omega)
          have r1' : ((rootN a1.toNat a2.toNat : Nat) : Int) ≤ ((rootN a0.toNat a2.toNat : Nat) : Int) := by omega
          clear r1 r2
          go_enter Try.func10, Try.ntmps10
          go_wp2_with fail
          refine (awake01_any _).mono ?_
          rintro e w1 ⟨rfl, hbA⟩
          go_wp2_with fail
          refine (root_any _ a2 (by omega) (by omega) _).mono ?_
          rintro e w1 ⟨rfl, rfl⟩
          go_wp2_with fail
          refine (root_any _ a2 (by omega) (by omega) _).mono ?_
          rintro e w1 ⟨rfl, rfl⟩
          go_wp2_with fail
          refine (root_any a0 a2 (by omega) (by omega) _).mono ?_
          rintro e w1 ⟨rfl, rfl⟩
          go_wp2_with fail
          refine (root_any a0 _ (by omega) (by omega) _).mono ?_
          rintro e w1 ⟨rfl, rfl⟩
          rw [HK.out]
          go_wp2_with fail
          refine (root_any a0 1 (by omega) (by omega) _).mono ?_
          rintro e w1 ⟨rfl, rfl⟩
          rw [show (1 : Int).toNat = 1 from rfl, H1.out, Int.toNat_of_nonneg x0]
          go_wp2
          go_returns
          exact ⟨rfl, hbA⟩
        · obtain rfl : a0 = a1 := by omega
          clear r2 hnm hmn
          go_enter Try.func10, Try.ntmps10
          go_wp2_with fail
          refine (awake01_any _).mono ?_
          rintro e w1 ⟨rfl, hbA⟩
          go_wp2_with fail
          refine (root_any _ a2 (by omega) (by omega) _).mono ?_
          rintro e w1 ⟨rfl, rfl⟩
          go_wp2_with fail
          refine (root_any _ a2 (by omega) (by omega) _).mono ?_
          rintro e w1 ⟨rfl, rfl⟩
          go_wp2_with fail
          refine (root_any a0 a2 (by omega) (by omega) _).mono ?_
          rintro e w1 ⟨rfl, rfl⟩
          go_wp2_with fail
          refine (root_any a0 _ (by omega) (by omega) _).mono ?_
          rintro e w1 ⟨rfl, rfl⟩
          rw [HK.out]
          go_wp2_with fail
          refine (root_any a0 1 (by omega) (by omega) _).mono ?_
          rintro e w1 ⟨rfl, rfl⟩
          rw [show (1 : Int).toNat = 1 from rfl, H1.out, Int.toNat_of_nonneg x0]
          go_wp2
          go_returns
          exact ⟨rfl, hbA⟩

/-! ### WordRise: the step from the walk to the statement -/
namespace wordRise
theorem own : ownKnob Try.prog.godebug = none := by kernel_rfl
set_option maxRecDepth 100000 in
theorem lifted (os : Os) (started : os.Started) (H : Type) (enc : TypeId × Value → H) :
    ReturnsInHanded {} Try.checked os 10 .any (Rows.wordRiseSpec.pre6 enc Try.prog Try.f10 Rows.wordRiseRow.domain false) (Rows.wordRiseSpec.post enc Try.prog Try.f10 false true false false) := by
  refine returnsInHanded_of_change (C := Try.checked) own started (by kernel_rfl) Try.func10
    (ChangeSpec.witness6 (enc := enc) (C := Try.checked) false ⟨#[], #[.int .u64 0, .int .u64 0, .int .i64 0], []⟩ 8 (by kernel_rfl) (by kernel_rfl) (by kernel_rfl) (by kernel_rfl)) ?_
  intro W base args ds gs before hval0 hW hcnd _
  have hval : ∀ (j : Nat) t v, Try.f10.params[j]? = some t → args[j]? = some v → Value.okWide Try.prog W .any base t v := hval0
  have hW' := hW
  obtain ⟨p, q, hA0, hV, rfl, hfz, hnd⟩ := hW
  have hA : DataW.TrodAll enc Try.prog W 0 (fun _ => true) true Try.f10.params.toList args.toList ds p := hA0
  rw [Try.params10] at hA hval
  obtain ⟨v0, vs0, d0, ds0, p0, q0, hargs, rfl, rfl, h0, r0⟩ := trodAll_cons hA
  obtain ⟨v1, vs1, d1, ds1, p1, q1, rfl, rfl, rfl, h1, r1⟩ := trodAll_cons r0
  obtain ⟨v2, vs2, d2, ds2, p2, q2, rfl, rfl, rfl, h2, r2⟩ := trodAll_cons r1
  obtain ⟨rfl, rfl, rfl⟩ := trodAll_nil r2
  obtain rfl : args = #[v0, v1, v2] := by cases args; simp_all
  obtain ⟨rfl, rfl⟩ := trodVars_none hV
  obtain ⟨a0, rfl, rfl, rfl, w0⟩ := open_int Try.underlying22 (hval 0 22 v0 rfl rfl) h0
  obtain ⟨a1, rfl, rfl, rfl, w1⟩ := open_int Try.underlying22 (hval 1 22 v1 rfl rfl) h1
  obtain ⟨a2, rfl, rfl, rfl, w2⟩ := open_int Try.underlying3 (hval 2 3 v2 rfl rfl) h2
  clear hA0 hval0
  simp only [List.append_nil] at hW'
  refine (walkWordRise a0 a1 a2 (bounds_u64 w0) (bounds_u64 w1) (bounds_i64 w2) W).mono fun e W' ⟨he, bel⟩ => ?_
  subst he
  exact ⟨_, rfl, _, _, _, [], [], [], hW', trodAll_mk1 (shut_bool Try.underlying4 _), (trodAll_cons_mk (shut_int Try.underlying22 w0) (trodAll_cons_mk (shut_int Try.underlying22 w1) (trodAll_cons_mk (shut_int Try.underlying3 w2) trodAll_mk0))), rfl, bel.frame _, fun h => by cases h⟩
theorem over : Rows.wordRiseRow.holds Try.pinned (OpenSpec.ofChange Rows.wordRiseSpec) :=
  OpenClaim.holds_of_wide 10 Try.f10 rfl rfl rfl rfl rfl rfl rfl ⟨rfl, rfl, rfl, rfl, rfl⟩ rfl rfl rfl rfl rfl (by kernel_rfl) Try.func10 (by kernel_rfl)
    (of_decide_eq_true (by kernel_rfl)) (by unfold Func.isWrapper; first | (rw [if_pos (by decide +kernel)]; kernel_rfl) | (rw [if_neg (by decide +kernel)]; exact ⟨rfl, rfl⟩))
    (fun os started H enc _ => lifted os started H enc)
/-- THE STATEMENT. -/
theorem proved : Rows.WordRiseSaid := over
end wordRise
end Go.Proofs.Ytlolkelkbanhjaa
