/- Any number has the root that the document says. For every number and degree; no condition. -/
import Derived.Test.YtlolkelkbanhjaaAwake
import Derived.Test.YtlolkelkbanhjaaRows
import Derived.WalkKit
import Derived.ProofKit
import Derived.OpenShut
import Derived.ShutString
import Derived.ChangeOld
import Derived.Below
namespace Go.Proofs.Ytlolkelkbanhjaa
open Go.PlainAid
open Go.ChangeShapes Go.WideShapes Go.ChangeAt Go.RowKit
open Go.ChangeMaps (open_string shut_string)
set_option linter.unusedVariables false
set_option maxRecDepth 100000 in
set_option maxHeartbeats 1000000 in
theorem walkWordRoots (a0 : Int) (a1 : Int) (b0 : 0 ≤ a0 ∧ a0 ≤ 18446744073709551615) (b1 : -9223372036854775808 ≤ a1 ∧ a1 ≤ 9223372036854775807) (w : World) :
    Calls Try.prog 7 #[.int .u64 a0, .int .i64 a1] w fun e w' => e = .returned (.bool true) ∧ Below w.heap.size w w' := by
  obtain ⟨x0, x1⟩ := b0
  have hr0 := rootN_lt (n := a0.toNat) (k := a1.toNat) (by omega)
  have hri : ((rootN a0.toNat a1.toNat : Nat) : Int) ≤ 18446744073709551615 := by omega
  have HR := Lib.hid (fun h => rootN_spec (n := a0.toNat) (k := a1.toNat) h)
  by_cases hk0 : a1 < 1
  · clear hr0
    go_enter Try.func7, Try.ntmps7
    go_wp2_with fail
    refine (root_any a0 a1 x0 x1 _).mono ?_
    rintro e w1 ⟨rfl, rfl⟩
    go_wp2_with fail
    refine (awake01_any _).mono ?_
    rintro e w1 ⟨rfl, hbA⟩
    go_wp2_with fail
    refine (refRoot_any a0 a1 x0 x1 _).mono ?_
    rintro e w1 ⟨rfl, rfl⟩
    go_wp2_with fail
    refine (awake01_any _).mono ?_
    rintro e w2 ⟨rfl, hbB⟩
    have hbC := hbA.trans (hbB.mono hbA.size)
    clear hbA hbB
    go_wp2_with fail
    refine (refRoot_any a0 a1 x0 x1 _).mono ?_
    rintro e w1 ⟨rfl, rfl⟩
    go_wp2
    go_returns
    exact ⟨rfl, hbC⟩
  · by_cases hk1 : 64 < a1
    · clear hr0
      go_enter Try.func7, Try.ntmps7
      go_wp2_with fail
      refine (root_any a0 a1 x0 x1 _).mono ?_
      rintro e w1 ⟨rfl, rfl⟩
      go_wp2_with fail
      refine (awake01_any _).mono ?_
      rintro e w1 ⟨rfl, hbA⟩
      go_wp2_with fail
      refine (refRoot_any a0 a1 x0 x1 _).mono ?_
      rintro e w1 ⟨rfl, rfl⟩
      go_wp2_with fail
      refine (awake01_any _).mono ?_
      rintro e w2 ⟨rfl, hbB⟩
      have hbC := hbA.trans (hbB.mono hbA.size)
      clear hbA hbB
      go_wp2_with fail
      refine (refRoot_any a0 a1 x0 x1 _).mono ?_
      rintro e w1 ⟨rfl, rfl⟩
      go_wp2
      go_returns
      exact ⟨rfl, hbC⟩
    · have hk2 : 1 ≤ a1 := by omega
      have hk3 : a1 ≤ 64 := by omega
      obtain ⟨s1, s2, _⟩ := HR.out (by omega) (by omega) (by omega)
      have f1 : fitsB (rootN a0.toNat a1.toNat) a1.toNat a0.toNat = true := by simp [fitsB, s1]
      have f2 : fitsB (rootN a0.toNat a1.toNat + 1) a1.toNat a0.toNat = false := by simp [fitsB]; omega
      clear s1 s2 HR
      have hroot := root_any a0 a1 x0 x1
      have href := refRoot_any a0 a1 x0 x1
      generalize rootN a0.toNat a1.toNat = r at *
      have HA := Lib.hid hroot
      have HB := Lib.hid href
      have HF1 := Lib.hid f1
      have HF2 := Lib.hid f2
      clear hroot href f1 f2 hr0
      have HN := Lib.hid (show ((r : Int) + 1).toNat = r + 1 by omega)
      go_enter Try.func7, Try.ntmps7
      go_wp2_with fail
      refine (HA.out _).mono ?_
      rintro e w1 ⟨rfl, rfl⟩
      go_wp2_with fail
      refine (awake01_any _).mono ?_
      rintro e w1 ⟨rfl, hbA⟩
      go_wp2_with fail
      refine (HB.out _).mono ?_
      rintro e w1 ⟨rfl, rfl⟩
      go_wp2_with fail
      refine (refPower_any (r : Int) a1 a0 (by omega) (by omega) hk2 hk3 x0 x1 _).mono ?_
      rintro e w1 ⟨rfl, rfl⟩
      rw [Int.toNat_natCast, HF1.out]
      go_wp2_with fail
      · go_returns
        exact ⟨rfl, hbA⟩
      · have hm : ((r : Int) == 18446744073709551615) = false := by assumption
        have hm2 : (r : Int) + 1 ≤ 18446744073709551615 := by have : (r : Int) ≠ 18446744073709551615 := by simpa using hm
                                                              omega
        rw [show IntKind.u64.wrap ((r : Int) + 1) = (r : Int) + 1 from IntWalk.u64_in _ (by omega)]
        refine (refPower_any ((r : Int) + 1) a1 a0 (by omega) hm2 hk2 hk3 x0 x1 _).mono ?_
        rintro e w2 ⟨rfl, rfl⟩
        rw [HN.out, HF2.out]
        go_wp2
        go_returns
        exact ⟨rfl, hbA⟩

/-! ### WordRoots: the step from the walk to the statement -/
namespace wordRoots
theorem own : ownKnob Try.prog.godebug = none := by kernel_rfl
set_option maxRecDepth 100000 in
theorem lifted (os : Os) (started : os.Started) (H : Type) (enc : TypeId × Value → H) :
    ReturnsInHanded {} Try.checked os 7 .any (Rows.wordRootsSpec.pre6 enc Try.prog Try.f7 Rows.wordRootsRow.domain false) (Rows.wordRootsSpec.post enc Try.prog Try.f7 false true false false) := by
  refine returnsInHanded_of_change (C := Try.checked) own started (by kernel_rfl) Try.func7
    (ChangeSpec.witness6 (enc := enc) (C := Try.checked) false ⟨#[], #[.int .u64 0, .int .i64 0], []⟩ 8 (by kernel_rfl) (by kernel_rfl) (by kernel_rfl) (by kernel_rfl)) ?_
  intro W base args ds gs before hval0 hW hcnd _
  have hval : ∀ (j : Nat) t v, Try.f7.params[j]? = some t → args[j]? = some v → Value.okWide Try.prog W .any base t v := hval0
  have hW' := hW
  obtain ⟨p, q, hA0, hV, rfl, hfz, hnd⟩ := hW
  have hA : DataW.TrodAll enc Try.prog W 0 (fun _ => true) true Try.f7.params.toList args.toList ds p := hA0
  rw [Try.params7] at hA hval
  obtain ⟨v0, vs0, d0, ds0, p0, q0, hargs, rfl, rfl, h0, r0⟩ := trodAll_cons hA
  obtain ⟨v1, vs1, d1, ds1, p1, q1, rfl, rfl, rfl, h1, r1⟩ := trodAll_cons r0
  obtain ⟨rfl, rfl, rfl⟩ := trodAll_nil r1
  obtain rfl : args = #[v0, v1] := by cases args; simp_all
  obtain ⟨rfl, rfl⟩ := trodVars_none hV
  obtain ⟨a0, rfl, rfl, rfl, w0⟩ := open_int Try.underlying22 (hval 0 22 v0 rfl rfl) h0
  obtain ⟨a1, rfl, rfl, rfl, w1⟩ := open_int Try.underlying3 (hval 1 3 v1 rfl rfl) h1
  clear hA0 hval0
  simp only [List.append_nil] at hW'
  refine (walkWordRoots a0 a1 (bounds_u64 w0) (bounds_i64 w1) W).mono fun e W' ⟨he, bel⟩ => ?_
  subst he
  exact ⟨_, rfl, _, _, _, [], [], [], hW', trodAll_mk1 (shut_bool Try.underlying4 _), (trodAll_cons_mk (shut_int Try.underlying22 w0) (trodAll_cons_mk (shut_int Try.underlying3 w1) trodAll_mk0)), rfl, bel.frame _, fun h => by cases h⟩
theorem over : Rows.wordRootsRow.holds Try.pinned (OpenSpec.ofChange Rows.wordRootsSpec) :=
  OpenClaim.holds_of_wide 7 Try.f7 rfl rfl rfl rfl rfl rfl rfl ⟨rfl, rfl, rfl, rfl, rfl⟩ rfl rfl rfl rfl rfl (by kernel_rfl) Try.func7 (by kernel_rfl)
    (of_decide_eq_true (by kernel_rfl)) (by unfold Func.isWrapper; first | (rw [if_pos (by decide +kernel)]; kernel_rfl) | (rw [if_neg (by decide +kernel)]; exact ⟨rfl, rfl⟩))
    (fun os started H enc _ => lifted os started H enc)
/-- THE STATEMENT. -/
theorem proved : Rows.WordRootsSaid := over
end wordRoots
end Go.Proofs.Ytlolkelkbanhjaa
