/- Of every text of at most 300 bytes (of others the law asks only for the fixed answers) and every depth: it brings about just the events that the reference says, up to the first byte with which something is wrong. No condition but the form of the row. -/
import Derived.Test.YtagigdefghnnhaaEvAwake
import Derived.Test.YtagigdefghnnhaaEvLaw
import Derived.Test.YtagigdefghnnhaaRows
import Derived.WalkKit
import Derived.ProofKit
import Derived.OpenShut
import Derived.ShutString
import Derived.ChangeOld
import Derived.Below
namespace Go.Proofs.Ytagigdefghnnhaa
open Go.ChangeShapes Go.WideShapes Go.ChangeAt Go.RowKit
open Go.ChangeMaps (open_string shut_string)
set_option linter.unusedVariables false
set_option maxRecDepth 100000 in
set_option maxHeartbeats 4000000 in
theorem walkEventWhole (a0 : ByteArray) (a1 : Int) (b0 : a0.size ≤ maxLen) (b1 : -9223372036854775808 ≤ a1 ∧ a1 ≤ 9223372036854775807) (w : World) :
    Calls Try.prog 3 #[.string a0, .int .i64 a1] w fun e w' => e = .returned (.bool true) ∧ Below w.heap.size w w' := by
  have HG := Lib.hid (great_any a0 b0)
  by_cases hl : (300 : Int) < (a0.size : Int)
  · rw [show decide ((300 : Int) < (a0.size : Int)) = true by simpa using hl] at HG
    clear hl b0 b1
    go_enter Try.func3, Try.ntmps3
    go_wp2_with fail
    refine (awake09_any _).mono ?_
    rintro e w1 ⟨rfl, hB1⟩
    go_wp2_with fail
    refine (HG.out _).mono ?_
    rintro e w2 ⟨rfl, rfl⟩
    go_wp2_with fail
    refine (awake09_any _).mono ?_
    rintro e w3 ⟨rfl, hb⟩
    have hB2 := hB1.trans (hb.mono hB1.size)
    go_wp2
    go_returns
    exact ⟨rfl, hB2⟩
  · rw [show decide ((300 : Int) < (a0.size : Int)) = false by simpa using hl] at HG
    have hs : a0.size ≤ 300 := by omega
    have HLN := Lib.hid (evW_len a0 a1)
    obtain ⟨L, e, p, hw⟩ : ∃ L e p, evW a0 a1 = (L, e, p) := ⟨_, _, _, rfl⟩
    rw [hw] at HLN
    have HC := Lib.hid (fun w => evSpec.whole_is a0 a1 (by omega) b1 hw w)
    have HR := Lib.hid (fun w => refEvWhole_is a0 a1 (by omega) b1 hw w)
    clear hl b0 b1 hw
    go_enter Try.func3, Try.ntmps3
    go_wp2_with fail
    refine (awake09_any _).mono ?_
    rintro e w1 ⟨rfl, hB1⟩
    go_wp2_with fail
    refine (HG.out _).mono ?_
    rintro e' w2 ⟨rfl, rfl⟩
    go_wp2_with fail
    refine (HC.out _).mono ?_
    rintro r w3 ⟨o1, n1, c1, rfl, he1, hn1, hb⟩
    have hB2 := hB1.trans (hb.mono hB1.size)
    have HE1 := Lib.hid he1
    clear hb he1 hn1 hB1
    go_wp2_with fail
    refine (HR.out _).mono ?_
    rintro r w4 ⟨o2, n2, c2, rfl, he2, hn2, hb⟩
    have hB3 := hB2.trans (hb.mono hB2.size)
    have HE2 := Lib.hid (HE1.out.below hb)
    have HE3 := Lib.hid he2
    have hal : Below w4.heap.size w4 (w4.alloc (.cells (tdC (.slice o2 n2 c2) e (p : Int)).toArray 29)) := (Below.refl _ _).alloc (Nat.le_refl _) _
    have HE4 := Lib.hid (HE2.out.below hal)
    have HE5 := Lib.hid (HE3.out.below hal)
    have hB4 := hB3.trans (hal.mono hB3.size)
    obtain ⟨q0, q1, q2, _, _, _⟩ := told_facts (Row.new w4 29 (tdC (.slice o2 n2 c2) e (p : Int)))
    have hX : w4.alloc (.cells (tdC (.slice o2 n2 c2) e (p : Int)).toArray 29) = w4.alloc (.cells #[.slice o2 n2 c2, .int .i64 e, .int .i64 (p : Int)] 29) := rfl
    have HX := Lib.hid hX
    clear hb he2 hn2 hB2 hB3 hal HE1 HE2 HE3 hX
    go_wp2_with fail
    rw [← HX.out]
    clear HX
    generalize w4.alloc (.cells (tdC (.slice o2 n2 c2) e (p : Int)).toArray 29) = X at *
    generalize w4.heap.size = k4 at *

    refine (refSame_any HE4.out HE5.out (by have := HLN.out; omega)).mono ?_
    rintro r w5 ⟨rfl, n5, rfl⟩
    go_wp2
    go_returns
    exact ⟨rfl, hB4.trans (draws_below' _ n5 hB4.size)⟩


/-! ### EventWhole: the step from the walk to the statement -/
namespace eventWhole
theorem own : ownKnob Try.prog.godebug = none := by kernel_rfl
set_option maxRecDepth 100000 in
theorem lifted (os : Os) (started : os.Started) (H : Type) (enc : TypeId × Value → H) :
    ReturnsInHanded {} Try.checked os 3 .any (Rows.eventWholeSpec.pre6 enc Try.prog Try.f3 Rows.eventWholeRow.domain false) (Rows.eventWholeSpec.post enc Try.prog Try.f3 false true false false) := by
  refine returnsInHanded_of_change (C := Try.checked) own started (by kernel_rfl) Try.func3
    (ChangeSpec.witness6 (enc := enc) (C := Try.checked) false ⟨#[], #[.string ByteArray.empty, .int .i64 0], []⟩ 8 (by kernel_rfl) (by kernel_rfl) (by kernel_rfl) (by kernel_rfl)) ?_
  intro W base args ds gs before hval0 hW hcnd _
  have hval : ∀ (j : Nat) t v, Try.f3.params[j]? = some t → args[j]? = some v → Value.okWide Try.prog W .any base t v := hval0
  have hW' := hW
  obtain ⟨p, q, hA0, hV, rfl, hfz, hnd⟩ := hW
  have hA : DataW.TrodAll enc Try.prog W 0 (fun _ => true) true Try.f3.params.toList args.toList ds p := hA0
  rw [Try.params3] at hA hval
  obtain ⟨v0, vs0, d0, ds0, p0, q0, hargs, rfl, rfl, h0, r0⟩ := trodAll_cons hA
  obtain ⟨v1, vs1, d1, ds1, p1, q1, rfl, rfl, rfl, h1, r1⟩ := trodAll_cons r0
  obtain ⟨rfl, rfl, rfl⟩ := trodAll_nil r1
  obtain rfl : args = #[v0, v1] := by cases args; simp_all
  obtain ⟨rfl, rfl⟩ := trodVars_none hV
  obtain ⟨a0, rfl, rfl, rfl, w0⟩ := open_string Try.underlying9 (hval 0 9 v0 rfl rfl) h0
  obtain ⟨a1, rfl, rfl, rfl, w1⟩ := open_int Try.underlying3 (hval 1 3 v1 rfl rfl) h1
  clear hA0 hval0
  simp only [List.append_nil] at hW'
  refine (walkEventWhole a0 a1 w0 (bounds_i64 w1) W).mono fun e W' ⟨he, bel⟩ => ?_
  subst he
  exact ⟨_, rfl, _, _, _, [], [], [], hW', trodAll_mk1 (shut_bool Try.underlying4 _), (trodAll_cons_mk (shut_string Try.underlying9 w0) (trodAll_cons_mk (shut_int Try.underlying3 w1) trodAll_mk0)), rfl, bel.frame _, fun h => by cases h⟩
theorem over : Rows.eventWholeRow.holds Try.pinned (OpenSpec.ofChange Rows.eventWholeSpec) :=
  OpenClaim.holds_of_wide 3 Try.f3 rfl rfl rfl rfl rfl rfl rfl ⟨rfl, rfl, rfl, rfl, rfl⟩ rfl rfl rfl rfl rfl (by kernel_rfl) Try.func3 (by kernel_rfl)
    (of_decide_eq_true (by kernel_rfl)) (by unfold Func.isWrapper; first | (rw [if_pos (by decide +kernel)]; kernel_rfl) | (rw [if_neg (by decide +kernel)]; exact ⟨rfl, rfl⟩))
    (fun os started H enc _ => lifted os started H enc)
/-- THE STATEMENT. -/
theorem proved : Rows.EventWholeSaid := over
end eventWhole
end Go.Proofs.Ytagigdefghnnhaa
