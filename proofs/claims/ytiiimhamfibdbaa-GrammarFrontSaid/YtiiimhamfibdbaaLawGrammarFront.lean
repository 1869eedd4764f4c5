/- Of every text, number and depth (of texts of more than 500 bytes, and numbers outside, the law asks only for the fixed answers): what is wrong with a byte of a text's beginning is told of that, and of the text. No condition but the form of the row. -/
import Derived.Test.YtiiimhamfibdbaaM7
import Derived.Test.YtiiimhamfibdbaaRows
import Derived.WalkKit
import Derived.ProofKit
import Derived.OpenShut
import Derived.ShutString
import Derived.ChangeOld
import Derived.Below
namespace Go.Proofs.Ytiiimhamfibdbaa
open Go.ChangeShapes Go.WideShapes Go.ChangeAt Go.RowKit
open Go.ChangeMaps (open_string shut_string)
set_option linter.unusedVariables false
open Go.PlainAid in
set_option maxRecDepth 100000 in
set_option maxHeartbeats 16000000 in
theorem walkGrammarFront (a0 : ByteArray) (a1 : Int) (a2 : Int) (b0 : a0.size ≤ maxLen) (b1 : -9223372036854775808 ≤ a1 ∧ a1 ≤ 9223372036854775807) (b2 : -9223372036854775808 ≤ a2 ∧ a2 ≤ 9223372036854775807) (w : World) :
  Calls Try.prog 3 #[.string a0, .int .i64 a1, .int .i64 a2] w fun e w' => e = .returned (.bool true) ∧ Below w.heap.size w w' := by
 by_cases hl : (500 : Int) < (a0.size : Int)
 ·go_enter Try.func3, Try.ntmps3
  go_wp2_with fail
  refine (awake20_is _).mono ?_
  rintro e w1 ⟨rfl, hB1⟩
  go_wp2_with fail
  refine (awake20_is _).mono ?_
  rintro e w2 ⟨rfl, hb⟩
  have hB2 := hB1.trans (hb.mono hB1.size)
  clear hb hB1
  go_wp2
  go_returns
  exact ⟨rfl, hB2⟩
 ·by_cases hc : 0 ≤ a1 ∧ a1 ≤ (a0.size : Int)
  ·obtain ⟨g1, g2⟩ := hc
   obtain ⟨k, rfl⟩ := Int.eq_ofNat_of_zero_le g1
   have hk : k ≤ a0.size := by omega
   obtain ⟨e, at_, hw⟩ : ∃ e a, gramW a0 a2 = (e, a) := ⟨_, _, rfl⟩
   obtain ⟨f, on, hw'⟩ : ∃ e a, gramW (a0.extract 0 k) a2 = (e, a) := ⟨_, _, rfl⟩
   have hf := gram_front (b0) hk hw hw'
   have HC := Lib.hid (fun w => gramSpec.whole_is a0 a2 (by omega) b2 hw w)
   have HK := Lib.hid (fun w => gramSpec.whole_is (a0.extract 0 k) a2 (by rw [ByteArray.size_extract]; omega) b2 hw' w)
   clear hw hw' b1 b2
   rcases hf with ⟨h1, rfl, rfl⟩ | ⟨rfl, h2, h3⟩
   ·clear b0 hk
    go_enter Try.func3, Try.ntmps3
    go_wp2_with fail
    refine (awake20_is _).mono ?_
    rintro e w1 ⟨rfl, hB1⟩
    go_wp2_with fail
    refine (HC.out _).mono ?_
    rintro e w2 ⟨rfl, hb⟩
    have hB2 := hB1.trans (hb.mono hB1.size)
    clear hb hB1
    go_wp2_with fail
    refine (HK.out _).mono ?_
    rintro e w3 ⟨rfl, hb⟩
    have hB3 := hB2.trans (hb.mono hB2.size)
    clear hb hB2
    go_wp2
    go_returns
    exact ⟨rfl, hB3⟩
   ·have h4 : ¬ (k : Int) < (k : Int) := by omega
    clear b0
    rcases h2 with rfl | rfl
    all_goals
     by_cases h5 : e = 0
     ·subst h5
      clear h3
      go_enter Try.func3, Try.ntmps3
      go_wp2_with fail
      refine (awake20_is _).mono ?_
      rintro e w1 ⟨rfl, hB1⟩
      go_wp2_with fail
      refine (HC.out _).mono ?_
      rintro e w2 ⟨rfl, hb⟩
      have hB2 := hB1.trans (hb.mono hB1.size)
      clear hb hB1
      go_wp2_with fail
      refine (HK.out _).mono ?_
      rintro e w3 ⟨rfl, hb⟩
      have hB3 := hB2.trans (hb.mono hB2.size)
      clear hb hB2
      go_wp2
      go_returns
      exact ⟨rfl, hB3⟩
     ·have h6 : (e == 0) = false := by simpa using h5
      have h7 : (k : Int) ≤ at_ := by omega
      clear h3 h5
      go_enter Try.func3, Try.ntmps3
      go_wp2_with fail
      refine (awake20_is _).mono ?_
      rintro e w1 ⟨rfl, hB1⟩
      go_wp2_with fail
      refine (HC.out _).mono ?_
      rintro e w2 ⟨rfl, hb⟩
      have hB2 := hB1.trans (hb.mono hB1.size)
      clear hb hB1
      go_wp2_with fail
      refine (HK.out _).mono ?_
      rintro e w3 ⟨rfl, hb⟩
      have hB3 := hB2.trans (hb.mono hB2.size)
      clear hb hB2
      go_wp2
      go_returns
      exact ⟨rfl, hB3⟩
  ·have hcw : a1 < 0 ∨ (¬ a1 < 0 ∧ (a0.size : Int) < a1) := by omega
   clear hc b0 b1 b2
   rcases hcw with g1 | ⟨g1, g2⟩
   all_goals
    go_enter Try.func3, Try.ntmps3
    go_wp2_with fail
    refine (awake20_is _).mono ?_
    rintro e w1 ⟨rfl, hB1⟩
    go_wp2_with fail
    refine (awake20_is _).mono ?_
    rintro e w2 ⟨rfl, hb⟩
    have hB2 := hB1.trans (hb.mono hB1.size)
    clear hb hB1
    go_wp2
    go_returns
    exact ⟨rfl, hB2⟩


/-! ### GrammarFront: the step from the walk to the statement -/
namespace grammarFront
theorem own : ownKnob Try.prog.godebug = none := by kernel_rfl
set_option maxRecDepth 100000 in
theorem lifted (os : Os) (started : os.Started) (H : Type) (enc : TypeId × Value → H) :
  ReturnsInHanded {} Try.checked os 3 .any (Rows.grammarFrontSpec.pre6 enc Try.prog Try.f3 Rows.grammarFrontRow.domain false) (Rows.grammarFrontSpec.post enc Try.prog Try.f3 false true false false) := by
 refine returnsInHanded_of_change (C := Try.checked) own started (by kernel_rfl) Try.func3
  (ChangeSpec.witness6 (enc := enc) (C := Try.checked) false ⟨#[], #[.string ByteArray.empty, .int .i64 0, .int .i64 0], []⟩ 8 (by kernel_rfl) (by kernel_rfl) (by kernel_rfl) (by kernel_rfl)) ?_
 intro W base args ds gs before hval0 hW hcnd _
 have hval : ∀ (j : Nat) t v, Try.f3.params[j]? = some t → args[j]? = some v → Value.okWide Try.prog W .any base t v := hval0
 have hW' := hW
 obtain ⟨p, q, hA0, hV, rfl, hfz, hnd⟩ := hW
 have hA : DataW.TrodAll enc Try.prog W 0 (fun _ => true) true Try.f3.params.toList args.toList ds p := hA0
 rw [Try.params3] at hA hval
 obtain ⟨v0, vs0, d0, ds0, p0, q0, hargs, rfl, rfl, h0, r0⟩ := trodAll_cons hA
 obtain ⟨v1, vs1, d1, ds1, p1, q1, rfl, rfl, rfl, h1, r1⟩ := trodAll_cons r0
 obtain ⟨v2, vs2, d2, ds2, p2, q2, rfl, rfl, rfl, h2, r2⟩ := trodAll_cons r1
 obtain ⟨rfl, rfl, rfl⟩ := trodAll_nil r2
 obtain rfl : args = #[v0, v1, v2] := by cases args; simp_all
 obtain ⟨rfl, rfl⟩ := trodVars_none hV
 obtain ⟨a0, rfl, rfl, rfl, w0⟩ := open_string Try.underlying9 (hval 0 9 v0 rfl rfl) h0
 obtain ⟨a1, rfl, rfl, rfl, w1⟩ := open_int Try.underlying3 (hval 1 3 v1 rfl rfl) h1
 obtain ⟨a2, rfl, rfl, rfl, w2⟩ := open_int Try.underlying3 (hval 2 3 v2 rfl rfl) h2
 clear hA0 hval0
 simp only [List.append_nil] at hW'
 refine (walkGrammarFront a0 a1 a2 w0 (bounds_i64 w1) (bounds_i64 w2) W).mono fun e W' ⟨he, bel⟩ => ?_
 subst he
 exact ⟨_, rfl, _, _, _, [], [], [], hW', trodAll_mk1 (shut_bool Try.underlying4 _), (trodAll_cons_mk (shut_string Try.underlying9 w0) (trodAll_cons_mk (shut_int Try.underlying3 w1) (trodAll_cons_mk (shut_int Try.underlying3 w2) trodAll_mk0))), rfl, bel.frame _, fun h => by cases h⟩
theorem over : Rows.grammarFrontRow.holds Try.pinned (OpenSpec.ofChange Rows.grammarFrontSpec) :=
 OpenClaim.holds_of_wide 3 Try.f3 rfl rfl rfl rfl rfl rfl rfl ⟨rfl, rfl, rfl, rfl, rfl⟩ rfl rfl rfl rfl rfl (by kernel_rfl) Try.func3 (by kernel_rfl)
  (of_decide_eq_true (by kernel_rfl)) (by unfold Func.isWrapper; first | (rw [if_pos (by decide +kernel)]; kernel_rfl) | (rw [if_neg (by decide +kernel)]; exact ⟨rfl, rfl⟩))
  (fun os started H enc _ => lifted os started H enc)
theorem proved : Rows.GrammarFrontSaid := over
end grammarFront
end Go.Proofs.Ytiiimhamfibdbaa
