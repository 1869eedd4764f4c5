/- Of every three elements (of more than 300 bytes the law asks only for the fixed answers): if the first does not come behind the second, and that not behind the third, the first does not come behind the third. No condition but the form of the row. -/
import Derived.Test.YtnlhpldjficecaaOrdAwake
import Derived.Test.YtnlhpldjficecaaRows
import Derived.WalkKit
import Derived.ProofKit
import Derived.OpenShut
import Derived.ShutString
import Derived.ChangeOld
import Derived.Below
namespace Go.Proofs.Ytnlhpldjficecaa
open Go.ChangeShapes Go.WideShapes Go.ChangeAt Go.RowKit
open Go.ChangeMaps (open_string shut_string)
set_option linter.unusedVariables false
open Go.PlainAid in
set_option maxRecDepth 100000 in
set_option maxHeartbeats 8000000 in
theorem walkOrderThird (a0 : ByteArray) (a1 : ByteArray) (a2 : ByteArray) (b0 : a0.size ≤ maxLen) (b1 : a1.size ≤ maxLen) (b2 : a2.size ≤ maxLen) (w : World) :
    Calls Try.prog 7 #[.string a0, .string a1, .string a2] w fun e w' => e = .returned (.bool true) ∧ Below w.heap.size w w' := by
  have hb9 : (a0.size : Int) ≤ 9223372036854775807 := by unfold maxLen at b0; omega
  have hc9 : (a1.size : Int) ≤ 9223372036854775807 := by unfold maxLen at b1; omega
  have hd9 : (a2.size : Int) ≤ 9223372036854775807 := by unfold maxLen at b2; omega
  by_cases hl : (300 : Int) < (a0.size : Int)
  · go_enter Try.func7, Try.ntmps7
    go_wp2_with fail
    refine (awake16_any _).mono ?_
    rintro e w1 ⟨rfl, hB1⟩
    go_wp2_with fail
    refine (awake16_any _).mono ?_
    rintro e w2 ⟨rfl, hb⟩
    have hB2 := hB1.trans (hb.mono hB1.size)
    go_wp2
    go_returns
    exact ⟨rfl, hB2⟩
  · by_cases hm : (300 : Int) < (a1.size : Int)
    · go_enter Try.func7, Try.ntmps7
      go_wp2_with fail
      refine (awake16_any _).mono ?_
      rintro e w1 ⟨rfl, hB1⟩
      go_wp2_with fail
      refine (awake16_any _).mono ?_
      rintro e w2 ⟨rfl, hb⟩
      have hB2 := hB1.trans (hb.mono hB1.size)
      go_wp2
      go_returns
      exact ⟨rfl, hB2⟩
    · by_cases hk : (300 : Int) < (a2.size : Int)
      · go_enter Try.func7, Try.ntmps7
        go_wp2_with fail
        refine (awake16_any _).mono ?_
        rintro e w1 ⟨rfl, hB1⟩
        go_wp2_with fail
        refine (awake16_any _).mono ?_
        rintro e w2 ⟨rfl, hb⟩
        have hB2 := hB1.trans (hb.mono hB1.size)
        go_wp2
        go_returns
        exact ⟨rfl, hB2⟩
      · have h1 : a0.size ≤ 300 := by omega
        have h2 : a1.size ≤ 300 := by omega
        have h3 : a2.size ≤ 300 := by omega
        have HX := Lib.hid (fun W => ordCompare_any a0 a1 (by omega) (by omega) W)
        have HY := Lib.hid (fun W => ordCompare_any a1 a2 (by omega) (by omega) W)
        have HZ := Lib.hid (fun W => ordCompare_any a0 a2 (by omega) (by omega) W)
        have hS := fun W => ordCompare_any a0 a0 (by omega) (by omega) W
        rw [cmpL_self] at hS
        have HS := Lib.hid hS
        clear hS
        have hT1 : cmpL (bl a0) (bl a1) ≤ 0 → cmpL (bl a1) (bl a2) ≤ 0 → cmpL (bl a0) (bl a2) ≤ 0 := fun p q => cmpL_trans p q
        have hT2 : cmpL (bl a0) (bl a1) = 0 → cmpL (bl a1) (bl a2) = cmpL (bl a0) (bl a2) := fun p => cmpL_same _ p
        have hrx := cmpL_range (bl a0) (bl a1)
        have hry := cmpL_range (bl a1) (bl a2)
        have hrz := cmpL_range (bl a0) (bl a2)
        generalize cmpL (bl a0) (bl a1) = X at *
        generalize cmpL (bl a1) (bl a2) = Y at *
        generalize cmpL (bl a0) (bl a2) = Z at *
        rcases hrx with rfl | rfl | rfl
        all_goals rcases hry with rfl | rfl | rfl
        all_goals rcases hrz with rfl | rfl | rfl
        all_goals first
          | (exfalso; omega)
          | (clear hT1 hT2
             go_enter Try.func7, Try.ntmps7
             go_wp2_with fail
             refine (awake16_any _).mono ?_
             rintro e w1 ⟨rfl, hB1⟩
             go_wp2_with fail
             refine (HX.out _).mono ?_
             rintro e w2 ⟨rfl, rfl⟩
             go_wp2_with fail
             refine (HY.out _).mono ?_
             rintro e w3 ⟨rfl, rfl⟩
             go_wp2_with fail
             refine (HZ.out _).mono ?_
             rintro e w4 ⟨rfl, rfl⟩
             go_wp2_with fail
             refine (HS.out _).mono ?_
             rintro e w5 ⟨rfl, rfl⟩
             go_wp2
             go_returns
             exact ⟨rfl, hB1⟩)


/-! ### OrderThird: the step from the walk to the statement -/
namespace orderThird
theorem own : ownKnob Try.prog.godebug = none := by kernel_rfl
set_option maxRecDepth 100000 in
theorem lifted (os : Os) (started : os.Started) (H : Type) (enc : TypeId × Value → H) :
    ReturnsInHanded {} Try.checked os 7 .any (Rows.orderThirdSpec.pre6 enc Try.prog Try.f7 Rows.orderThirdRow.domain false) (Rows.orderThirdSpec.post enc Try.prog Try.f7 false true false false) := by
  refine returnsInHanded_of_change (C := Try.checked) own started (by kernel_rfl) Try.func7
    (ChangeSpec.witness6 (enc := enc) (C := Try.checked) false ⟨#[], #[.string ByteArray.empty, .string ByteArray.empty, .string ByteArray.empty], []⟩ 8 (by kernel_rfl) (by kernel_rfl) (by kernel_rfl) (by kernel_rfl)) ?_
  intro W base args ds gs before hval0 hW hcnd _
  have hval : ∀ (j : Nat) t v, Try.f7.params[j]? = some t → args[j]? = some v → Value.okWide Try.prog W .any base t v := hval0
  have hW' := hW
  obtain ⟨p, q, hA0, hV, rfl, hfz, hnd⟩ := hW
  have hA : DataW.TrodAll enc Try.prog W 0 (fun _ => true) true Try.f7.params.toList args.toList ds p := hA0
  rw [Try.params7] at hA hval
  obtain ⟨v0, vs0, d0, ds0, p0, q0, hargs, rfl, rfl, h0, r0⟩ := trodAll_cons hA
  obtain ⟨v1, vs1, d1, ds1, p1, q1, rfl, rfl, rfl, h1, r1⟩ := trodAll_cons r0
  obtain ⟨v2, vs2, d2, ds2, p2, q2, rfl, rfl, rfl, h2, r2⟩ := trodAll_cons r1
  obtain ⟨rfl, rfl, rfl⟩ := trodAll_nil r2
  obtain rfl : args = #[v0, v1, v2] := by cases args; simp_all
  obtain ⟨rfl, rfl⟩ := trodVars_none hV
  obtain ⟨a0, rfl, rfl, rfl, w0⟩ := open_string Try.underlying9 (hval 0 9 v0 rfl rfl) h0
  obtain ⟨a1, rfl, rfl, rfl, w1⟩ := open_string Try.underlying9 (hval 1 9 v1 rfl rfl) h1
  obtain ⟨a2, rfl, rfl, rfl, w2⟩ := open_string Try.underlying9 (hval 2 9 v2 rfl rfl) h2
  clear hA0 hval0
  simp only [List.append_nil] at hW'
  refine (walkOrderThird a0 a1 a2 w0 w1 w2 W).mono fun e W' ⟨he, bel⟩ => ?_
  subst he
  exact ⟨_, rfl, _, _, _, [], [], [], hW', trodAll_mk1 (shut_bool Try.underlying4 _), (trodAll_cons_mk (shut_string Try.underlying9 w0) (trodAll_cons_mk (shut_string Try.underlying9 w1) (trodAll_cons_mk (shut_string Try.underlying9 w2) trodAll_mk0))), rfl, bel.frame _, fun h => by cases h⟩
theorem over : Rows.orderThirdRow.holds Try.pinned (OpenSpec.ofChange Rows.orderThirdSpec) :=
  OpenClaim.holds_of_wide 7 Try.f7 rfl rfl rfl rfl rfl rfl rfl ⟨rfl, rfl, rfl, rfl, rfl⟩ rfl rfl rfl rfl rfl (by kernel_rfl) Try.func7 (by kernel_rfl)
    (of_decide_eq_true (by kernel_rfl)) (by unfold Func.isWrapper; first | (rw [if_pos (by decide +kernel)]; kernel_rfl) | (rw [if_neg (by decide +kernel)]; exact ⟨rfl, rfl⟩))
    (fun os started H enc _ => lifted os started H enc)
/-- THE STATEMENT. -/
theorem proved : Rows.OrderThirdSaid := over
end orderThird
end Go.Proofs.Ytnlhpldjficecaa
