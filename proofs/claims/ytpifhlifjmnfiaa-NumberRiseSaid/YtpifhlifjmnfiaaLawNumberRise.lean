/- Of every two values from 0 on: the greater one's content has no fewer bytes, and of like many it is the greater text. No condition but the form of the row. -/
import Derived.Test.YtpifhlifjmnfiaaNumAwake
import Derived.Test.YtpifhlifjmnfiaaRefNumb2
import Derived.Test.YtpifhlifjmnfiaaRows
import Derived.WalkKit
import Derived.ProofKit
import Derived.OpenShut
import Derived.ShutString
import Derived.ChangeOld
import Derived.Below
namespace Go.Proofs.Ytpifhlifjmnfiaa
open Go.ChangeShapes Go.WideShapes Go.ChangeAt Go.RowKit
open Go.ChangeMaps (open_string shut_string)
set_option linter.unusedVariables false
set_option maxRecDepth 100000 in
set_option maxHeartbeats 4000000 in
theorem walkNumberRise (a0 : Int) (a1 : Int) (b0 : -9223372036854775808 ≤ a0 ∧ a0 ≤ 9223372036854775807) (b1 : -9223372036854775808 ≤ a1 ∧ a1 ≤ 9223372036854775807) (w : World) :
    Calls Try.prog 8 #[.int .i64 a0, .int .i64 a1] w fun e w' => e = .returned (.bool true) ∧ Below w.heap.size w w' := by
  have H0 := Lib.hid (numPut_any a0 b0)
  have H1 := Lib.hid (numPut_any a1 b1)
  by_cases hin : 0 ≤ a0 ∧ a0 ≤ a1
  · obtain ⟨h0, h1⟩ := hin
    have hsz : (strOfNums (hiI a0)).size ≤ (strOfNums (hiI a1)).size := by rw [put_size, put_size]; exact loI_mono _ a0 a1 (Nat.le_refl _) h0 h1
    have hle := num_rise h0 h1
    have hs8 : (strOfNums (hiI a0)).size ≤ 8 := by rw [put_size]; exact loI_le8 b0
    have ht8 : (strOfNums (hiI a1)).size ≤ 8 := by rw [put_size]; exact loI_le8 b1
    have heq : (strOfNums (hiI a0) = strOfNums (hiI a1)) ↔ a0 = a1 := by
      constructor
      · intro h
        have := str_inj (hiI_isB a0) (hiI_isB a1) h
        rw [← sval_hiI _ a0 (Nat.le_refl _), ← sval_hiI _ a1 (Nat.le_refl _), this]
      · intro h; rw [h]
    generalize strOfNums (hiI a0) = s at *
    generalize strOfNums (hiI a1) = t at *
    have hb1 : ((a0 == a1) == (s.toList == t.toList)) = true := by
      by_cases h : a0 = a1
      · have h2 := heq.2 h
        rw [h2, h]; simp
      · have h2 : ¬ s.toList = t.toList := fun e => h (heq.1 (ByteArray.ext (Array.toList_inj.1 (by rwa [Lib.toList_data, Lib.toList_data] at e))))
        rw [beq_eq_false_iff_ne.2 h, beq_eq_false_iff_ne.2 h2]; rfl
    have h1' : ¬ a1 < a0 := by omega
    have h0' : ¬ a0 < 0 := by omega
    by_cases hs : s.size = t.size
    · have hle2 := hle hs
      have hsi : (s.size : Int) = (t.size : Int) := by omega
      clear hle hs heq
      go_enter Try.func8, Try.ntmps8
      go_wp2_with fail
      refine (awake10_any _).mono ?_
      rintro e w1 ⟨rfl, hB1⟩
      go_wp2_with fail
      refine (H0.out _).mono ?_
      rintro e w2 ⟨rfl, hb⟩
      have hB2 := hB1.trans (hb.mono hB1.size)
      clear hb hB1
      go_wp2_with fail
      refine (H1.out _).mono ?_
      rintro e w3 ⟨rfl, hb⟩
      have hB3 := hB2.trans (hb.mono hB2.size)
      clear hb hB2
      go_wp2
      go_returns
      exact ⟨rfl, hB3⟩
    · have hlt : (s.size : Int) < (t.size : Int) := by omega
      clear hle hs heq
      go_enter Try.func8, Try.ntmps8
      go_wp2_with fail
      refine (awake10_any _).mono ?_
      rintro e w1 ⟨rfl, hB1⟩
      go_wp2_with fail
      refine (H0.out _).mono ?_
      rintro e w2 ⟨rfl, hb⟩
      have hB2 := hB1.trans (hb.mono hB1.size)
      clear hb hB1
      go_wp2_with fail
      refine (H1.out _).mono ?_
      rintro e w3 ⟨rfl, hb⟩
      have hB3 := hB2.trans (hb.mono hB2.size)
      clear hb hB2
      go_wp2
      go_returns
      exact ⟨rfl, hB3⟩
  · have hw : a0 < 0 ∨ (0 ≤ a0 ∧ a1 < a0) := by omega
    clear hin H0 H1
    rcases hw with h | ⟨h, h'⟩
    all_goals
      go_enter Try.func8, Try.ntmps8
      go_wp2_with fail
      refine (awake10_any _).mono ?_
      rintro e w1 ⟨rfl, hB1⟩
      go_wp2_with fail
      refine (awake10_any _).mono ?_
      rintro e w2 ⟨rfl, hb⟩
      have hB2 := hB1.trans (hb.mono hB1.size)
      clear hb hB1
      go_wp2
      go_returns
      exact ⟨rfl, hB2⟩


/-! ### NumberRise: the step from the walk to the statement -/
namespace numberRise
theorem own : ownKnob Try.prog.godebug = none := by kernel_rfl
set_option maxRecDepth 100000 in
theorem lifted (os : Os) (started : os.Started) (H : Type) (enc : TypeId × Value → H) :
    ReturnsInHanded {} Try.checked os 8 .any (Rows.numberRiseSpec.pre6 enc Try.prog Try.f8 Rows.numberRiseRow.domain false) (Rows.numberRiseSpec.post enc Try.prog Try.f8 false true false false) := by
  refine returnsInHanded_of_change (C := Try.checked) own started (by kernel_rfl) Try.func8
    (ChangeSpec.witness6 (enc := enc) (C := Try.checked) false ⟨#[], #[.int .i64 0, .int .i64 0], []⟩ 8 (by kernel_rfl) (by kernel_rfl) (by kernel_rfl) (by kernel_rfl)) ?_
  intro W base args ds gs before hval0 hW hcnd _
  have hval : ∀ (j : Nat) t v, Try.f8.params[j]? = some t → args[j]? = some v → Value.okWide Try.prog W .any base t v := hval0
  have hW' := hW
  obtain ⟨p, q, hA0, hV, rfl, hfz, hnd⟩ := hW
  have hA : DataW.TrodAll enc Try.prog W 0 (fun _ => true) true Try.f8.params.toList args.toList ds p := hA0
  rw [Try.params8] at hA hval
  obtain ⟨v0, vs0, d0, ds0, p0, q0, hargs, rfl, rfl, h0, r0⟩ := trodAll_cons hA
  obtain ⟨v1, vs1, d1, ds1, p1, q1, rfl, rfl, rfl, h1, r1⟩ := trodAll_cons r0
  obtain ⟨rfl, rfl, rfl⟩ := trodAll_nil r1
  obtain rfl : args = #[v0, v1] := by cases args; simp_all
  obtain ⟨rfl, rfl⟩ := trodVars_none hV
  obtain ⟨a0, rfl, rfl, rfl, w0⟩ := open_int Try.underlying2 (hval 0 2 v0 rfl rfl) h0
  obtain ⟨a1, rfl, rfl, rfl, w1⟩ := open_int Try.underlying2 (hval 1 2 v1 rfl rfl) h1
  clear hA0 hval0
  simp only [List.append_nil] at hW'
  refine (walkNumberRise a0 a1 (bounds_i64 w0) (bounds_i64 w1) W).mono fun e W' ⟨he, bel⟩ => ?_
  subst he
  exact ⟨_, rfl, _, _, _, [], [], [], hW', trodAll_mk1 (shut_bool Try.underlying4 _), (trodAll_cons_mk (shut_int Try.underlying2 w0) (trodAll_cons_mk (shut_int Try.underlying2 w1) trodAll_mk0)), rfl, bel.frame _, fun h => by cases h⟩
theorem over : Rows.numberRiseRow.holds Try.pinned (OpenSpec.ofChange Rows.numberRiseSpec) :=
  OpenClaim.holds_of_wide 8 Try.f8 rfl rfl rfl rfl rfl rfl rfl ⟨rfl, rfl, rfl, rfl, rfl⟩ rfl rfl rfl rfl rfl (by kernel_rfl) Try.func8 (by kernel_rfl)
    (of_decide_eq_true (by kernel_rfl)) (by unfold Func.isWrapper; first | (rw [if_pos (by decide +kernel)]; kernel_rfl) | (rw [if_neg (by decide +kernel)]; exact ⟨rfl, rfl⟩))
    (fun os started H enc _ => lifted os started H enc)
/-- THE STATEMENT. -/
theorem proved : Rows.NumberRiseSaid := over
end numberRise
end Go.Proofs.Ytpifhlifjmnfiaa
