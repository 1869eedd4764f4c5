/- Of every number: as many elements can be open as it says (0 to 64), and no more; all that have no bytes left can be left, one after the other. No condition but the form of the row. -/
import Derived.Test.YtlfmcgkkfbhifaaStackAwake
import Derived.Test.YtlfmcgkkfbhifaaStackLaw
import Derived.Test.YtlfmcgkkfbhifaaRows
import Derived.WalkKit
import Derived.ProofKit
import Derived.OpenShut
import Derived.ShutString
import Derived.ChangeOld
import Derived.Below
namespace Go.Proofs.Ytlfmcgkkfbhifaa
open Go.ChangeShapes Go.WideShapes Go.ChangeAt Go.RowKit
open Go.ChangeMaps (open_string shut_string)
set_option linter.unusedVariables false
set_option maxRecDepth 100000 in
set_option maxHeartbeats 4000000 in
theorem walkStackDepth (a0 : Int) (b0 : -9223372036854775808 ≤ a0 ∧ a0 ≤ 9223372036854775807) (w : World) :
    Calls Try.prog 5 #[.int .i64 a0] w fun e w' => e = .returned (.bool true) ∧ Below w.heap.size w w' := by
  obtain ⟨m, hm, hm2, hnew⟩ := new_most a0
  have HE := Lib.hid (fun i (h : i < m) => zeros_enter h)
  have HF := Lib.hid (zeros_full m)
  have HL := Lib.hid (zeros_leave m)
  have HD := Lib.hid (zeros_depth m)
  have hw : (a0 < 0 ∧ (0 : Int) = m) ∨ (a0 = 0 ∧ (0 : Int) = m) ∨ (0 < a0 ∧ a0 < 64 ∧ a0 = m) ∨ (a0 = 64 ∧ (64 : Int) = m) ∨ (64 < a0 ∧ (64 : Int) = m) := by omega
  clear hm
  rcases hw with ⟨g1, hv⟩ | ⟨rfl, hv⟩ | ⟨g1, g2, hv⟩ | ⟨rfl, hv⟩ | ⟨g1, hv⟩
  · have HV := Lib.hid hv
    clear hv
    go_enter Try.func5, Try.ntmps5
    go_wp2_with fail
    refine (stSpec.new_on _ b0 (Below.refl w.heap.size w)).mono ?_
    rintro e w1 ⟨k, F, rfl, h1, _, _⟩
    rw [hnew] at h1
    have H1 := Lib.hid h1
    clear h1 hnew
    go_wp2_with fail
    refine (awake08_any _).mono ?_
    rintro e w2 ⟨rfl, hb⟩
    have H2 := Lib.hid (H1.out.step stSpec hb)
    clear hb H1
    go_wp2
    go_loopw [18] (fun iv wr => ∃ i : Nat, iv = .int .i64 (i : Int) ∧ i ≤ m ∧ Hid (StOn StAt w wr k F ⟨m, List.replicate i 0⟩)) (fun iv _ => 64 - (intOf iv).toNat)
    case atStart => exact ⟨0, rfl, by omega, H2⟩
    case round =>
      obtain ⟨i, rfl, hi, HS⟩ := hrel
      clear H2
      by_cases hlt : (i : Int) < 0
      · exact absurd hlt (by omega)
      · have him : i = m := by have := HV.out; omega
        subst him
        go_wp2_with fail
        refine (stSpec.enter_on 0 HS.out (by unfold InI; decide) HF.out.1 HF.out.2).mono ?_
        rintro e w3 ⟨rfl, h3, _⟩
        have H3 := Lib.hid h3
        clear h3 HS
        go_wp2
        go_loopw [36] (fun jv wr => ∃ j : Nat, jv = .int .i64 (j : Int) ∧ j ≤ i ∧ Hid (StOn StAt w wr k F ⟨i, List.replicate (i - j) 0⟩)) (fun jv _ => 64 - (intOf jv).toNat)
        case atStart => exact ⟨0, rfl, by omega, H3⟩
        case round =>
          obtain ⟨j, rfl, hj, HS⟩ := hrel
          clear H3
          by_cases hlt2 : (j : Int) < 0
          · exact absurd hlt2 (by omega)
          · have hjm : j = i := by have := HV.out; omega
            have HS0 : Hid (StOn StAt w wr k F ⟨i, []⟩) := Lib.hid (by have := HS.out; rw [hjm, Nat.sub_self] at this; exact this)
            clear HS
            go_wp2_with fail
            refine (stSpec.leave_on HS0.out (none_leave i).1 (none_leave i).2).mono ?_
            rintro e w4 ⟨rfl, h4, _⟩
            go_wp2_with fail
            refine (stSpec.depth_on h4 (d := 0) rfl).mono ?_
            rintro e w5 ⟨rfl, h5, _⟩
            go_wp2_with fail
            refine (stSpec.left_on h5 (d := -1) rfl).mono ?_
            rintro e w6 ⟨rfl, h6, _⟩
            go_wp2_with fail
            refine (stSpec.take_on h6 (er := 0) rfl rfl).mono ?_
            rintro e w7 ⟨rfl, h7, _⟩
            clear h4 h5 h6 HS0
            go_wp2
            go_ret
            exact ⟨rfl, h7.bel⟩
  · have HV := Lib.hid hv
    clear hv
    go_enter Try.func5, Try.ntmps5
    go_wp2_with fail
    refine (stSpec.new_on _ b0 (Below.refl w.heap.size w)).mono ?_
    rintro e w1 ⟨k, F, rfl, h1, _, _⟩
    rw [hnew] at h1
    have H1 := Lib.hid h1
    clear h1 hnew
    go_wp2_with fail
    refine (awake08_any _).mono ?_
    rintro e w2 ⟨rfl, hb⟩
    have H2 := Lib.hid (H1.out.step stSpec hb)
    clear hb H1
    go_wp2
    go_loopw [18] (fun iv wr => ∃ i : Nat, iv = .int .i64 (i : Int) ∧ i ≤ m ∧ Hid (StOn StAt w wr k F ⟨m, List.replicate i 0⟩)) (fun iv _ => 64 - (intOf iv).toNat)
    case atStart => exact ⟨0, rfl, by omega, H2⟩
    case round =>
      obtain ⟨i, rfl, hi, HS⟩ := hrel
      clear H2
      by_cases hlt : (i : Int) < 0
      · exact absurd hlt (by omega)
      · have him : i = m := by have := HV.out; omega
        subst him
        go_wp2_with fail
        refine (stSpec.enter_on 0 HS.out (by unfold InI; decide) HF.out.1 HF.out.2).mono ?_
        rintro e w3 ⟨rfl, h3, _⟩
        have H3 := Lib.hid h3
        clear h3 HS
        go_wp2
        go_loopw [36] (fun jv wr => ∃ j : Nat, jv = .int .i64 (j : Int) ∧ j ≤ i ∧ Hid (StOn StAt w wr k F ⟨i, List.replicate (i - j) 0⟩)) (fun jv _ => 64 - (intOf jv).toNat)
        case atStart => exact ⟨0, rfl, by omega, H3⟩
        case round =>
          obtain ⟨j, rfl, hj, HS⟩ := hrel
          clear H3
          by_cases hlt2 : (j : Int) < 0
          · exact absurd hlt2 (by omega)
          · have hjm : j = i := by have := HV.out; omega
            have HS0 : Hid (StOn StAt w wr k F ⟨i, []⟩) := Lib.hid (by have := HS.out; rw [hjm, Nat.sub_self] at this; exact this)
            clear HS
            go_wp2_with fail
            refine (stSpec.leave_on HS0.out (none_leave i).1 (none_leave i).2).mono ?_
            rintro e w4 ⟨rfl, h4, _⟩
            go_wp2_with fail
            refine (stSpec.depth_on h4 (d := 0) rfl).mono ?_
            rintro e w5 ⟨rfl, h5, _⟩
            go_wp2_with fail
            refine (stSpec.left_on h5 (d := -1) rfl).mono ?_
            rintro e w6 ⟨rfl, h6, _⟩
            go_wp2_with fail
            refine (stSpec.take_on h6 (er := 0) rfl rfl).mono ?_
            rintro e w7 ⟨rfl, h7, _⟩
            clear h4 h5 h6 HS0
            go_wp2
            go_ret
            exact ⟨rfl, h7.bel⟩
  · have HV := Lib.hid hv
    clear hv
    go_enter Try.func5, Try.ntmps5
    go_wp2_with fail
    refine (stSpec.new_on _ b0 (Below.refl w.heap.size w)).mono ?_
    rintro e w1 ⟨k, F, rfl, h1, _, _⟩
    rw [hnew] at h1
    have H1 := Lib.hid h1
    clear h1 hnew
    go_wp2_with fail
    refine (awake08_any _).mono ?_
    rintro e w2 ⟨rfl, hb⟩
    have H2 := Lib.hid (H1.out.step stSpec hb)
    clear hb H1
    go_wp2
    go_loopw [18] (fun iv wr => ∃ i : Nat, iv = .int .i64 (i : Int) ∧ i ≤ m ∧ Hid (StOn StAt w wr k F ⟨m, List.replicate i 0⟩)) (fun iv _ => 64 - (intOf iv).toNat)
    case atStart => exact ⟨0, rfl, by omega, H2⟩
    case round =>
      obtain ⟨i, rfl, hi, HS⟩ := hrel
      clear H2
      by_cases hlt : (i : Int) < a0
      · have him : i < m := by have := HV.out; omega
        have hz := HE.out i him
        go_wp2_with fail
        refine (stSpec.enter_on 0 HS.out (by unfold InI; decide) hz.1 hz.2).mono ?_
        rintro e w3 ⟨rfl, h3, _⟩
        have H3 := Lib.hid h3
        clear h3 HS hz
        go_wp2_with fail
        refine (stSpec.depth_on H3.out (HD.out (i + 1))).mono ?_
        rintro e w4 ⟨rfl, h4, _⟩
        have H4 := Lib.hid h4
        clear h4 H3
        go_wp2
        go_roundw
        case rel => exact ⟨i + 1, by simp, by omega, H4⟩
        case measure => simp [intOf]; omega
      · have him : i = m := by have := HV.out; omega
        subst him
        go_wp2_with fail
        refine (stSpec.enter_on 0 HS.out (by unfold InI; decide) HF.out.1 HF.out.2).mono ?_
        rintro e w3 ⟨rfl, h3, _⟩
        have H3 := Lib.hid h3
        clear h3 HS
        go_wp2
        go_loopw [36] (fun jv wr => ∃ j : Nat, jv = .int .i64 (j : Int) ∧ j ≤ i ∧ Hid (StOn StAt w wr k F ⟨i, List.replicate (i - j) 0⟩)) (fun jv _ => 64 - (intOf jv).toNat)
        case atStart => exact ⟨0, rfl, by omega, H3⟩
        case round =>
          obtain ⟨j, rfl, hj, HS⟩ := hrel
          clear H3
          by_cases hlt2 : (j : Int) < a0
          · have hjm : j < i := by have := HV.out; omega
            have hz := HL.out (i - (j + 1))
            rw [show i - (j + 1) + 1 = i - j by omega] at hz
            go_wp2_with fail
            refine (stSpec.leave_on HS.out hz.1 hz.2).mono ?_
            rintro e w4 ⟨rfl, h4, _⟩
            have H4 := Lib.hid h4
            clear h4 HS hz
            go_wp2
            go_roundw
            case rel => exact ⟨j + 1, by simp, by omega, H4⟩
            case measure => simp [intOf]; omega
          · have hjm : j = i := by have := HV.out; omega
            have HS0 : Hid (StOn StAt w wr k F ⟨i, []⟩) := Lib.hid (by have := HS.out; rw [hjm, Nat.sub_self] at this; exact this)
            clear HS
            go_wp2_with fail
            refine (stSpec.leave_on HS0.out (none_leave i).1 (none_leave i).2).mono ?_
            rintro e w4 ⟨rfl, h4, _⟩
            go_wp2_with fail
            refine (stSpec.depth_on h4 (d := 0) rfl).mono ?_
            rintro e w5 ⟨rfl, h5, _⟩
            go_wp2_with fail
            refine (stSpec.left_on h5 (d := -1) rfl).mono ?_
            rintro e w6 ⟨rfl, h6, _⟩
            go_wp2_with fail
            refine (stSpec.take_on h6 (er := 0) rfl rfl).mono ?_
            rintro e w7 ⟨rfl, h7, _⟩
            clear h4 h5 h6 HS0
            go_wp2
            go_ret
            exact ⟨rfl, h7.bel⟩
  · have HV := Lib.hid hv
    clear hv
    go_enter Try.func5, Try.ntmps5
    go_wp2_with fail
    refine (stSpec.new_on _ b0 (Below.refl w.heap.size w)).mono ?_
    rintro e w1 ⟨k, F, rfl, h1, _, _⟩
    rw [hnew] at h1
    have H1 := Lib.hid h1
    clear h1 hnew
    go_wp2_with fail
    refine (awake08_any _).mono ?_
    rintro e w2 ⟨rfl, hb⟩
    have H2 := Lib.hid (H1.out.step stSpec hb)
    clear hb H1
    go_wp2
    go_loopw [18] (fun iv wr => ∃ i : Nat, iv = .int .i64 (i : Int) ∧ i ≤ m ∧ Hid (StOn StAt w wr k F ⟨m, List.replicate i 0⟩)) (fun iv _ => 64 - (intOf iv).toNat)
    case atStart => exact ⟨0, rfl, by omega, H2⟩
    case round =>
      obtain ⟨i, rfl, hi, HS⟩ := hrel
      clear H2
      by_cases hlt : (i : Int) < 64
      · have him : i < m := by have := HV.out; omega
        have hz := HE.out i him
        go_wp2_with fail
        refine (stSpec.enter_on 0 HS.out (by unfold InI; decide) hz.1 hz.2).mono ?_
        rintro e w3 ⟨rfl, h3, _⟩
        have H3 := Lib.hid h3
        clear h3 HS hz
        go_wp2_with fail
        refine (stSpec.depth_on H3.out (HD.out (i + 1))).mono ?_
        rintro e w4 ⟨rfl, h4, _⟩
        have H4 := Lib.hid h4
        clear h4 H3
        go_wp2
        go_roundw
        case rel => exact ⟨i + 1, by simp, by omega, H4⟩
        case measure => simp [intOf]; omega
      · have him : i = m := by have := HV.out; omega
        subst him
        go_wp2_with fail
        refine (stSpec.enter_on 0 HS.out (by unfold InI; decide) HF.out.1 HF.out.2).mono ?_
        rintro e w3 ⟨rfl, h3, _⟩
        have H3 := Lib.hid h3
        clear h3 HS
        go_wp2
        go_loopw [36] (fun jv wr => ∃ j : Nat, jv = .int .i64 (j : Int) ∧ j ≤ i ∧ Hid (StOn StAt w wr k F ⟨i, List.replicate (i - j) 0⟩)) (fun jv _ => 64 - (intOf jv).toNat)
        case atStart => exact ⟨0, rfl, by omega, H3⟩
        case round =>
          obtain ⟨j, rfl, hj, HS⟩ := hrel
          clear H3
          by_cases hlt2 : (j : Int) < 64
          · have hjm : j < i := by have := HV.out; omega
            have hz := HL.out (i - (j + 1))
            rw [show i - (j + 1) + 1 = i - j by omega] at hz
            go_wp2_with fail
            refine (stSpec.leave_on HS.out hz.1 hz.2).mono ?_
            rintro e w4 ⟨rfl, h4, _⟩
            have H4 := Lib.hid h4
            clear h4 HS hz
            go_wp2
            go_roundw
            case rel => exact ⟨j + 1, by simp, by omega, H4⟩
            case measure => simp [intOf]; omega
          · have hjm : j = i := by have := HV.out; omega
            have HS0 : Hid (StOn StAt w wr k F ⟨i, []⟩) := Lib.hid (by have := HS.out; rw [hjm, Nat.sub_self] at this; exact this)
            clear HS
            go_wp2_with fail
            refine (stSpec.leave_on HS0.out (none_leave i).1 (none_leave i).2).mono ?_
            rintro e w4 ⟨rfl, h4, _⟩
            go_wp2_with fail
            refine (stSpec.depth_on h4 (d := 0) rfl).mono ?_
            rintro e w5 ⟨rfl, h5, _⟩
            go_wp2_with fail
            refine (stSpec.left_on h5 (d := -1) rfl).mono ?_
            rintro e w6 ⟨rfl, h6, _⟩
            go_wp2_with fail
            refine (stSpec.take_on h6 (er := 0) rfl rfl).mono ?_
            rintro e w7 ⟨rfl, h7, _⟩
            clear h4 h5 h6 HS0
            go_wp2
            go_ret
            exact ⟨rfl, h7.bel⟩
  · have HV := Lib.hid hv
    clear hv
    go_enter Try.func5, Try.ntmps5
    go_wp2_with fail
    refine (stSpec.new_on _ b0 (Below.refl w.heap.size w)).mono ?_
    rintro e w1 ⟨k, F, rfl, h1, _, _⟩
    rw [hnew] at h1
    have H1 := Lib.hid h1
    clear h1 hnew
    go_wp2_with fail
    refine (awake08_any _).mono ?_
    rintro e w2 ⟨rfl, hb⟩
    have H2 := Lib.hid (H1.out.step stSpec hb)
    clear hb H1
    go_wp2
    go_loopw [18] (fun iv wr => ∃ i : Nat, iv = .int .i64 (i : Int) ∧ i ≤ m ∧ Hid (StOn StAt w wr k F ⟨m, List.replicate i 0⟩)) (fun iv _ => 64 - (intOf iv).toNat)
    case atStart => exact ⟨0, rfl, by omega, H2⟩
    case round =>
      obtain ⟨i, rfl, hi, HS⟩ := hrel
      clear H2
      by_cases hlt : (i : Int) < 64
      · have him : i < m := by have := HV.out; omega
        have hz := HE.out i him
        go_wp2_with fail
        refine (stSpec.enter_on 0 HS.out (by unfold InI; decide) hz.1 hz.2).mono ?_
        rintro e w3 ⟨rfl, h3, _⟩
        have H3 := Lib.hid h3
        clear h3 HS hz
        go_wp2_with fail
        refine (stSpec.depth_on H3.out (HD.out (i + 1))).mono ?_
        rintro e w4 ⟨rfl, h4, _⟩
        have H4 := Lib.hid h4
        clear h4 H3
        go_wp2
        go_roundw
        case rel => exact ⟨i + 1, by simp, by omega, H4⟩
        case measure => simp [intOf]; omega
      · have him : i = m := by have := HV.out; omega
        subst him
        go_wp2_with fail
        refine (stSpec.enter_on 0 HS.out (by unfold InI; decide) HF.out.1 HF.out.2).mono ?_
        rintro e w3 ⟨rfl, h3, _⟩
        have H3 := Lib.hid h3
        clear h3 HS
        go_wp2
        go_loopw [36] (fun jv wr => ∃ j : Nat, jv = .int .i64 (j : Int) ∧ j ≤ i ∧ Hid (StOn StAt w wr k F ⟨i, List.replicate (i - j) 0⟩)) (fun jv _ => 64 - (intOf jv).toNat)
        case atStart => exact ⟨0, rfl, by omega, H3⟩
        case round =>
          obtain ⟨j, rfl, hj, HS⟩ := hrel
          clear H3
          by_cases hlt2 : (j : Int) < 64
          · have hjm : j < i := by have := HV.out; omega
            have hz := HL.out (i - (j + 1))
            rw [show i - (j + 1) + 1 = i - j by omega] at hz
            go_wp2_with fail
            refine (stSpec.leave_on HS.out hz.1 hz.2).mono ?_
            rintro e w4 ⟨rfl, h4, _⟩
            have H4 := Lib.hid h4
            clear h4 HS hz
            go_wp2
            go_roundw
            case rel => exact ⟨j + 1, by simp, by omega, H4⟩
            case measure => simp [intOf]; omega
          · have hjm : j = i := by have := HV.out; omega
            have HS0 : Hid (StOn StAt w wr k F ⟨i, []⟩) := Lib.hid (by have := HS.out; rw [hjm, Nat.sub_self] at this; exact this)
            clear HS
            go_wp2_with fail
            refine (stSpec.leave_on HS0.out (none_leave i).1 (none_leave i).2).mono ?_
            rintro e w4 ⟨rfl, h4, _⟩
            go_wp2_with fail
            refine (stSpec.depth_on h4 (d := 0) rfl).mono ?_
            rintro e w5 ⟨rfl, h5, _⟩
            go_wp2_with fail
            refine (stSpec.left_on h5 (d := -1) rfl).mono ?_
            rintro e w6 ⟨rfl, h6, _⟩
            go_wp2_with fail
            refine (stSpec.take_on h6 (er := 0) rfl rfl).mono ?_
            rintro e w7 ⟨rfl, h7, _⟩
            clear h4 h5 h6 HS0
            go_wp2
            go_ret
            exact ⟨rfl, h7.bel⟩


/-! ### StackDepth: the step from the walk to the statement -/
namespace stackDepth
theorem own : ownKnob Try.prog.godebug = none := by kernel_rfl
set_option maxRecDepth 100000 in
theorem lifted (os : Os) (started : os.Started) (H : Type) (enc : TypeId × Value → H) :
    ReturnsInHanded {} Try.checked os 5 .any (Rows.stackDepthSpec.pre6 enc Try.prog Try.f5 Rows.stackDepthRow.domain false) (Rows.stackDepthSpec.post enc Try.prog Try.f5 false true false false) := by
  refine returnsInHanded_of_change (C := Try.checked) own started (by kernel_rfl) Try.func5
    (ChangeSpec.witness6 (enc := enc) (C := Try.checked) false ⟨#[], #[.int .i64 0], []⟩ 8 (by kernel_rfl) (by kernel_rfl) (by kernel_rfl) (by kernel_rfl)) ?_
  intro W base args ds gs before hval0 hW hcnd _
  have hval : ∀ (j : Nat) t v, Try.f5.params[j]? = some t → args[j]? = some v → Value.okWide Try.prog W .any base t v := hval0
  have hW' := hW
  obtain ⟨p, q, hA0, hV, rfl, hfz, hnd⟩ := hW
  have hA : DataW.TrodAll enc Try.prog W 0 (fun _ => true) true Try.f5.params.toList args.toList ds p := hA0
  rw [Try.params5] at hA hval
  obtain ⟨v0, vs0, d0, ds0, p0, q0, hargs, rfl, rfl, h0, r0⟩ := trodAll_cons hA
  obtain ⟨rfl, rfl, rfl⟩ := trodAll_nil r0
  obtain rfl : args = #[v0] := by cases args; simp_all
  obtain ⟨rfl, rfl⟩ := trodVars_none hV
  obtain ⟨a0, rfl, rfl, rfl, w0⟩ := open_int Try.underlying3 (hval 0 3 v0 rfl rfl) h0
  clear hA0 hval0
  simp only [List.append_nil] at hW'
  refine (walkStackDepth a0 (bounds_i64 w0) W).mono fun e W' ⟨he, bel⟩ => ?_
  subst he
  exact ⟨_, rfl, _, _, _, [], [], [], hW', trodAll_mk1 (shut_bool Try.underlying4 _), (trodAll_cons_mk (shut_int Try.underlying3 w0) trodAll_mk0), rfl, bel.frame _, fun h => by cases h⟩
theorem over : Rows.stackDepthRow.holds Try.pinned (OpenSpec.ofChange Rows.stackDepthSpec) :=
  OpenClaim.holds_of_wide 5 Try.f5 rfl rfl rfl rfl rfl rfl rfl ⟨rfl, rfl, rfl, rfl, rfl⟩ rfl rfl rfl rfl rfl (by kernel_rfl) Try.func5 (by kernel_rfl)
    (of_decide_eq_true (by kernel_rfl)) (by unfold Func.isWrapper; first | (rw [if_pos (by decide +kernel)]; kernel_rfl) | (rw [if_neg (by decide +kernel)]; exact ⟨rfl, rfl⟩))
    (fun os started H enc _ => lifted os started H enc)
/-- THE STATEMENT. -/
theorem proved : Rows.StackDepthSaid := over
end stackDepth
end Go.Proofs.Ytlfmcgkkfbhifaa
