/- Of every two numbers: elements within each other, each of as many bytes as its outer one has left, can all be left when the innermost one's bytes came (of others than 0 to 500, and 1 to 64, the law asks only for the fixed answers). No condition but the form of the row. -/
import Derived.Test.YtlfmcgkkfbhifaaStackAwake
import Derived.Test.YtlfmcgkkfbhifaaStackLaw
import Derived.Test.YtlfmcgkkfbhifaaRows
import Derived.WalkKit
import Derived.ProofKit
import Derived.OpenShut
import Derived.ShutString
import Derived.ChangeOld
import Derived.Below
namespace Go.Proofs.Ytlfmcgkkfbhifaa
open Go.ChangeShapes Go.WideShapes Go.ChangeAt Go.RowKit
open Go.ChangeMaps (open_string shut_string)
set_option linter.unusedVariables false
set_option maxRecDepth 100000 in
set_option maxHeartbeats 4000000 in
theorem walkStackNested (a0 : Int) (a1 : Int) (b0 : -9223372036854775808 ≤ a0 ∧ a0 ≤ 9223372036854775807) (b1 : -9223372036854775808 ≤ a1 ∧ a1 ≤ 9223372036854775807) (w : World) :
    Calls Try.prog 7 #[.int .i64 a0, .int .i64 a1] w fun e w' => e = .returned (.bool true) ∧ Below w.heap.size w w' := by
  by_cases hin : 0 ≤ a0 ∧ a0 ≤ 500 ∧ 1 ≤ a1 ∧ a1 ≤ 64
  · obtain ⟨g1, g2, g3, g4⟩ := hin
    obtain ⟨d, rfl⟩ := Int.eq_ofNat_of_zero_le (show 0 ≤ a1 by omega)
    obtain ⟨n, rfl⟩ := Int.eq_ofNat_of_zero_le g1
    obtain ⟨c, rfl⟩ : ∃ c, d = c + 1 := ⟨d - 1, by omega⟩
    have hnew := new_in (d := c + 1) (by omega)
    have HNE := Lib.hid (fun i (h : i < c + 1) => nest_enter (m := c + 1) (i := i) (n := (n : Int)) (by omega) h)
    have HL := Lib.hid (zeros_leave (c + 1))
    have HD := Lib.hid (zeros_depth (c + 1))
    have g5 : ((c + 1 : Nat) : Int) = (c : Int) + 1 := by omega
    rw [g5] at b1 g3 g4 hnew ⊢
    have hc63 : c ≤ 63 := by omega
    clear g5
    go_enter Try.func7, Try.ntmps7
    go_wp2_with fail
    refine (awake08_any _).mono ?_
    rintro e w1 ⟨rfl, hB1⟩
    go_wp2_with fail
    refine (stSpec.new_on _ b1 hB1).mono ?_
    rintro e w2 ⟨k, F, rfl, h2, _, _⟩
    rw [hnew] at h2
    have H2 := Lib.hid h2
    clear h2 hnew hB1
    go_wp2
    go_loopw [32] (fun iv wr => ∃ i : Nat, iv = .int .i64 (i : Int) ∧ i ≤ c + 1 ∧ Hid (StOn StAt w wr k F ⟨c + 1, nest n i⟩)) (fun iv _ => 64 - (intOf iv).toNat)
    case atStart => exact ⟨0, rfl, by omega, H2⟩
    case round =>
      obtain ⟨i, rfl, hi, HS⟩ := hrel
      clear H2
      by_cases hlt : (i : Int) < (c : Int) + 1
      · have hz := HNE.out i (by omega)
        go_wp2_with fail
        refine (stSpec.enter_on _ HS.out (by unfold InI; omega) hz.1 hz.2).mono ?_
        rintro e w3 ⟨rfl, h3, _⟩
        have H3 := Lib.hid h3
        clear h3 HS hz
        go_wp2_with fail
        refine (stSpec.left_on H3.out (nest_last (c + 1) i n)).mono ?_
        rintro e w4 ⟨rfl, h4, _⟩
        have H4 := Lib.hid h4
        clear h4 H3
        go_wp2
        go_roundw
        case rel => exact ⟨i + 1, by simp, by omega, H4⟩
        case measure => simp [intOf]; omega
      · have HS0 : Hid (StOn StAt w wr k F ⟨c + 1, (n : Int) :: List.replicate c 0⟩) := Lib.hid (by have := HS.out; rw [show i = c + 1 by omega] at this; exact this)
        clear HS HNE
        go_wp2
        go_loopw [46] (fun jv wr => ∃ j : Nat, jv = .int .i64 (j : Int) ∧ j ≤ n ∧ Hid (StOn StAt w wr k F ⟨c + 1, ((n : Int) - (j : Int)) :: List.replicate c 0⟩)) (fun jv _ => 500 - (intOf jv).toNat)
        case atStart => exact ⟨0, rfl, by omega, by simpa using HS0⟩
        case round =>
          obtain ⟨j, rfl, hj, HS⟩ := hrel
          clear HS0
          by_cases hlt2 : (j : Int) < (n : Int)
          · have hz := nest_full (m := c + 1) (i := c) (x := (n : Int) - (j : Int)) (by omega)
            obtain ⟨z1, z2, z3, z4⟩ := hz
            go_wp2_with fail
            refine (stSpec.leave_on HS.out z1 z2).mono ?_
            rintro e w3 ⟨rfl, h3, _⟩
            go_wp2_with fail
            refine (stSpec.take_on h3 z3 z4).mono ?_
            rintro e w4 ⟨rfl, h4, _⟩
            go_wp2_with fail
            refine (stSpec.left_on h4 (d := (n : Int) - (j : Int) - 1) rfl).mono ?_
            rintro e w5 ⟨rfl, h5, _⟩
            have H5 := Lib.hid (show StOn StAt w w5 k F ⟨c + 1, ((n : Int) - ((j + 1 : Nat) : Int)) :: List.replicate c 0⟩ by rw [show (n : Int) - ((j + 1 : Nat) : Int) = (n : Int) - (j : Int) - 1 by omega]; exact h5)
            have hqq : (n : Int) - (j : Int) - 1 = (n : Int) - 1 - (j : Int) := by omega
            clear h3 h4 h5 z1 z2 z3 z4 HS
            rw [hqq]
            clear hqq
            go_wp2
            go_roundw
            case rel => exact ⟨j + 1, by simp, by omega, H5⟩
            case measure => simp [intOf]; omega
          · have HS1 : Hid (StOn StAt w wr k F ⟨c + 1, List.replicate (c + 1) 0⟩) := Lib.hid (by have := HS.out; rw [show (n : Int) - (j : Int) = 0 by omega] at this; rw [List.replicate_succ]; exact this)
            clear HS
            go_wp2
            go_loopw [67] (fun lv wr => ∃ l : Nat, lv = .int .i64 (l : Int) ∧ l ≤ c + 1 ∧ Hid (StOn StAt w wr k F ⟨c + 1, List.replicate (c + 1 - l) 0⟩)) (fun lv _ => 64 - (intOf lv).toNat)
            case atStart => exact ⟨0, rfl, by omega, HS1⟩
            case round =>
              obtain ⟨l, rfl, hl, HS⟩ := hrel
              clear HS1
              by_cases hlt3 : (l : Int) < (c : Int) + 1
              · have hz := HL.out (c + 1 - (l + 1))
                rw [show c + 1 - (l + 1) + 1 = c + 1 - l by omega] at hz
                have hd : (⟨c + 1, List.replicate (c + 1 - l) 0⟩ : SS).depth = (c : Int) + 1 - (l : Int) := by rw [HD.out]; omega
                go_wp2_with fail
                refine (stSpec.depth_on HS.out hd).mono ?_
                rintro e w3 ⟨rfl, h3, _⟩
                go_wp2_with fail
                refine (stSpec.leave_on h3 hz.1 hz.2).mono ?_
                rintro e w4 ⟨rfl, h4, _⟩
                have H4 := Lib.hid h4
                clear h3 h4 HS hz hd
                go_wp2
                go_roundw
                case rel => exact ⟨l + 1, by simp, by omega, H4⟩
                case measure => simp [intOf]; omega
              · have HS2 : Hid (StOn StAt w wr k F ⟨c + 1, []⟩) := Lib.hid (by have := HS.out; rw [show c + 1 - l = 0 by omega] at this; exact this)
                clear HS
                go_wp2_with fail
                refine (stSpec.depth_on HS2.out (d := 0) rfl).mono ?_
                rintro e w3 ⟨rfl, h3, _⟩
                go_wp2_with fail
                refine (stSpec.leave_on h3 (none_leave (c + 1)).1 (none_leave (c + 1)).2).mono ?_
                rintro e w4 ⟨rfl, h4, _⟩
                clear h3 HS2
                go_wp2
                go_ret
                exact ⟨rfl, h4.bel⟩
  · have hw : a0 < 0 ∨ (0 ≤ a0 ∧ 500 < a0) ∨ (0 ≤ a0 ∧ a0 ≤ 500 ∧ a1 < 1) ∨ (0 ≤ a0 ∧ a0 ≤ 500 ∧ 1 ≤ a1 ∧ 64 < a1) := by omega
    clear hin
    rcases hw with h | ⟨h, h2⟩ | ⟨h, h2, h3⟩ | ⟨h, h2, h3, h4⟩
    all_goals
      go_enter Try.func7, Try.ntmps7
      go_wp2_with fail
      refine (awake08_any _).mono ?_
      rintro e w1 ⟨rfl, hB1⟩
      go_wp2_with fail
      refine (awake08_any _).mono ?_
      rintro e w2 ⟨rfl, hb⟩
      go_wp2
      go_returns
      exact ⟨rfl, hB1.trans (hb.mono hB1.size)⟩


/-! ### StackNested: the step from the walk to the statement -/
namespace stackNested
theorem own : ownKnob Try.prog.godebug = none := by kernel_rfl
set_option maxRecDepth 100000 in
theorem lifted (os : Os) (started : os.Started) (H : Type) (enc : TypeId × Value → H) :
    ReturnsInHanded {} Try.checked os 7 .any (Rows.stackNestedSpec.pre6 enc Try.prog Try.f7 Rows.stackNestedRow.domain false) (Rows.stackNestedSpec.post enc Try.prog Try.f7 false true false false) := by
  refine returnsInHanded_of_change (C := Try.checked) own started (by kernel_rfl) Try.func7
    (ChangeSpec.witness6 (enc := enc) (C := Try.checked) false ⟨#[], #[.int .i64 0, .int .i64 0], []⟩ 8 (by kernel_rfl) (by kernel_rfl) (by kernel_rfl) (by kernel_rfl)) ?_
  intro W base args ds gs before hval0 hW hcnd _
  have hval : ∀ (j : Nat) t v, Try.f7.params[j]? = some t → args[j]? = some v → Value.okWide Try.prog W .any base t v := hval0
  have hW' := hW
  obtain ⟨p, q, hA0, hV, rfl, hfz, hnd⟩ := hW
  have hA : DataW.TrodAll enc Try.prog W 0 (fun _ => true) true Try.f7.params.toList args.toList ds p := hA0
  rw [Try.params7] at hA hval
  obtain ⟨v0, vs0, d0, ds0, p0, q0, hargs, rfl, rfl, h0, r0⟩ := trodAll_cons hA
  obtain ⟨v1, vs1, d1, ds1, p1, q1, rfl, rfl, rfl, h1, r1⟩ := trodAll_cons r0
  obtain ⟨rfl, rfl, rfl⟩ := trodAll_nil r1
  obtain rfl : args = #[v0, v1] := by cases args; simp_all
  obtain ⟨rfl, rfl⟩ := trodVars_none hV
  obtain ⟨a0, rfl, rfl, rfl, w0⟩ := open_int Try.underlying3 (hval 0 3 v0 rfl rfl) h0
  obtain ⟨a1, rfl, rfl, rfl, w1⟩ := open_int Try.underlying3 (hval 1 3 v1 rfl rfl) h1
  clear hA0 hval0
  simp only [List.append_nil] at hW'
  refine (walkStackNested a0 a1 (bounds_i64 w0) (bounds_i64 w1) W).mono fun e W' ⟨he, bel⟩ => ?_
  subst he
  exact ⟨_, rfl, _, _, _, [], [], [], hW', trodAll_mk1 (shut_bool Try.underlying4 _), (trodAll_cons_mk (shut_int Try.underlying3 w0) (trodAll_cons_mk (shut_int Try.underlying3 w1) trodAll_mk0)), rfl, bel.frame _, fun h => by cases h⟩
theorem over : Rows.stackNestedRow.holds Try.pinned (OpenSpec.ofChange Rows.stackNestedSpec) :=
  OpenClaim.holds_of_wide 7 Try.f7 rfl rfl rfl rfl rfl rfl rfl ⟨rfl, rfl, rfl, rfl, rfl⟩ rfl rfl rfl rfl rfl (by kernel_rfl) Try.func7 (by kernel_rfl)
    (of_decide_eq_true (by kernel_rfl)) (by unfold Func.isWrapper; first | (rw [if_pos (by decide +kernel)]; kernel_rfl) | (rw [if_neg (by decide +kernel)]; exact ⟨rfl, rfl⟩))
    (fun os started H enc _ => lifted os started H enc)
/-- THE STATEMENT. -/
theorem proved : Rows.StackNestedSaid := over
end stackNested
end Go.Proofs.Ytlfmcgkkfbhifaa
