/- Of every tag, length and content (of more than 300 bytes, or more than so many, the law asks only for the fixed answers): Start and Push tell the byte that the reference tells. No condition but the form of the row. -/
import Derived.Test.YtpifhlifjmnfiaaNumAwake
import Derived.Test.YtpifhlifjmnfiaaRefNumb2
import Derived.Test.YtpifhlifjmnfiaaRows
import Derived.WalkKit
import Derived.ProofKit
import Derived.OpenShut
import Derived.ShutString
import Derived.ChangeOld
import Derived.Below
namespace Go.Proofs.Ytpifhlifjmnfiaa
open Go.ChangeShapes Go.WideShapes Go.ChangeAt Go.RowKit
open Go.ChangeMaps (open_string shut_string)
set_option linter.unusedVariables false
open Go.PlainAid in
set_option maxRecDepth 100000 in
set_option maxHeartbeats 4000000 in
theorem walkNumberChecks (a0 : Int) (a1 : Int) (a2 : ByteArray) (b0 : -9223372036854775808 ≤ a0 ∧ a0 ≤ 9223372036854775807) (b1 : -9223372036854775808 ≤ a1 ∧ a1 ≤ 9223372036854775807) (b2 : a2.size ≤ maxLen) (w : World) :
    Calls Try.prog 3 #[.int .i64 a0, .int .i64 a1, .string a2] w fun e w' => e = .returned (.bool true) ∧ Below w.heap.size w w' := by
  have hb9 : (a2.size : Int) ≤ 9223372036854775807 := by unfold maxLen at b2; omega
  by_cases hl : (300 : Int) < (a2.size : Int)
  · clear b2
    go_enter Try.func3, Try.ntmps3
    go_wp2_with fail
    refine (awake10_any _).mono ?_
    rintro e w1 ⟨rfl, hB1⟩
    go_wp2_with fail
    refine (awake10_any _).mono ?_
    rintro e w2 ⟨rfl, hb⟩
    have hB2 := hB1.trans (hb.mono hB1.size)
    clear hb hB1
    go_wp2
    go_returns
    exact ⟨rfl, hB2⟩
  · by_cases hm : max a1 0 < (a2.size : Int)
    · clear b2
      go_enter Try.func3, Try.ntmps3
      go_wp2_with fail
      refine (awake10_any _).mono ?_
      rintro e w1 ⟨rfl, hB1⟩
      go_wp2_with fail
      refine (awake10_any _).mono ?_
      rintro e w2 ⟨rfl, hb⟩
      have hB2 := hB1.trans (hb.mono hB1.size)
      clear hb hB1
      go_wp2
      go_returns
      exact ⟨rfl, hB2⟩
    · have hl2 : (a2.size : Int) ≤ 300 := by omega
      have H0 := Lib.hid (refWrong_any a0 a1 a2 b2)
      have H1 := Lib.hid (nmStart_any a0 a1)
      have HOK := Lib.hid (nmOk_iff a0 a1 a2.size (bt a2 0) (bt a2 1))
      have HX0 := Lib.hid (bt_nonneg a2)
      have HX1 := Lib.hid (bt_le a2)
      have HGB := Lib.hid (get_bt a2)
      have HAR := Lib.hid (nmAt_range a0 (bt a2 0))
      have HFA : Hid (nmFirst a0 = nmAt a0 (bt a2 0) 0) := Lib.hid rfl
      have HST := Lib.hid (fun (i : Nat) (z : Int) hok hi hk hx hy h0 => nm_step a0 a1 a2.size i (bt a2 0) (bt a2 1) z hok hi hk hx hy h0)
      unfold nmWrong at H0
      generalize nW a0 a1 a2.size (bt a2 0) (bt a2 1) = at_ at *
      by_cases hok : nmOk a0 a1 = true
      · have hn : (a2.size : Int) ≤ a1 ∨ a2.size = 0 := by omega
        rw [hok] at H1
        have hat : (at_ != 0) = true := by simpa using HOK.out.1 hok
        have hat2 := HOK.out.1 hok
        clear b2 HOK
        go_enter Try.func3, Try.ntmps3
        go_wp2_with fail
        refine (awake10_any _).mono ?_
        rintro e w1 ⟨rfl, hB1⟩
        go_wp2_with fail
        refine (H0.out _).mono ?_
        rintro e w' ⟨rfl, rfl⟩
        go_wp2_with fail
        refine (H1.out _).mono ?_
        rintro e w2 ⟨rfl, hb⟩
        have hB2 := hB1.trans (hb.mono hB1.size)
        clear hb hB1
        go_wp2
        go_loopw [44] (fun iv wr => ∃ (i : Nat), iv = .int .i64 (i : Int) ∧ i ≤ a2.size ∧ ¬ (0 ≤ at_ ∧ at_ ≤ (i : Int)) ∧ Hid (Row wr w2.heap.size 26 [.int .u8 (nmAt a0 (bt a2 0) i)]) ∧ Hid (Below w.heap.size w wr)) (fun iv _ => a2.size - (intOf iv).toNat)
        case atStart => exact ⟨0, rfl, by omega, by simp; omega, Lib.hid (Row.new w2 26 _), Lib.hid (hB2.alloc hB2.size _)⟩
        case round =>
          obtain ⟨i, rfl, hi, hna, HR, HB⟩ := hrel
          by_cases hlt : i < a2.size
          · have hbt := HGB.out i hlt
            have hx0 := HX0.out i
            have hx1 := HX1.out i
            have har := HAR.out i
            have hX : ∀ j, bt a2 j = bt a2 j := fun _ => rfl
            have hst := HST.out i (bt a2 i) hok hlt (by omega) (by rintro rfl; rfl) (by rintro rfl; rfl) hna
            have HP := Lib.hid (nmPush_any (nmAt a0 (bt a2 0) i) (bt a2 i) har ⟨hx0, hx1⟩)
            rw [hst] at HP
            generalize bt a2 i = x at *
            have h0 := HR.out.cell 0
            have f0 := HR.out.frozen 0
            have hls := HR.out.lt
            clear hX hst
            by_cases hat3 : at_ = (i : Int) + 1
            · rw [if_pos hat3] at HP
              have hb : (at_ != (i : Int) + 1) = false := by simpa using hat3
              go_wp2
              go_region_with (go_at_call 12; refine (HP.out _).mono ?_; rintro e w5 ⟨rfl, hb5⟩; obtain ⟨hc5, hf5⟩ := num_kept hb5 HR.out rfl)
              all_goals
                have HB5 := Lib.hid ((below_kept hb5 HB.out rfl rfl rfl rfl).setCell (p := ⟨w2.heap.size, 0, none⟩) hB2.size (.int .u8 0))
                clear hb5 hc5 hf5 h0 f0 hls
                go_wp2
                go_returns
                exact ⟨rfl, HB5.out⟩
            · rw [if_neg hat3] at HP
              have hb : (at_ != (i : Int) + 1) = true := by simpa using hat3
              generalize hnx : nmAt a0 (bt a2 0) (i + 1) = nx at *
              go_wp2
              go_region_with (go_at_call 12; refine (HP.out _).mono ?_; rintro e w5 ⟨rfl, hb5⟩; obtain ⟨hc5, hf5⟩ := num_kept hb5 HR.out rfl)
              all_goals
                have HB5 := Lib.hid ((below_kept hb5 HB.out rfl rfl rfl rfl).setCell (p := ⟨w2.heap.size, 0, none⟩) hB2.size (.int .u8 nx))
                have HR5 := Lib.hid ((row_kept hb5 HR.out rfl).set 0 (.int .u8 nx))
                clear hb5 hc5 hf5 h0 f0 hls
                go_wp2
                go_roundw
                case rel => exact ⟨i + 1, by simp, by omega, by omega, by rw [hnx]; exact HR5, HB5⟩
                case measure => simp [intOf]; omega
          · have hne : ¬ (i : Int) < (a2.size : Int) := by omega
            go_wp2
            go_returns
            exact ⟨rfl, HB.out⟩
      · have hno : nmOk a0 a1 = false := by simpa using hok
        have hat : (at_ != 0) = false := by have := HOK.out; rw [hno] at this; simp at this; simpa using this
        rw [hno] at H1
        clear b2 HOK
        go_enter Try.func3, Try.ntmps3
        go_wp2_with fail
        refine (awake10_any _).mono ?_
        rintro e w1 ⟨rfl, hB1⟩
        go_wp2_with fail
        refine (H0.out _).mono ?_
        rintro e w' ⟨rfl, rfl⟩
        go_wp2_with fail
        refine (H1.out _).mono ?_
        rintro e w2 ⟨rfl, hb⟩
        have hB2 := hB1.trans (hb.mono hB1.size)
        clear hb hB1
        go_wp2
        go_returns
        exact ⟨rfl, hB2.alloc hB2.size _⟩


/-! ### NumberChecks: the step from the walk to the statement -/
namespace numberChecks
theorem own : ownKnob Try.prog.godebug = none := by kernel_rfl
set_option maxRecDepth 100000 in
theorem lifted (os : Os) (started : os.Started) (H : Type) (enc : TypeId × Value → H) :
    ReturnsInHanded {} Try.checked os 3 .any (Rows.numberChecksSpec.pre6 enc Try.prog Try.f3 Rows.numberChecksRow.domain false) (Rows.numberChecksSpec.post enc Try.prog Try.f3 false true false false) := by
  refine returnsInHanded_of_change (C := Try.checked) own started (by kernel_rfl) Try.func3
    (ChangeSpec.witness6 (enc := enc) (C := Try.checked) false ⟨#[], #[.int .i64 0, .int .i64 0, .string ByteArray.empty], []⟩ 8 (by kernel_rfl) (by kernel_rfl) (by kernel_rfl) (by kernel_rfl)) ?_
  intro W base args ds gs before hval0 hW hcnd _
  have hval : ∀ (j : Nat) t v, Try.f3.params[j]? = some t → args[j]? = some v → Value.okWide Try.prog W .any base t v := hval0
  have hW' := hW
  obtain ⟨p, q, hA0, hV, rfl, hfz, hnd⟩ := hW
  have hA : DataW.TrodAll enc Try.prog W 0 (fun _ => true) true Try.f3.params.toList args.toList ds p := hA0
  rw [Try.params3] at hA hval
  obtain ⟨v0, vs0, d0, ds0, p0, q0, hargs, rfl, rfl, h0, r0⟩ := trodAll_cons hA
  obtain ⟨v1, vs1, d1, ds1, p1, q1, rfl, rfl, rfl, h1, r1⟩ := trodAll_cons r0
  obtain ⟨v2, vs2, d2, ds2, p2, q2, rfl, rfl, rfl, h2, r2⟩ := trodAll_cons r1
  obtain ⟨rfl, rfl, rfl⟩ := trodAll_nil r2
  obtain rfl : args = #[v0, v1, v2] := by cases args; simp_all
  obtain ⟨rfl, rfl⟩ := trodVars_none hV
  obtain ⟨a0, rfl, rfl, rfl, w0⟩ := open_int Try.underlying3 (hval 0 3 v0 rfl rfl) h0
  obtain ⟨a1, rfl, rfl, rfl, w1⟩ := open_int Try.underlying3 (hval 1 3 v1 rfl rfl) h1
  obtain ⟨a2, rfl, rfl, rfl, w2⟩ := open_string Try.underlying9 (hval 2 9 v2 rfl rfl) h2
  clear hA0 hval0
  simp only [List.append_nil] at hW'
  refine (walkNumberChecks a0 a1 a2 (bounds_i64 w0) (bounds_i64 w1) w2 W).mono fun e W' ⟨he, bel⟩ => ?_
  subst he
  exact ⟨_, rfl, _, _, _, [], [], [], hW', trodAll_mk1 (shut_bool Try.underlying4 _), (trodAll_cons_mk (shut_int Try.underlying3 w0) (trodAll_cons_mk (shut_int Try.underlying3 w1) (trodAll_cons_mk (shut_string Try.underlying9 w2) trodAll_mk0))), rfl, bel.frame _, fun h => by cases h⟩
theorem over : Rows.numberChecksRow.holds Try.pinned (OpenSpec.ofChange Rows.numberChecksSpec) :=
  OpenClaim.holds_of_wide 3 Try.f3 rfl rfl rfl rfl rfl rfl rfl ⟨rfl, rfl, rfl, rfl, rfl⟩ rfl rfl rfl rfl rfl (by kernel_rfl) Try.func3 (by kernel_rfl)
    (of_decide_eq_true (by kernel_rfl)) (by unfold Func.isWrapper; first | (rw [if_pos (by decide +kernel)]; kernel_rfl) | (rw [if_neg (by decide +kernel)]; exact ⟨rfl, rfl⟩))
    (fun os started H enc _ => lifted os started H enc)
/-- THE STATEMENT. -/
theorem proved : Rows.NumberChecksSaid := over
end numberChecks
end Go.Proofs.Ytpifhlifjmnfiaa
