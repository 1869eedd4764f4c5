/- Of every tag, length and content (of more than 200 bytes, or more than so many, the law asks only for the fixed answers): Start and Push tell the byte that the reference tells. No condition but the form of the row. -/
import Derived.Test.YtlnggeggmchjcaaTextAwake
import Derived.Test.YtlnggeggmchjcaaRefText4
import Derived.Test.YtlnggeggmchjcaaRows
import Derived.WalkKit
import Derived.ProofKit
import Derived.OpenShut
import Derived.ShutString
import Derived.ChangeOld
import Derived.Below
namespace Go.Proofs.Ytlnggeggmchjcaa
open Go.ChangeShapes Go.WideShapes Go.ChangeAt Go.RowKit
open Go.ChangeMaps (open_string shut_string)
set_option linter.unusedVariables false
open Go.PlainAid in
set_option maxRecDepth 100000 in
set_option maxHeartbeats 16000000 in
theorem walkTextChecks (a0 : Int) (a1 : Int) (a2 : ByteArray) (b0 : -9223372036854775808 ≤ a0 ∧ a0 ≤ 9223372036854775807) (b1 : -9223372036854775808 ≤ a1 ∧ a1 ≤ 9223372036854775807) (b2 : a2.size ≤ maxLen) (w : World) :
    Calls Try.prog 3 #[.int .i64 a0, .int .i64 a1, .string a2] w fun e w' => e = .returned (.bool true) ∧ Below w.heap.size w w' := by
  have hb9 : (a2.size : Int) ≤ 9223372036854775807 := by unfold maxLen at b2; omega
  by_cases hl : (200 : Int) < (a2.size : Int)
  · clear b2
    go_enter Try.func3, Try.ntmps3
    go_wp2_with fail
    refine (awake14_any _).mono ?_
    rintro e w1 ⟨rfl, hB1⟩
    go_wp2_with fail
    refine (awake14_any _).mono ?_
    rintro e w2 ⟨rfl, hb⟩
    have hB2 := hB1.trans (hb.mono hB1.size)
    clear hb hB1
    go_wp2
    go_returns
    exact ⟨rfl, hB2⟩
  · by_cases hm : max a1 0 < (a2.size : Int)
    · clear b2
      go_enter Try.func3, Try.ntmps3
      go_wp2_with fail
      refine (awake14_any _).mono ?_
      rintro e w1 ⟨rfl, hB1⟩
      go_wp2_with fail
      refine (awake14_any _).mono ?_
      rintro e w2 ⟨rfl, hb⟩
      have hB2 := hB1.trans (hb.mono hB1.size)
      clear hb hB1
      go_wp2
      go_returns
      exact ⟨rfl, hB2⟩
    · have hl2 : (a2.size : Int) ≤ 200 := by omega
      have H0 := Lib.hid (refTextWrong_any a0 a1 a2 (by omega))
      by_cases hn : 0 ≤ a1
      · have hmx : (a2.size : Int) ≤ a1 := by omega
        have hz : txW a0 a1 (bl a2) ≠ 0 := fun e => by have := (tx_zero a0 a1 (bl a2)).1 e; omega
        have H1 := Lib.hid (textStart_yes a0 a1 hn)
        have HA0 : Hid (TAt a0 a1 (bl a2) 0 ⟨a0, a1, 0, 0, 0⟩ true) := Lib.hid (tAt_start (by omega))
        have HST := Lib.hid (fun (i : Nat) (S : TS) (h : TAt a0 a1 (bl a2) i S true) (hi : i < (bl a2).length) => tAt_step h hi)
        have HSZ := Lib.hid (bl_length a2)
        have HGB := Lib.hid (get_bt a2)
        have HX := Lib.hid (fun (i : Nat) => (⟨bt_nonneg a2 i, bt_le a2 i⟩ : 0 ≤ bt a2 i ∧ bt a2 i ≤ 255))
        have HBL := Lib.hid (fun (i : Nat) (hi : i < (bl a2).length) => bl_get a2 i hi)
        have HWR := Lib.hid (fun (i : Nat) (S S' : TS) (ok : Bool) (h : TAt a0 a1 (bl a2) i S true) (h2 : TAt a0 a1 (bl a2) (i + 1) S' ok) => tAt_wrong h h2)
        generalize txW a0 a1 (bl a2) = at_ at *
        have hat0 : (at_ != 0) = true := by simpa using hz
        clear b2 hz
        go_enter Try.func3, Try.ntmps3
        go_wp2_with fail
        refine (awake14_any _).mono ?_
        rintro e w1 ⟨rfl, hB1⟩
        go_wp2_with fail
        refine (H0.out _).mono ?_
        rintro e w2 ⟨rfl, hb⟩
        have hB2 := hB1.trans (hb.mono hB1.size)
        clear hb hB1
        go_wp2_with fail
        refine (H1.out _).mono ?_
        rintro e w3 ⟨rfl, hb⟩
        have hB3 := hB2.trans (hb.mono hB2.size)
        clear hb hB2
        go_wp2
        go_loopw [9, 42] (fun ov iv wr => ∃ (i : Nat) (ok : Bool) (p q v y m : Int), ov = .bool ok ∧ iv = .int .i64 (i : Int) ∧ i ≤ a2.size ∧ Hid (Row wr w3.heap.size 27 (tC5 p q v y m)) ∧ Hid (Below w.heap.size w wr) ∧ Hid (TAt a0 a1 (bl a2) i ⟨p, q, v, y, m⟩ ok)) (fun _ iv _ => a2.size - (intOf iv).toNat)
        case atStart => exact ⟨0, true, a0, a1, 0, 0, 0, rfl, rfl, by omega, Lib.hid (Row.new w3 27 (tC5 _ _ _ _ _)), Lib.hid (hB3.alloc hB3.size _), HA0⟩
        case round =>
          obtain ⟨i, ok, p, q, v, y, m, rfl, rfl, hi, HRo, HB, HT⟩ := hrel
          by_cases hlt : i < a2.size
          · have hlti : (i : Int) < (a2.size : Int) := by omega
            cases ok
            · go_wp2
              go_returns
              exact ⟨rfl, HB.out⟩
            · skip
              have hbt := HGB.out i hlt
              have hll : i < (bl a2).length := by rw [HSZ.out]; exact hlt
              have hz2 := HBL.out i hll
              obtain ⟨⟨p', q', v', y', m'⟩, ok', hst⟩ : ∃ (S : TS) (d : Bool), tStep a0 a1 (bl a2) i = (S, d) := ⟨_, _, rfl⟩
              have HT2 := Lib.hid (HST.out i _ HT.out hll)
              rw [hst] at HT2
              have HP := Lib.hid (tPush_is HT.out hll (by rw [HSZ.out]; exact hmx) (by omega) (by rw [hz2]; exact HX.out i) hst)
              rw [hz2] at HP
              have hx := HX.out i
              have hwr := HWR.out i _ _ _ HT.out HT2.out
              generalize bt a2 i = z at *
              obtain ⟨hx0, hx1⟩ := hx
              clear hst hz2 HT HWR
              have h0 : wr.cell? ⟨w3.heap.size, 0, none⟩ = some (.int .i64 p) := HRo.out.cell 0
              have h1 : wr.cell? ⟨w3.heap.size, 1, none⟩ = some (.int .i64 q) := HRo.out.cell 1
              have h2 : wr.cell? ⟨w3.heap.size, 2, none⟩ = some (.int .i64 v) := HRo.out.cell 2
              have h3 : wr.cell? ⟨w3.heap.size, 3, none⟩ = some (.int .u8 y) := HRo.out.cell 3
              have h4 : wr.cell? ⟨w3.heap.size, 4, none⟩ = some (.int .u8 m) := HRo.out.cell 4
              have f0 := HRo.out.frozen 0
              have f1 := HRo.out.frozen 1
              have f2 := HRo.out.frozen 2
              have f3 := HRo.out.frozen 3
              have f4 := HRo.out.frozen 4
              have hls := HRo.out.lt
              by_cases hat3 : at_ = (i : Int) + 1
              · obtain rfl := hwr.1 hat3
                have hb : (at_ != (i : Int) + 1) = false := by simpa using hat3
                clear hat3 hwr
                go_wp2
                go_region_with (go_at_call 11; refine (HP.out _).mono ?_; rintro e w5 ⟨rfl, hb5⟩; obtain ⟨hc0, hf0, hc1, hf1, hc2, hf2, hc3, hf3, hc4, hf4⟩ := txSt_kept hb5 HRo.out rfl)
                all_goals
                  have HR5 := Lib.hid (row5t (txRow_kept hb5 HRo.out rfl) (.int .i64 p') (.int .i64 q') (.int .i64 v') (.int .u8 y') (.int .u8 m'))
                  have HB5 := Lib.hid (below5t (txBelow_kept hb5 HB.out rfl rfl rfl rfl) hB3.size (.int .i64 p') (.int .i64 q') (.int .i64 v') (.int .u8 y') (.int .u8 m'))
                  clear hb5 hc0 hf0 hc1 hf1 hc2 hf2 hc3 hf3 hc4 hf4 h0 h1 h2 h3 h4 f0 f1 f2 f3 f4 hls HRo HB HP
                  go_wp2
                  go_roundw
                  case rel => exact ⟨i + 1, false, p', q', v', y', m', rfl, by simp, by omega, HR5, HB5, HT2⟩
                  case measure => simp [intOf]; omega
              · obtain rfl : ok' = true := by
                  cases ok'
                  · exact absurd (hwr.2 rfl) hat3
                  · rfl
                have hb : (at_ != (i : Int) + 1) = true := by simpa using hat3
                clear hat3 hwr
                go_wp2
                go_region_with (go_at_call 11; refine (HP.out _).mono ?_; rintro e w5 ⟨rfl, hb5⟩; obtain ⟨hc0, hf0, hc1, hf1, hc2, hf2, hc3, hf3, hc4, hf4⟩ := txSt_kept hb5 HRo.out rfl)
                all_goals
                  have HR5 := Lib.hid (row5t (txRow_kept hb5 HRo.out rfl) (.int .i64 p') (.int .i64 q') (.int .i64 v') (.int .u8 y') (.int .u8 m'))
                  have HB5 := Lib.hid (below5t (txBelow_kept hb5 HB.out rfl rfl rfl rfl) hB3.size (.int .i64 p') (.int .i64 q') (.int .i64 v') (.int .u8 y') (.int .u8 m'))
                  clear hb5 hc0 hf0 hc1 hf1 hc2 hf2 hc3 hf3 hc4 hf4 h0 h1 h2 h3 h4 f0 f1 f2 f3 f4 hls HRo HB HP
                  go_wp2
                  go_roundw
                  case rel => exact ⟨i + 1, true, p', q', v', y', m', rfl, by simp, by omega, HR5, HB5, HT2⟩
                  case measure => simp [intOf]; omega
          · have hne : ¬ (i : Int) < (a2.size : Int) := by omega
            go_wp2
            go_returns
            exact ⟨rfl, HB.out⟩
      · have hz : txW a0 a1 (bl a2) = 0 := (tx_zero a0 a1 (bl a2)).2 (by omega)
        have H1 := Lib.hid (textStart_no a0 a1 (by omega))
        have hs0 : (a2.size : Int) = 0 := by omega
        rw [hz] at H0
        have hz0 : ¬ (0 : Int) < (a2.size : Int) := by omega
        clear b2 hz hs0
        go_enter Try.func3, Try.ntmps3
        go_wp2_with fail
        refine (awake14_any _).mono ?_
        rintro e w1 ⟨rfl, hB1⟩
        go_wp2_with fail
        refine (H0.out _).mono ?_
        rintro e w2 ⟨rfl, hb⟩
        have hB2 := hB1.trans (hb.mono hB1.size)
        clear hb hB1
        go_wp2_with fail
        refine (H1.out _).mono ?_
        rintro e w3 ⟨rfl, hb⟩
        have hB3 := hB2.trans (hb.mono hB2.size)
        clear hb hB2
        go_wp2
        go_loopw [9, 42] (fun ov iv wr => ov = .bool false ∧ iv = .int .i64 0 ∧ Hid (Below w.heap.size w wr)) (fun _ _ _ => 0)
        case atStart => exact ⟨rfl, rfl, Lib.hid (hB3.alloc hB3.size _)⟩
        case round =>
          obtain ⟨rfl, rfl, HB⟩ := hrel
          go_wp2
          go_returns
          exact ⟨rfl, HB.out⟩


/-! ### TextChecks: the step from the walk to the statement -/
namespace textChecks
theorem own : ownKnob Try.prog.godebug = none := by kernel_rfl
set_option maxRecDepth 100000 in
theorem lifted (os : Os) (started : os.Started) (H : Type) (enc : TypeId × Value → H) :
    ReturnsInHanded {} Try.checked os 3 .any (Rows.textChecksSpec.pre6 enc Try.prog Try.f3 Rows.textChecksRow.domain false) (Rows.textChecksSpec.post enc Try.prog Try.f3 false true false false) := by
  refine returnsInHanded_of_change (C := Try.checked) own started (by kernel_rfl) Try.func3
    (ChangeSpec.witness6 (enc := enc) (C := Try.checked) false ⟨#[], #[.int .i64 0, .int .i64 0, .string ByteArray.empty], []⟩ 8 (by kernel_rfl) (by kernel_rfl) (by kernel_rfl) (by kernel_rfl)) ?_
  intro W base args ds gs before hval0 hW hcnd _
  have hval : ∀ (j : Nat) t v, Try.f3.params[j]? = some t → args[j]? = some v → Value.okWide Try.prog W .any base t v := hval0
  have hW' := hW
  obtain ⟨p, q, hA0, hV, rfl, hfz, hnd⟩ := hW
  have hA : DataW.TrodAll enc Try.prog W 0 (fun _ => true) true Try.f3.params.toList args.toList ds p := hA0
  rw [Try.params3] at hA hval
  obtain ⟨v0, vs0, d0, ds0, p0, q0, hargs, rfl, rfl, h0, r0⟩ := trodAll_cons hA
  obtain ⟨v1, vs1, d1, ds1, p1, q1, rfl, rfl, rfl, h1, r1⟩ := trodAll_cons r0
  obtain ⟨v2, vs2, d2, ds2, p2, q2, rfl, rfl, rfl, h2, r2⟩ := trodAll_cons r1
  obtain ⟨rfl, rfl, rfl⟩ := trodAll_nil r2
  obtain rfl : args = #[v0, v1, v2] := by cases args; simp_all
  obtain ⟨rfl, rfl⟩ := trodVars_none hV
  obtain ⟨a0, rfl, rfl, rfl, w0⟩ := open_int Try.underlying3 (hval 0 3 v0 rfl rfl) h0
  obtain ⟨a1, rfl, rfl, rfl, w1⟩ := open_int Try.underlying3 (hval 1 3 v1 rfl rfl) h1
  obtain ⟨a2, rfl, rfl, rfl, w2⟩ := open_string Try.underlying9 (hval 2 9 v2 rfl rfl) h2
  clear hA0 hval0
  simp only [List.append_nil] at hW'
  refine (walkTextChecks a0 a1 a2 (bounds_i64 w0) (bounds_i64 w1) w2 W).mono fun e W' ⟨he, bel⟩ => ?_
  subst he
  exact ⟨_, rfl, _, _, _, [], [], [], hW', trodAll_mk1 (shut_bool Try.underlying4 _), (trodAll_cons_mk (shut_int Try.underlying3 w0) (trodAll_cons_mk (shut_int Try.underlying3 w1) (trodAll_cons_mk (shut_string Try.underlying9 w2) trodAll_mk0))), rfl, bel.frame _, fun h => by cases h⟩
theorem over : Rows.textChecksRow.holds Try.pinned (OpenSpec.ofChange Rows.textChecksSpec) :=
  OpenClaim.holds_of_wide 3 Try.f3 rfl rfl rfl rfl rfl rfl rfl ⟨rfl, rfl, rfl, rfl, rfl⟩ rfl rfl rfl rfl rfl (by kernel_rfl) Try.func3 (by kernel_rfl)
    (of_decide_eq_true (by kernel_rfl)) (by unfold Func.isWrapper; first | (rw [if_pos (by decide +kernel)]; kernel_rfl) | (rw [if_neg (by decide +kernel)]; exact ⟨rfl, rfl⟩))
    (fun os started H enc _ => lifted os started H enc)
/-- THE STATEMENT. -/
theorem proved : Rows.TextChecksSaid := over
end textChecks
end Go.Proofs.Ytlnggeggmchjcaa
