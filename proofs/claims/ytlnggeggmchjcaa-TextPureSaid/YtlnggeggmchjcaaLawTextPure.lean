/- Of every tag, content and byte (of more than 100 bytes the law asks only for the fixed answers): a State that is pushed stays as it was. No condition but the form of the row. -/
import Derived.Test.YtlnggeggmchjcaaTextAwake
import Derived.Test.YtlnggeggmchjcaaRefText4
import Derived.Test.YtlnggeggmchjcaaRows
import Derived.WalkKit
import Derived.Deep.CutRange
import Derived.Deep.LoopGhost
import Derived.ProofKit
import Derived.OpenShut
import Derived.ShutString
import Derived.ChangeOld
import Derived.Below
namespace Go.Proofs.Ytlnggeggmchjcaa
open Go.ChangeShapes Go.WideShapes Go.ChangeAt Go.RowKit
open Go.ChangeMaps (open_string shut_string)
set_option linter.unusedVariables false
open Go.PlainAid in
set_option maxRecDepth 100000 in
set_option maxHeartbeats 40000000 in
theorem walkTextPure (a0 : Int) (a1 : ByteArray) (a2 : Int) (b0 : -9223372036854775808 ≤ a0 ∧ a0 ≤ 9223372036854775807) (b1 : a1.size ≤ maxLen) (b2 : 0 ≤ a2 ∧ a2 ≤ 255) (w : World) :
    Calls Try.prog 7 #[.int .i64 a0, .string a1, .int .u8 a2] w fun e w' => e = .returned (.bool true) ∧ Below w.heap.size w w' := by
  have hb9 : (a1.size : Int) ≤ 9223372036854775807 := by unfold maxLen at b1; omega
  by_cases hl : (100 : Int) < (a1.size : Int)
  · clear b1 b2
    go_enter Try.func7, Try.ntmps7
    go_wp2_with fail
    refine (awake14_any _).mono ?_
    rintro e w1 ⟨rfl, hB1⟩
    go_wp2_with fail
    refine (awake14_any _).mono ?_
    rintro e w2 ⟨rfl, hb⟩
    have hB2 := hB1.trans (hb.mono hB1.size)
    clear hb hB1
    go_wp2
    go_returns
    exact ⟨rfl, hB2⟩
  · have hl2 : (a1.size : Int) ≤ 100 := by omega
    have H1 := Lib.hid (textStart_yes a0 (a1.size : Int) (by omega))
    have H0 := Lib.hid (refTextWrong_any a0 a1.size a1 (by omega))
    have HA0 : Hid (TAt a0 a1.size (bl a1) 0 ⟨a0, a1.size, 0, 0, 0⟩ true) := Lib.hid (tAt_start (by omega))
    have HST := Lib.hid (fun (i : Nat) (S : TS) (h : TAt a0 a1.size (bl a1) i S true) (hi : i < (bl a1).length) => tAt_step h hi)
    have HSZ := Lib.hid (bl_length a1)
    have HGB := Lib.hid (get_bt a1)
    have HX := Lib.hid (fun (i : Nat) => (⟨bt_nonneg a1 i, bt_le a1 i⟩ : 0 ≤ bt a1 i ∧ bt a1 i ≤ 255))
    have HBL := Lib.hid (fun (i : Nat) (hi : i < (bl a1).length) => bl_get a1 i hi)
    have HWR := Lib.hid (fun (i : Nat) (S S' : TS) (ok : Bool) (h : TAt a0 a1.size (bl a1) i S true) (h2 : TAt a0 a1.size (bl a1) (i + 1) S' ok) => tAt_wrong h h2)
    have HNO := Lib.hid (fun (i : Nat) (S : TS) (h : TAt a0 a1.size (bl a1) i S false) => tAt_false h)
    generalize txW a0 a1.size (bl a1) = at_ at *
    clear b1
    go_enter Try.func7, Try.ntmps7
    go_wp2_with fail
    refine (awake14_any _).mono ?_
    rintro e w1 ⟨rfl, hB1⟩
    go_wp2_with fail
    refine (H1.out _).mono ?_
    rintro e w2 ⟨rfl, hb⟩
    have hB2 := hB1.trans (hb.mono hB1.size)
    clear hb hB1
    have HR2 := Lib.hid (Row.new w2 27 (tC5 a0 a1.size 0 0 0))
    have HB2 := Lib.hid (hB2.alloc hB2.size (.cells #[.int .i64 a0, .int .i64 a1.size, .int .i64 0, .int .u8 0, .int .u8 0] 27))
    go_wp2_with fail
    refine (H0.out _).mono ?_
    rintro e w3 ⟨rfl, hb⟩
    have HR3 := Lib.hid (HR2.out.below hb HR2.out.lt)
    have HB3 := Lib.hid (HB2.out.trans (hb.mono HB2.out.size))
    clear hb HR2 HB2
    go_wp2
    go_loopg [37, 8] a1.size (fun gk iv ov wr => ∃ (i : Nat) (ok : Bool) (p q v y m : Int), iv = .int .i64 (i : Int) ∧ ov = .bool ok ∧ i ≤ a1.size ∧ a1.size - i ≤ gk ∧ Hid (Row wr w2.heap.size 27 (tC5 p q v y m)) ∧ Hid (Below w.heap.size w wr) ∧ Hid (TAt a0 a1.size (bl a1) i ⟨p, q, v, y, m⟩ ok))
    case atStart => exact ⟨0, true, a0, a1.size, 0, 0, 0, rfl, rfl, by omega, by omega, HR3, HB3, HA0⟩
    case round =>
      clear HR3 HB3 HA0
      obtain ⟨i, ok, p, q, v, y, m, rfl, rfl, hi, hgk, HR, HB, HT⟩ := hrel
      by_cases hlt : i < a1.size
      · have hlti : (i : Int) < (a1.size : Int) := by omega
        cases ok
        · obtain ⟨n0, n1⟩ := HNO.out i _ HT.out
          go_wp2
          go_returns
          exact ⟨rfl, HB.out⟩
        · skip
          have hbt := HGB.out i hlt
          have hll : i < (bl a1).length := by rw [HSZ.out]; exact hlt
          have hz2 := HBL.out i hll
          obtain ⟨⟨p', q', v', y', m'⟩, ok', hst⟩ : ∃ (S : TS) (d : Bool), tStep a0 a1.size (bl a1) i = (S, d) := ⟨_, _, rfl⟩
          have HT2 := Lib.hid (HST.out i _ HT.out hll)
          rw [hst] at HT2
          have HP := Lib.hid (tPush_is HT.out hll (by rw [HSZ.out]; omega) (by omega) (by rw [hz2]; exact HX.out i) hst)
          rw [hz2] at HP
          have hx := HX.out i
          obtain ⟨pb, qb, vb, yb, mb, okb, hq⟩ := tPush_some HT.out hll (by rw [HSZ.out]; omega) (by omega) a2 b2
          have HQ := Lib.hid hq
          have hwr := HWR.out i _ _ _ HT.out HT2.out
          generalize bt a1 i = z at *
          obtain ⟨hx0, hx1⟩ := hx
          clear hst hz2 hq HT HWR HNO HST HGB HX HBL
          have h0 : wr.cell? ⟨w2.heap.size, 0, none⟩ = some (.int .i64 p) := HR.out.cell 0
          have h1 : wr.cell? ⟨w2.heap.size, 1, none⟩ = some (.int .i64 q) := HR.out.cell 1
          have h2 : wr.cell? ⟨w2.heap.size, 2, none⟩ = some (.int .i64 v) := HR.out.cell 2
          have h3 : wr.cell? ⟨w2.heap.size, 3, none⟩ = some (.int .u8 y) := HR.out.cell 3
          have h4 : wr.cell? ⟨w2.heap.size, 4, none⟩ = some (.int .u8 m) := HR.out.cell 4
          have f0 := HR.out.frozen 0
          have f1 := HR.out.frozen 1
          have f2 := HR.out.frozen 2
          have f3 := HR.out.frozen 3
          have f4 := HR.out.frozen 4
          have hls := HR.out.lt
          go_wp2_with fail
          refine (HQ.out _).mono ?_
          rintro e w5 ⟨rfl, hb⟩
          have HR5 := Lib.hid (HR.out.below hb HR.out.lt)
          have HB5 := Lib.hid (HB.out.trans (hb.mono HB.out.size))
          clear hb h0 f0 h1 f1 h2 f2 h3 f3 h4 f4 hls HR HB HQ
          have h0 : w5.cell? ⟨w2.heap.size, 0, none⟩ = some (.int .i64 p) := HR5.out.cell 0
          have h1 : w5.cell? ⟨w2.heap.size, 1, none⟩ = some (.int .i64 q) := HR5.out.cell 1
          have h2 : w5.cell? ⟨w2.heap.size, 2, none⟩ = some (.int .i64 v) := HR5.out.cell 2
          have h3 : w5.cell? ⟨w2.heap.size, 3, none⟩ = some (.int .u8 y) := HR5.out.cell 3
          have h4 : w5.cell? ⟨w2.heap.size, 4, none⟩ = some (.int .u8 m) := HR5.out.cell 4
          have f0 := HR5.out.frozen 0
          have f1 := HR5.out.frozen 1
          have f2 := HR5.out.frozen 2
          have f3 := HR5.out.frozen 3
          have f4 := HR5.out.frozen 4
          have hls := HR5.out.lt
          have hne0 : w2.heap.size ≠ w5.heap.size := by have := HR5.out.lt; omega
          have hsw := HB5.out.size
          go_upto_region 11 with fail
          go_cut [11, 12] from 38 to 81 (fun pv kv wx => ∃ g : Nat, pv = .pointer (some ⟨g, 0, none⟩) ∧ kv = .bool ok' ∧ Hid (Row wx g 27 (tC5 p' q' v' y' m')) ∧ Hid (Row wx w2.heap.size 27 (tC5 p q v y m)) ∧ Hid (Below w.heap.size w wx))
          case first =>
            go_region_with (go_at_call 11; refine (HP.out _).mono ?_; rintro e w9 ⟨rfl, hb9⟩; first | (have hk9 := t5_new_kept hb9; obtain ⟨hc0, hf0, hc1, hf1, hc2, hf2, hc3, hf3, hc4, hf4⟩ := hk9) | (have hk9 := t5_new_kept2 hb9; obtain ⟨hc0, hf0, hc1, hf1, hc2, hf2, hc3, hf3, hc4, hf4⟩ := hk9) | skip)
            all_goals
              go_wp2_with fail
              go_meet
              case rel =>
                first
                | (refine ⟨w9.heap.size, by rfl, by rfl, ?_, ?_, ?_⟩
                   · exact Lib.hid (Row.new w9 27 (tC5 _ _ _ _ _))
                   · exact Lib.hid ((txRow_kept hb9 HR5.out rfl).alloc _)
                   · exact Lib.hid ((txBelow_kept hb9 HB5.out rfl rfl rfl rfl).alloc (txBelow_kept hb9 HB5.out rfl rfl rfl rfl).size _))
                | (refine ⟨w5.heap.size, by rfl, by rfl, ?_, ?_, ?_⟩
                   · exact Lib.hid (row5t (txRow_kept hb9 (Row.new w5 27 (tC5 0 0 0 0 0)) rfl) (.int .i64 p') (.int .i64 q') (.int .i64 v') (.int .u8 y') (.int .u8 m'))
                   · exact Lib.hid (row5t_far (txRow_kept hb9 (HR5.out.alloc (.cells #[.int .i64 0, .int .i64 0, .int .i64 0, .int .u8 0, .int .u8 0] 27)) rfl) hne0 (.int .i64 p') (.int .i64 q') (.int .i64 v') (.int .u8 y') (.int .u8 m'))
                   · exact Lib.hid (below5t (txBelow_kept hb9 (HB5.out.alloc hsw (.cells #[.int .i64 0, .int .i64 0, .int .i64 0, .int .u8 0, .int .u8 0] 27)) rfl rfl rfl rfl) hsw (.int .i64 p') (.int .i64 q') (.int .i64 v') (.int .u8 y') (.int .u8 m')))
          case rest =>
            obtain ⟨g6, rfl, rfl, HT6, HR6, HB6⟩ := hcut
            clear h0 f0 h1 f1 h2 f2 h3 f3 h4 f4 hls hne0 hsw HR5 HB5
            have h0 : wc.cell? ⟨w2.heap.size, 0, none⟩ = some (.int .i64 p) := HR6.out.cell 0
            have h1 : wc.cell? ⟨w2.heap.size, 1, none⟩ = some (.int .i64 q) := HR6.out.cell 1
            have h2 : wc.cell? ⟨w2.heap.size, 2, none⟩ = some (.int .i64 v) := HR6.out.cell 2
            have h3 : wc.cell? ⟨w2.heap.size, 3, none⟩ = some (.int .u8 y) := HR6.out.cell 3
            have h4 : wc.cell? ⟨w2.heap.size, 4, none⟩ = some (.int .u8 m) := HR6.out.cell 4
            have f0 := HR6.out.frozen 0
            have f1 := HR6.out.frozen 1
            have f2 := HR6.out.frozen 2
            have f3 := HR6.out.frozen 3
            have f4 := HR6.out.frozen 4
            have hls := HR6.out.lt
            have hne0 : w2.heap.size ≠ wc.heap.size := by have := HR6.out.lt; omega
            have hne1 : g6 ≠ wc.heap.size := by have := HT6.out.lt; omega
            have hsw := HB6.out.size
            go_upto_region 12 with fail
            go_cut [13, 14] from 38 to 81 (fun pv kv wx => ∃ g : Nat, pv = .pointer (some ⟨g, 0, none⟩) ∧ kv = .bool ok' ∧ Hid (Row wx g 27 (tC5 p' q' v' y' m')) ∧ Hid (Row wx w2.heap.size 27 (tC5 p q v y m)) ∧ Hid (Row wx g6 27 (tC5 p' q' v' y' m')) ∧ Hid (Below w.heap.size w wx))
            case first =>
              go_region_with (go_at_call 11; refine (HP.out _).mono ?_; rintro e w9 ⟨rfl, hb9⟩; first | (have hk9 := t5_new_kept hb9; obtain ⟨hc0, hf0, hc1, hf1, hc2, hf2, hc3, hf3, hc4, hf4⟩ := hk9) | (have hk9 := t5_new_kept2 hb9; obtain ⟨hc0, hf0, hc1, hf1, hc2, hf2, hc3, hf3, hc4, hf4⟩ := hk9) | skip)
              all_goals
                go_wp2_with fail
                go_meet
                case rel =>
                  first
                  | (refine ⟨w9.heap.size, by rfl, by rfl, ?_, ?_, ?_, ?_⟩
                     · exact Lib.hid (Row.new w9 27 (tC5 _ _ _ _ _))
                     · exact Lib.hid ((txRow_kept hb9 HR6.out rfl).alloc _)
                     · exact Lib.hid ((txRow_kept hb9 HT6.out rfl).alloc _)
                     · exact Lib.hid ((txBelow_kept hb9 HB6.out rfl rfl rfl rfl).alloc (txBelow_kept hb9 HB6.out rfl rfl rfl rfl).size _))
                  | (refine ⟨wc.heap.size, by rfl, by rfl, ?_, ?_, ?_, ?_⟩
                     · exact Lib.hid (row5t (txRow_kept hb9 (Row.new wc 27 (tC5 0 0 0 0 0)) rfl) (.int .i64 p') (.int .i64 q') (.int .i64 v') (.int .u8 y') (.int .u8 m'))
                     · exact Lib.hid (row5t_far (txRow_kept hb9 (HR6.out.alloc (.cells #[.int .i64 0, .int .i64 0, .int .i64 0, .int .u8 0, .int .u8 0] 27)) rfl) hne0 (.int .i64 p') (.int .i64 q') (.int .i64 v') (.int .u8 y') (.int .u8 m'))
                     · exact Lib.hid (row5t_far (txRow_kept hb9 (HT6.out.alloc (.cells #[.int .i64 0, .int .i64 0, .int .i64 0, .int .u8 0, .int .u8 0] 27)) rfl) hne1 (.int .i64 p') (.int .i64 q') (.int .i64 v') (.int .u8 y') (.int .u8 m'))
                     · exact Lib.hid (below5t (txBelow_kept hb9 (HB6.out.alloc hsw (.cells #[.int .i64 0, .int .i64 0, .int .i64 0, .int .u8 0, .int .u8 0] 27)) rfl rfl rfl rfl) hsw (.int .i64 p') (.int .i64 q') (.int .i64 v') (.int .u8 y') (.int .u8 m')))
            case rest =>
              obtain ⟨g7, rfl, rfl, HT7, HR7, HT8, HB7⟩ := hcut
              clear h0 f0 h1 f1 h2 f2 h3 f3 h4 f4 hls hne0 hne1 hsw HR6 HB6 HT6 HP
              have c0 : wc.cell? ⟨w2.heap.size, 0, none⟩ = some (.int .i64 p) := HR7.out.cell 0
              have c1 : wc.cell? ⟨w2.heap.size, 1, none⟩ = some (.int .i64 q) := HR7.out.cell 1
              have c2 : wc.cell? ⟨w2.heap.size, 2, none⟩ = some (.int .i64 v) := HR7.out.cell 2
              have c3 : wc.cell? ⟨w2.heap.size, 3, none⟩ = some (.int .u8 y) := HR7.out.cell 3
              have c4 : wc.cell? ⟨w2.heap.size, 4, none⟩ = some (.int .u8 m) := HR7.out.cell 4
              have e0 := HR7.out.frozen 0
              have e1 := HR7.out.frozen 1
              have e2 := HR7.out.frozen 2
              have e3 := HR7.out.frozen 3
              have e4 := HR7.out.frozen 4
              have d0 : wc.cell? ⟨g6, 0, none⟩ = some (.int .i64 p') := HT8.out.cell 0
              have d1 : wc.cell? ⟨g6, 1, none⟩ = some (.int .i64 q') := HT8.out.cell 1
              have d2 : wc.cell? ⟨g6, 2, none⟩ = some (.int .i64 v') := HT8.out.cell 2
              have d3 : wc.cell? ⟨g6, 3, none⟩ = some (.int .u8 y') := HT8.out.cell 3
              have d4 : wc.cell? ⟨g6, 4, none⟩ = some (.int .u8 m') := HT8.out.cell 4
              have j0 := HT8.out.frozen 0
              have j1 := HT8.out.frozen 1
              have j2 := HT8.out.frozen 2
              have j3 := HT8.out.frozen 3
              have j4 := HT8.out.frozen 4
              have hl1 := HT8.out.lt
              have hl2' := HR7.out.lt
              by_cases hat3 : at_ = (i : Int) + 1
              · skip
                obtain rfl := hwr.1 hat3
                have hv : (at_ != (i : Int) + 1) = false := by simpa using hat3
                clear hat3 hwr
                go_wp2
                go_roundg (a1.size - (i + 1))
                case measure => omega
                case rel => exact ⟨i + 1, false, p', q', v', y', m', by simp, rfl, by omega, by omega, Lib.hid (row5t HR7.out (.int .i64 p') (.int .i64 q') (.int .i64 v') (.int .u8 y') (.int .u8 m')), Lib.hid (below5t HB7.out hB2.size (.int .i64 p') (.int .i64 q') (.int .i64 v') (.int .u8 y') (.int .u8 m')), HT2⟩
              · skip
                obtain rfl : ok' = true := by
                  cases ok'
                  · exact absurd (hwr.2 rfl) hat3
                  · rfl
                have hv : (at_ != (i : Int) + 1) = true := by simpa using hat3
                clear hat3 hwr
                go_wp2
                go_roundg (a1.size - (i + 1))
                case measure => omega
                case rel => exact ⟨i + 1, true, p', q', v', y', m', by simp, rfl, by omega, by omega, Lib.hid (row5t HR7.out (.int .i64 p') (.int .i64 q') (.int .i64 v') (.int .u8 y') (.int .u8 m')), Lib.hid (below5t HB7.out hB2.size (.int .i64 p') (.int .i64 q') (.int .i64 v') (.int .u8 y') (.int .u8 m')), HT2⟩
      · have hne : ¬ (i : Int) < (a1.size : Int) := by omega
        go_wp2
        go_returns
        exact ⟨rfl, HB.out⟩


/-! ### TextPure: the step from the walk to the statement -/
namespace textPure
theorem own : ownKnob Try.prog.godebug = none := by kernel_rfl
set_option maxRecDepth 100000 in
theorem lifted (os : Os) (started : os.Started) (H : Type) (enc : TypeId × Value → H) :
    ReturnsInHanded {} Try.checked os 7 .any (Rows.textPureSpec.pre6 enc Try.prog Try.f7 Rows.textPureRow.domain false) (Rows.textPureSpec.post enc Try.prog Try.f7 false true false false) := by
  refine returnsInHanded_of_change (C := Try.checked) own started (by kernel_rfl) Try.func7
    (ChangeSpec.witness6 (enc := enc) (C := Try.checked) false ⟨#[], #[.int .i64 0, .string ByteArray.empty, .int .u8 0], []⟩ 8 (by kernel_rfl) (by kernel_rfl) (by kernel_rfl) (by kernel_rfl)) ?_
  intro W base args ds gs before hval0 hW hcnd _
  have hval : ∀ (j : Nat) t v, Try.f7.params[j]? = some t → args[j]? = some v → Value.okWide Try.prog W .any base t v := hval0
  have hW' := hW
  obtain ⟨p, q, hA0, hV, rfl, hfz, hnd⟩ := hW
  have hA : DataW.TrodAll enc Try.prog W 0 (fun _ => true) true Try.f7.params.toList args.toList ds p := hA0
  rw [Try.params7] at hA hval
  obtain ⟨v0, vs0, d0, ds0, p0, q0, hargs, rfl, rfl, h0, r0⟩ := trodAll_cons hA
  obtain ⟨v1, vs1, d1, ds1, p1, q1, rfl, rfl, rfl, h1, r1⟩ := trodAll_cons r0
  obtain ⟨v2, vs2, d2, ds2, p2, q2, rfl, rfl, rfl, h2, r2⟩ := trodAll_cons r1
  obtain ⟨rfl, rfl, rfl⟩ := trodAll_nil r2
  obtain rfl : args = #[v0, v1, v2] := by cases args; simp_all
  obtain ⟨rfl, rfl⟩ := trodVars_none hV
  obtain ⟨a0, rfl, rfl, rfl, w0⟩ := open_int Try.underlying3 (hval 0 3 v0 rfl rfl) h0
  obtain ⟨a1, rfl, rfl, rfl, w1⟩ := open_string Try.underlying9 (hval 1 9 v1 rfl rfl) h1
  obtain ⟨a2, rfl, rfl, rfl, w2⟩ := open_int Try.underlying5 (hval 2 5 v2 rfl rfl) h2
  clear hA0 hval0
  simp only [List.append_nil] at hW'
  refine (walkTextPure a0 a1 a2 (bounds_i64 w0) w1 (bounds_u8 w2) W).mono fun e W' ⟨he, bel⟩ => ?_
  subst he
  exact ⟨_, rfl, _, _, _, [], [], [], hW', trodAll_mk1 (shut_bool Try.underlying4 _), (trodAll_cons_mk (shut_int Try.underlying3 w0) (trodAll_cons_mk (shut_string Try.underlying9 w1) (trodAll_cons_mk (shut_int Try.underlying5 w2) trodAll_mk0))), rfl, bel.frame _, fun h => by cases h⟩
theorem over : Rows.textPureRow.holds Try.pinned (OpenSpec.ofChange Rows.textPureSpec) :=
  OpenClaim.holds_of_wide 7 Try.f7 rfl rfl rfl rfl rfl rfl rfl ⟨rfl, rfl, rfl, rfl, rfl⟩ rfl rfl rfl rfl rfl (by kernel_rfl) Try.func7 (by kernel_rfl)
    (of_decide_eq_true (by kernel_rfl)) (by unfold Func.isWrapper; first | (rw [if_pos (by decide +kernel)]; kernel_rfl) | (rw [if_neg (by decide +kernel)]; exact ⟨rfl, rfl⟩))
    (fun os started H enc _ => lifted os started H enc)
/-- THE STATEMENT. -/
theorem proved : Rows.TextPureSaid := over
end textPure
end Go.Proofs.Ytlnggeggmchjcaa
