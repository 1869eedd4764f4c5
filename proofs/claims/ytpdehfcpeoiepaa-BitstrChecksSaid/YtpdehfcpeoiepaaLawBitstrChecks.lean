/- Of every length and content (of more than 300 bytes, or more than so many, the law asks only for the fixed answers): Start and Push tell the byte that the reference tells. No condition but the form of the row. -/
import Derived.Test.YtpdehfcpeoiepaaBstrAwake
import Derived.Test.YtpdehfcpeoiepaaRefBstr2
import Derived.Test.YtpdehfcpeoiepaaRows
import Derived.WalkKit
import Derived.ProofKit
import Derived.OpenShut
import Derived.ShutString
import Derived.ChangeOld
import Derived.Below
namespace Go.Proofs.Ytpdehfcpeoiepaa
open Go.ChangeShapes Go.WideShapes Go.ChangeAt Go.RowKit
open Go.ChangeMaps (open_string shut_string)
set_option linter.unusedVariables false
open Go.PlainAid in
set_option maxRecDepth 100000 in
set_option maxHeartbeats 4000000 in
theorem walkBitstrChecks (a0 : Int) (a1 : ByteArray) (b0 : -9223372036854775808 ≤ a0 ∧ a0 ≤ 9223372036854775807) (b1 : a1.size ≤ maxLen) (w : World) :
    Calls Try.prog 3 #[.int .i64 a0, .string a1] w fun e w' => e = .returned (.bool true) ∧ Below w.heap.size w w' := by
  have hb9 : (a1.size : Int) ≤ 9223372036854775807 := by unfold maxLen at b1; omega
  by_cases hl : (300 : Int) < (a1.size : Int)
  · clear b1
    go_enter Try.func3, Try.ntmps3
    go_wp2_with fail
    refine (awake12_any _).mono ?_
    rintro e w1 ⟨rfl, hB1⟩
    go_wp2_with fail
    refine (awake12_any _).mono ?_
    rintro e w2 ⟨rfl, hb⟩
    have hB2 := hB1.trans (hb.mono hB1.size)
    go_wp2
    go_returns
    exact ⟨rfl, hB2⟩
  · by_cases hm : max a0 0 < (a1.size : Int)
    · clear b1
      go_enter Try.func3, Try.ntmps3
      go_wp2_with fail
      refine (awake12_any _).mono ?_
      rintro e w1 ⟨rfl, hB1⟩
      go_wp2_with fail
      refine (awake12_any _).mono ?_
      rintro e w2 ⟨rfl, hb⟩
      have hB2 := hB1.trans (hb.mono hB1.size)
      go_wp2
      go_returns
      exact ⟨rfl, hB2⟩
    · have hl2 : (a1.size : Int) ≤ 300 := by omega
      have H0 := Lib.hid (refWrong_any a0 a1 b1 b0.2)
      have H1 := Lib.hid (bsStart_any a0)
      by_cases hn : a0 < 1
      · have hz : bsW a0 a1 = 0 := by unfold bsW; rw [if_pos hn]
        rw [hz] at H0
        rw [show decide (1 ≤ a0) = false from decide_eq_false (by omega)] at H1
        clear b1 hz
        go_enter Try.func3, Try.ntmps3
        go_wp2_with fail
        refine (awake12_any _).mono ?_
        rintro e w1 ⟨rfl, hB1⟩
        go_wp2_with fail
        refine (H0.out _).mono ?_
        rintro e w2 ⟨rfl, hb⟩
        have hB2 := hB1.trans (hb.mono hB1.size)
        clear hb hB1
        go_wp2_with fail
        refine (H1.out _).mono ?_
        rintro e w3 ⟨rfl, hb⟩
        have hB3 := hB2.trans (hb.mono hB2.size)
        clear hb hB2
        go_wp2
        have hz0 : ¬ (0 : Int) < (a1.size : Int) := by omega
        clear hn hl hm
        go_loopw [7, 38] (fun ov iv wr => ov = .bool false ∧ iv = .int .i64 0 ∧ Hid (Below w.heap.size w wr)) (fun _ _ _ => 0)
        case atStart => exact ⟨rfl, rfl, Lib.hid (hB3.alloc hB3.size _)⟩
        case round =>
          obtain ⟨rfl, rfl, HB⟩ := hrel
          go_wp2
          go_returns
          exact ⟨rfl, HB.out⟩
      · have hmx : (a1.size : Int) ≤ a0 := by omega
        have HR := bs_range a0 a1 (by omega)
        have HST := Lib.hid (fun (i : Nat) (hi : i < a1.size) h => bs_step a0 a1 i hi hmx h)
        have HGB := Lib.hid (get_bt a1)
        have HX0 := Lib.hid (bt_nonneg a1)
        have HX1 := Lib.hid (bt_le a1)
        have HU0 : bUn a1 0 = 0 := rfl
        have HU1 := Lib.hid (fun (i : Nat) => show bUn a1 (i + 1) = bt a1 0 from if_neg (by omega))
        rw [show decide (1 ≤ a0) = true from decide_eq_true (by omega), show bStart a0 = a0 from if_pos (by omega)] at H1
        generalize bsW a0 a1 = at_ at *
        generalize hfr : bUn a1 = fu at *
        have hat0 : (at_ != 0) = true := by simp; omega
        have hR2 : ¬ (0 ≤ at_ ∧ at_ ≤ 0) := by omega
        clear b1 HR hfr
        go_enter Try.func3, Try.ntmps3
        go_wp2_with fail
        refine (awake12_any _).mono ?_
        rintro e w1 ⟨rfl, hB1⟩
        go_wp2_with fail
        refine (H0.out _).mono ?_
        rintro e w2 ⟨rfl, hb⟩
        have hB2 := hB1.trans (hb.mono hB1.size)
        clear hb hB1
        go_wp2_with fail
        refine (H1.out _).mono ?_
        rintro e w3 ⟨rfl, hb⟩
        have hB3 := hB2.trans (hb.mono hB2.size)
        clear hb hB2
        go_wp2
        go_loopw [7, 38] (fun ov iv wr => ∃ (i : Nat) (ok : Bool) (x : Int) (y : Bool) (u : Int), ov = .bool ok ∧ iv = .int .i64 (i : Int) ∧ i ≤ a1.size ∧ (0 ≤ x ∧ x ≤ 9223372036854775807) ∧ (0 ≤ u ∧ u ≤ 7) ∧ Hid (Row wr w3.heap.size 25 (bSt x y u)) ∧ Hid (Below w.heap.size w wr) ∧ Hid (ok = true → x = a0 - (i : Int) ∧ y = decide (0 < i) ∧ u = fu i ∧ ¬ (0 ≤ at_ ∧ at_ ≤ (i : Int)))) (fun _ iv _ => a1.size - (intOf iv).toNat)
        case atStart => exact ⟨0, true, a0, false, 0, rfl, rfl, by omega, by omega, by decide, Lib.hid (Row.new w3 25 (bSt _ _ _)), Lib.hid (hB3.alloc hB3.size _), Lib.hid (fun _ => ⟨by simp, rfl, HU0.symm, hR2⟩)⟩
        case round =>
          obtain ⟨i, ok, x, y, u, rfl, rfl, hi, ⟨x0, x1⟩, ⟨u0, u1⟩, HRo, HB, HT⟩ := hrel
          by_cases hlt : i < a1.size
          · have hlti : (i : Int) < (a1.size : Int) := by omega
            cases ok
            · go_wp2
              go_returns
              exact ⟨rfl, HB.out⟩
            · have hbt := HGB.out i hlt
              have hx0 := HX0.out i
              have hx1 := HX1.out i
              obtain ⟨t1, t2, t3, t4⟩ := HT.out rfl
              obtain ⟨hs1, hs2⟩ := HST.out i hlt t4
              obtain ⟨z, hz⟩ : ∃ z, bt a1 i = z := ⟨_, rfl⟩
              rw [hz] at hbt hx0 hx1 hs1 hs2
              rw [← t1, ← t2, ← t3] at hs1 hs2
              have HP := Lib.hid (bsPush_any x y u z ⟨by omega, x1⟩ ⟨u0, u1⟩ ⟨hx0, hx1⟩)
              have h0 : wr.cell? ⟨w3.heap.size, 0, none⟩ = some (.int .i64 x) := HRo.out.cell 0
              have h1 : wr.cell? ⟨w3.heap.size, 1, none⟩ = some (.bool y) := HRo.out.cell 1
              have h2 : wr.cell? ⟨w3.heap.size, 2, none⟩ = some (.int .u8 u) := HRo.out.cell 2
              have f0 := HRo.out.frozen 0
              have f1 := HRo.out.frozen 1
              have f2 := HRo.out.frozen 2
              have hls := HRo.out.lt
              clear hz t1 t2 t3 HT HX0 HX1 HST HGB HU0 hR2
              by_cases hat3 : at_ = (i : Int) + 1
              · rw [hs1 hat3] at HP
                have hb : (at_ != (i : Int) + 1) = false := by simpa using hat3
                clear hat3 t4 hs1 hs2
                go_wp2
                go_region_with (go_at_call 12; refine (HP.out _).mono ?_; rintro e w5 ⟨rfl, hb5⟩; obtain ⟨hc5, hf5, hc6, hf6, hc7, hf7⟩ := bst_kept hb5 HRo.out rfl)
                all_goals
                  have HR5 := Lib.hid ((((row_kept hb5 HRo.out rfl).set 0 (.int .i64 0)).set 1 (.bool false)).set 2 (.int .u8 0))
                  have HB5 := Lib.hid ((((below_kept hb5 HB.out rfl rfl rfl rfl).setCell (p := ⟨w3.heap.size, 0, none⟩) hB3.size (.int .i64 0)).setCell (p := ⟨w3.heap.size, 1, none⟩) hB3.size (.bool false)).setCell (p := ⟨w3.heap.size, 2, none⟩) hB3.size (.int .u8 0))
                  clear hb5 hc5 hf5 hc6 hf6 hc7 hf7 h0 f0 h1 f1 h2 f2 hls
                  go_wp2
                  go_roundw
                  case rel => exact ⟨i + 1, false, 0, false, 0, rfl, by simp, by omega, by omega, by decide, HR5, HB5, Lib.hid (by intro h; cases h)⟩
                  case measure => simp [intOf]; omega
              · obtain ⟨hs3, hs4⟩ := hs2 hat3
                rw [hs3] at HP
                have hb : (at_ != (i : Int) + 1) = true := by simpa using hat3
                have HT3 : Hid (¬ (0 ≤ at_ ∧ at_ ≤ ((i + 1 : Nat) : Int))) := Lib.hid (by omega)
                have hu0 := bt_nonneg a1 0
                rw [← HU1.out i] at HP hs4 hu0
                obtain ⟨x', hx'⟩ : ∃ x', a0 - ((i + 1 : Nat) : Int) = x' := ⟨_, rfl⟩
                obtain ⟨u', hu'⟩ : ∃ u', fu (i + 1) = u' := ⟨_, rfl⟩
                rw [hx', hu'] at HP
                rw [hu'] at hs4 hu0
                have hx0' : 0 ≤ x' ∧ x' ≤ 9223372036854775807 := by omega
                have HX := Lib.hid hx'
                have HU := Lib.hid hu'
                clear hat3 t4 hs1 hs2 hs3 hx' hu'
                go_wp2
                go_region_with (go_at_call 12; refine (HP.out _).mono ?_; rintro e w5 ⟨rfl, hb5⟩; obtain ⟨hc5, hf5, hc6, hf6, hc7, hf7⟩ := bst_kept hb5 HRo.out rfl)
                all_goals
                  have HR5 := Lib.hid ((((row_kept hb5 HRo.out rfl).set 0 (.int .i64 x')).set 1 (.bool true)).set 2 (.int .u8 u'))
                  have HB5 := Lib.hid ((((below_kept hb5 HB.out rfl rfl rfl rfl).setCell (p := ⟨w3.heap.size, 0, none⟩) hB3.size (.int .i64 x')).setCell (p := ⟨w3.heap.size, 1, none⟩) hB3.size (.bool true)).setCell (p := ⟨w3.heap.size, 2, none⟩) hB3.size (.int .u8 u'))
                  clear hb5 hc5 hf5 hc6 hf6 hc7 hf7 h0 f0 h1 f1 h2 f2 hls
                  go_wp2
                  go_roundw
                  case rel => exact ⟨i + 1, true, x', true, u', rfl, by simp, by omega, hx0', ⟨hu0, hs4⟩, HR5, HB5, Lib.hid (fun _ => ⟨HX.out.symm, by simp, HU.out.symm, HT3.out⟩)⟩
                  case measure => simp [intOf]; omega
          · have hne : ¬ (i : Int) < (a1.size : Int) := by omega
            go_wp2
            go_returns
            exact ⟨rfl, HB.out⟩


/-! ### BitstrChecks: the step from the walk to the statement -/
namespace bitstrChecks
theorem own : ownKnob Try.prog.godebug = none := by kernel_rfl
set_option maxRecDepth 100000 in
theorem lifted (os : Os) (started : os.Started) (H : Type) (enc : TypeId × Value → H) :
    ReturnsInHanded {} Try.checked os 3 .any (Rows.bitstrChecksSpec.pre6 enc Try.prog Try.f3 Rows.bitstrChecksRow.domain false) (Rows.bitstrChecksSpec.post enc Try.prog Try.f3 false true false false) := by
  refine returnsInHanded_of_change (C := Try.checked) own started (by kernel_rfl) Try.func3
    (ChangeSpec.witness6 (enc := enc) (C := Try.checked) false ⟨#[], #[.int .i64 0, .string ByteArray.empty], []⟩ 8 (by kernel_rfl) (by kernel_rfl) (by kernel_rfl) (by kernel_rfl)) ?_
  intro W base args ds gs before hval0 hW hcnd _
  have hval : ∀ (j : Nat) t v, Try.f3.params[j]? = some t → args[j]? = some v → Value.okWide Try.prog W .any base t v := hval0
  have hW' := hW
  obtain ⟨p, q, hA0, hV, rfl, hfz, hnd⟩ := hW
  have hA : DataW.TrodAll enc Try.prog W 0 (fun _ => true) true Try.f3.params.toList args.toList ds p := hA0
  rw [Try.params3] at hA hval
  obtain ⟨v0, vs0, d0, ds0, p0, q0, hargs, rfl, rfl, h0, r0⟩ := trodAll_cons hA
  obtain ⟨v1, vs1, d1, ds1, p1, q1, rfl, rfl, rfl, h1, r1⟩ := trodAll_cons r0
  obtain ⟨rfl, rfl, rfl⟩ := trodAll_nil r1
  obtain rfl : args = #[v0, v1] := by cases args; simp_all
  obtain ⟨rfl, rfl⟩ := trodVars_none hV
  obtain ⟨a0, rfl, rfl, rfl, w0⟩ := open_int Try.underlying3 (hval 0 3 v0 rfl rfl) h0
  obtain ⟨a1, rfl, rfl, rfl, w1⟩ := open_string Try.underlying9 (hval 1 9 v1 rfl rfl) h1
  clear hA0 hval0
  simp only [List.append_nil] at hW'
  refine (walkBitstrChecks a0 a1 (bounds_i64 w0) w1 W).mono fun e W' ⟨he, bel⟩ => ?_
  subst he
  exact ⟨_, rfl, _, _, _, [], [], [], hW', trodAll_mk1 (shut_bool Try.underlying4 _), (trodAll_cons_mk (shut_int Try.underlying3 w0) (trodAll_cons_mk (shut_string Try.underlying9 w1) trodAll_mk0)), rfl, bel.frame _, fun h => by cases h⟩
theorem over : Rows.bitstrChecksRow.holds Try.pinned (OpenSpec.ofChange Rows.bitstrChecksSpec) :=
  OpenClaim.holds_of_wide 3 Try.f3 rfl rfl rfl rfl rfl rfl rfl ⟨rfl, rfl, rfl, rfl, rfl⟩ rfl rfl rfl rfl rfl (by kernel_rfl) Try.func3 (by kernel_rfl)
    (of_decide_eq_true (by kernel_rfl)) (by unfold Func.isWrapper; first | (rw [if_pos (by decide +kernel)]; kernel_rfl) | (rw [if_neg (by decide +kernel)]; exact ⟨rfl, rfl⟩))
    (fun os started H enc _ => lifted os started H enc)
/-- THE STATEMENT. -/
theorem proved : Rows.BitstrChecksSaid := over
end bitstrChecks
end Go.Proofs.Ytpdehfcpeoiepaa
