/- Of every content and length (of more than 300 bytes, and of what is wrong, the law asks only for the fixed answers): each beginning is not wrong, and is a whole just if it ends with a number. No condition but the form of the row. -/
import Derived.Test.YtjdkpdaekmogkaaOidAwake
import Derived.Test.YtjdkpdaekmogkaaOidFront
import Derived.Test.YtjdkpdaekmogkaaRows
import Derived.WalkKit
import Derived.ProofKit
import Derived.OpenShut
import Derived.ShutString
import Derived.ChangeOld
import Derived.Below
namespace Go.Proofs.Ytjdkpdaekmogkaa
open Go.ChangeShapes Go.WideShapes Go.ChangeAt Go.RowKit
open Go.ChangeMaps (open_string shut_string)
set_option linter.unusedVariables false
open Go.PlainAid in
set_option maxRecDepth 100000 in
set_option maxHeartbeats 4000000 in
theorem walkOidFront (a0 : ByteArray) (a1 : Int) (b0 : a0.size ≤ maxLen) (b1 : -9223372036854775808 ≤ a1 ∧ a1 ≤ 9223372036854775807) (w : World) :
    Calls Try.prog 8 #[.string a0, .int .i64 a1] w fun e w' => e = .returned (.bool true) ∧ Below w.heap.size w w' := by
  have hb9 : (a0.size : Int) ≤ 9223372036854775807 := by unfold maxLen at b0; omega
  by_cases hl : (300 : Int) < (a0.size : Int)
  · clear b0
    go_enter Try.func8, Try.ntmps8
    go_wp2_with fail
    refine (awake11_any _).mono ?_
    rintro e w1 ⟨rfl, hB1⟩
    go_wp2_with fail
    refine (awake11_any _).mono ?_
    rintro e w2 ⟨rfl, hb⟩
    have hB2 := hB1.trans (hb.mono hB1.size)
    go_wp2
    go_returns
    exact ⟨rfl, hB2⟩
  · have hl2 : (a0.size : Int) ≤ 300 := by omega
    have H0 := Lib.hid (refOidWrong_any a0.size a0 b0 (by omega))
    by_cases hw : oidWrong a0.size (bl a0) = -1
    · rw [hw] at H0
      by_cases hn1 : a1 < 1
      · clear b0 hw
        go_enter Try.func8, Try.ntmps8
        go_wp2_with fail
        refine (awake11_any _).mono ?_
        rintro e w1 ⟨rfl, hB1⟩
        go_wp2_with fail
        refine (H0.out _).mono ?_
        rintro e w' ⟨rfl, rfl⟩
        go_wp2_with fail
        refine (awake11_any _).mono ?_
        rintro e w2 ⟨rfl, hb⟩
        have hB2 := hB1.trans (hb.mono hB1.size)
        clear hb hB1
        go_wp2
        go_returns
        exact ⟨rfl, hB2⟩
      · by_cases hn2 : (a0.size : Int) < a1
        · clear b0 hw
          go_enter Try.func8, Try.ntmps8
          go_wp2_with fail
          refine (awake11_any _).mono ?_
          rintro e w1 ⟨rfl, hB1⟩
          go_wp2_with fail
          refine (H0.out _).mono ?_
          rintro e w' ⟨rfl, rfl⟩
          go_wp2_with fail
          refine (awake11_any _).mono ?_
          rintro e w2 ⟨rfl, hb⟩
          have hB2 := hB1.trans (hb.mono hB1.size)
          clear hb hB1
          go_wp2
          go_returns
          exact ⟨rfl, hB2⟩
        · obtain ⟨n, rfl⟩ : ∃ n : Nat, a1 = (n : Int) + 1 := ⟨(a1 - 1).toNat, by omega⟩
          have hns : n < a0.size := by omega
          have hat : oW a0.size true 0 (bl a0) = -1 := by rw [← hw]; unfold oidWrong; rw [if_neg (by omega)]
          have H1 := Lib.hid (oidStart_any a0.size)
          have H2 := Lib.hid (oidStart_any ((n : Int) + 1))
          have HS := Lib.hid (fun (i : Nat) (hi : i < a0.size) => (bl_get a0 i (by rw [bl_length]; exact hi)) ▸ oid_right (bl a0) (by rw [bl_length]; exact hat) i (by rw [bl_length]; exact hi))
          have HT := Lib.hid (fun (i : Nat) (hi : i < a0.size) h => (bl_get a0 i (by rw [bl_length]; exact hi)) ▸ oid_part ((n : Int) + 1) (bl a0) (by rw [bl_length]; exact hat) i (by rw [bl_length]; exact hi) h)
          simp only [bl_length] at HS
          have HGB := Lib.hid (get_bt a0)
          have HX0 := Lib.hid (bt_nonneg a0)
          have HX1 := Lib.hid (bt_le a0)
          rw [show decide (1 ≤ (a0.size : Int)) = true from decide_eq_true (by omega), show oStart (a0.size : Int) = a0.size from if_pos (by omega)] at H1
          rw [show decide (1 ≤ (n : Int) + 1) = true from decide_eq_true (by omega), show oStart ((n : Int) + 1) = (n : Int) + 1 from if_pos (by omega)] at H2
          generalize hfr : oFresh (bl a0) = fr at *
          have hf0 : fr 0 = true := by rw [← hfr]; rfl
          have hnx := HX0.out n
          have hbn := HGB.out n hns
          obtain ⟨lo, hlo⟩ : ∃ lo, bt a0 n = lo := ⟨_, rfl⟩
          have HLO := Lib.hid hlo
          rw [hlo] at hbn
          clear b0 hw hat hfr hlo
          go_enter Try.func8, Try.ntmps8
          go_wp2_with fail
          refine (awake11_any _).mono ?_
          rintro e w1 ⟨rfl, hB1⟩
          go_wp2_with fail
          refine (H0.out _).mono ?_
          rintro e w' ⟨rfl, rfl⟩
          go_wp2_with fail
          refine (H1.out _).mono ?_
          rintro e w2 ⟨rfl, hb⟩
          have hB2 := hB1.trans (hb.mono hB1.size)
          clear hb hB1
          have HR2 := Lib.hid (Row.new w2 25 (oSt a0.size false))
          have hB2b := hB2.alloc hB2.size (.cells #[.int .i64 (a0.size : Int), .bool false] 25)
          go_wp2_with fail
          refine (H2.out _).mono ?_
          rintro e w3 ⟨rfl, hb⟩
          have hs23 : w2.heap.size < w3.heap.size := Nat.lt_of_lt_of_le (by simp) hb.size
          have HR3 := Lib.hid ((HR2.out.below hb HR2.out.lt).alloc (.cells #[.int .i64 ((n : Int) + 1), .bool false] 25))
          have hB3 := hB2b.trans (hb.mono hB2b.size)
          have HT3 := Lib.hid (Row.new w3 25 (oSt ((n : Int) + 1) false))
          have hB3b := hB3.alloc hB3.size (.cells #[.int .i64 ((n : Int) + 1), .bool false] 25)
          have h2s := hB2.size
          have h3s := hB3.size
          clear hb hB2b HR2
          go_wp2
          clear H0 H1 H2
          go_loopw [6, 8, 9] (fun kv sv iv wr => ∃ (i : Nat) (is : Bool) (x : Int) (y : Bool), kv = .bool true ∧ sv = .bool is ∧ iv = .int .i64 (i : Int) ∧ i ≤ n + 1 ∧ (0 ≤ x ∧ x ≤ 9223372036854775807) ∧ Hid (Row wr w2.heap.size 25 (oSt ((a0.size : Int) - (i : Int)) (!fr i))) ∧ Hid (Row wr w3.heap.size 25 (oSt x y)) ∧ Hid (i ≤ n → is = true ∧ x = (n : Int) + 1 - (i : Int) ∧ y = (!fr i)) ∧ Hid (i = n + 1 → is = decide (lo < 128)) ∧ Hid (Below w.heap.size w wr)) (fun _ _ iv _ => n + 1 - (intOf iv).toNat)
          case atStart => exact ⟨0, true, (n : Int) + 1, false, rfl, rfl, rfl, by omega, by omega, Lib.hid (by rw [hf0]; simpa using HR3.out), HT3, Lib.hid (fun _ => ⟨rfl, by simp, by rw [hf0]; rfl⟩), Lib.hid (by intro h; omega), Lib.hid hB3b⟩
          case round =>
            obtain ⟨i, is, x, y, rfl, rfl, rfl, hi, ⟨x0, x1⟩, HRo, HTo, HA, HZ, HB⟩ := hrel
            by_cases hlt : i ≤ n
            · have hlti : (i : Int) < (n : Int) + 1 := by omega
              obtain ⟨rfl, hx, hy⟩ := HA.out hlt
              have hi2 : i < a0.size := by omega
              have hbt := HGB.out i hi2
              have hx0 := HX0.out i
              have hx1 := HX1.out i
              have hs1 := HS.out i hi2
              have ht1 := HT.out i hi2 hlti
              have hlo2 : i = n → bt a0 i = lo := fun h => by rw [h]; exact HLO.out
              obtain ⟨z, hz⟩ : ∃ z, bt a0 i = z := ⟨_, rfl⟩
              rw [hz] at hbt hx0 hx1 hs1 ht1 hlo2
              rw [← hx, ← hy] at ht1
              obtain ⟨s, hs⟩ : ∃ s, (a0.size : Int) - (i : Int) = s := ⟨_, rfl⟩
              obtain ⟨f, hf⟩ : ∃ f, (!fr i) = f := ⟨_, rfl⟩
              rw [hs, hf] at hs1 HRo
              have HP := Lib.hid (oidPush_any s f z (by omega) ⟨hx0, hx1⟩)
              rw [hs1] at HP
              have HQ := Lib.hid (oidPush_any x y z ⟨by omega, x1⟩ ⟨hx0, hx1⟩)
              have HSP : Hid ((0 ≤ (oPush x y z).1 ∧ (oPush x y z).1 ≤ 9223372036854775807) ∧ (i + 1 ≤ n → (oPush x y z).2.2 = true ∧ (oPush x y z).1 = (n : Int) + 1 - ((i + 1 : Nat) : Int) ∧ (oPush x y z).2.1 = (!fr (i + 1))) ∧ (i + 1 = n + 1 → (oPush x y z).2.2 = decide (lo < 128))) := Lib.hid (by
                rw [ht1]
                split
                · rename_i h
                  exact ⟨by decide, by intro h2; omega, fun h2 => by have := hlo2 (by omega); exact (decide_eq_false (by omega)).symm⟩
                · rename_i h
                  exact ⟨by simp only; omega, fun _ => ⟨rfl, rfl, rfl⟩, fun h2 => by have := hlo2 (by omega); exact (decide_eq_true (by omega)).symm⟩)
              generalize oPush x y z = p at *
              obtain ⟨x', y', is'⟩ := p
              obtain ⟨s', hs'⟩ : ∃ s', (a0.size : Int) - ((i + 1 : Nat) : Int) = s' := ⟨_, rfl⟩
              obtain ⟨f', hf'⟩ : ∃ f', (!fr (i + 1)) = f' := ⟨_, rfl⟩
              rw [hs', hf'] at HP
              simp only at HP HQ HSP
              have HS2 := Lib.hid hs'
              have HF2 := Lib.hid hf'
              have h0 : wr.cell? ⟨w2.heap.size, 0, none⟩ = some (.int .i64 s) := HRo.out.cell 0
              have f0 := HRo.out.frozen 0
              have h2 : wr.cell? ⟨w2.heap.size, 1, none⟩ = some (.bool f) := HRo.out.cell 1
              have f2 := HRo.out.frozen 1
              have hls := HRo.out.lt
              clear hz hx hy hs hf hs1 ht1 hlo2 HA HZ HX0 HX1 HS HT hs' hf' HR3 HT3 hB3b HLO
              go_wp2
              go_region_with (go_at_call 12; refine (HP.out _).mono ?_; rintro e w5 ⟨rfl, hb5⟩; obtain ⟨hc5, hf5, hc6, hf6⟩ := oid_kept hb5 HRo.out rfl)
              all_goals
                have HR5 := Lib.hid (((row_kept hb5 HRo.out rfl).set 0 (.int .i64 s')).set 1 (.bool f'))
                have HT5 := Lib.hid (((row_kept hb5 HTo.out rfl).far (p := ⟨w2.heap.size, 0, none⟩) (by simp; omega) (.int .i64 s')).far (p := ⟨w2.heap.size, 1, none⟩) (by simp; omega) (.bool f'))
                have HB5 := Lib.hid (((below_kept hb5 HB.out rfl rfl rfl rfl).setCell (p := ⟨w2.heap.size, 0, none⟩) h2s (.int .i64 s')).setCell (p := ⟨w2.heap.size, 1, none⟩) h2s (.bool f'))
                generalize (w5.setCell ⟨w2.heap.size, 0, none⟩ (.int .i64 s')).setCell ⟨w2.heap.size, 1, none⟩ (.bool f') = W at *
                clear hb5 hc5 hf5 hc6 hf6 h0 f0 h2 f2 hls HRo HTo HB HP
                have h0 : W.cell? ⟨w3.heap.size, 0, none⟩ = some (.int .i64 x) := HT5.out.cell 0
                have f0 := HT5.out.frozen 0
                have h2 : W.cell? ⟨w3.heap.size, 1, none⟩ = some (.bool y) := HT5.out.cell 1
                have f2 := HT5.out.frozen 1
                have hls := HT5.out.lt
                go_wp2
                go_region_with (go_at_call 12; refine (HQ.out _).mono ?_; rintro e w6 ⟨rfl, hb6⟩; obtain ⟨hc7, hf7, hc8, hf8⟩ := oid_kept hb6 HT5.out rfl)
                all_goals
                  have HT6 := Lib.hid (((row_kept hb6 HT5.out rfl).set 0 (.int .i64 x')).set 1 (.bool y'))
                  have HR6 := Lib.hid (((row_kept hb6 HR5.out rfl).far (p := ⟨w3.heap.size, 0, none⟩) (by simp; omega) (.int .i64 x')).far (p := ⟨w3.heap.size, 1, none⟩) (by simp; omega) (.bool y'))
                  have HB6 := Lib.hid (((below_kept hb6 HB5.out rfl rfl rfl rfl).setCell (p := ⟨w3.heap.size, 0, none⟩) h3s (.int .i64 x')).setCell (p := ⟨w3.heap.size, 1, none⟩) h3s (.bool y'))
                  clear hb6 hc7 hf7 hc8 hf8 h0 f0 h2 f2 hls HR5 HT5 HB5 HQ
                  go_wp2
                  go_roundw
                  case rel => exact ⟨i + 1, is', x', y', rfl, rfl, by simp, by omega, HSP.out.1, by rw [HS2.out, HF2.out]; exact HR6, HT6, Lib.hid HSP.out.2.1, Lib.hid HSP.out.2.2, HB6⟩
                  case measure => simp [intOf]; omega
            · obtain rfl : i = n + 1 := by omega
              have hne : ¬ ((n : Int) + 1 < (n : Int) + 1) := by omega
              obtain rfl := HZ.out rfl
              clear HA HZ HS HT HX0 HX1 HGB
              go_wp2
              go_returns
              exact ⟨rfl, HB.out⟩
    · have hwb : (oidWrong a0.size (bl a0) != -1) = true := by simpa using hw
      generalize oidWrong a0.size (bl a0) = at_ at *
      clear b0 hw
      go_enter Try.func8, Try.ntmps8
      go_wp2_with fail
      refine (awake11_any _).mono ?_
      rintro e w1 ⟨rfl, hB1⟩
      go_wp2_with fail
      refine (H0.out _).mono ?_
      rintro e w' ⟨rfl, rfl⟩
      go_wp2_with fail
      refine (awake11_any _).mono ?_
      rintro e w2 ⟨rfl, hb⟩
      have hB2 := hB1.trans (hb.mono hB1.size)
      clear hb hB1
      go_wp2
      go_returns
      exact ⟨rfl, hB2⟩


/-! ### OidFront: the step from the walk to the statement -/
namespace oidFront
theorem own : ownKnob Try.prog.godebug = none := by kernel_rfl
set_option maxRecDepth 100000 in
theorem lifted (os : Os) (started : os.Started) (H : Type) (enc : TypeId × Value → H) :
    ReturnsInHanded {} Try.checked os 8 .any (Rows.oidFrontSpec.pre6 enc Try.prog Try.f8 Rows.oidFrontRow.domain false) (Rows.oidFrontSpec.post enc Try.prog Try.f8 false true false false) := by
  refine returnsInHanded_of_change (C := Try.checked) own started (by kernel_rfl) Try.func8
    (ChangeSpec.witness6 (enc := enc) (C := Try.checked) false ⟨#[], #[.string ByteArray.empty, .int .i64 0], []⟩ 8 (by kernel_rfl) (by kernel_rfl) (by kernel_rfl) (by kernel_rfl)) ?_
  intro W base args ds gs before hval0 hW hcnd _
  have hval : ∀ (j : Nat) t v, Try.f8.params[j]? = some t → args[j]? = some v → Value.okWide Try.prog W .any base t v := hval0
  have hW' := hW
  obtain ⟨p, q, hA0, hV, rfl, hfz, hnd⟩ := hW
  have hA : DataW.TrodAll enc Try.prog W 0 (fun _ => true) true Try.f8.params.toList args.toList ds p := hA0
  rw [Try.params8] at hA hval
  obtain ⟨v0, vs0, d0, ds0, p0, q0, hargs, rfl, rfl, h0, r0⟩ := trodAll_cons hA
  obtain ⟨v1, vs1, d1, ds1, p1, q1, rfl, rfl, rfl, h1, r1⟩ := trodAll_cons r0
  obtain ⟨rfl, rfl, rfl⟩ := trodAll_nil r1
  obtain rfl : args = #[v0, v1] := by cases args; simp_all
  obtain ⟨rfl, rfl⟩ := trodVars_none hV
  obtain ⟨a0, rfl, rfl, rfl, w0⟩ := open_string Try.underlying9 (hval 0 9 v0 rfl rfl) h0
  obtain ⟨a1, rfl, rfl, rfl, w1⟩ := open_int Try.underlying3 (hval 1 3 v1 rfl rfl) h1
  clear hA0 hval0
  simp only [List.append_nil] at hW'
  refine (walkOidFront a0 a1 w0 (bounds_i64 w1) W).mono fun e W' ⟨he, bel⟩ => ?_
  subst he
  exact ⟨_, rfl, _, _, _, [], [], [], hW', trodAll_mk1 (shut_bool Try.underlying4 _), (trodAll_cons_mk (shut_string Try.underlying9 w0) (trodAll_cons_mk (shut_int Try.underlying3 w1) trodAll_mk0)), rfl, bel.frame _, fun h => by cases h⟩
theorem over : Rows.oidFrontRow.holds Try.pinned (OpenSpec.ofChange Rows.oidFrontSpec) :=
  OpenClaim.holds_of_wide 8 Try.f8 rfl rfl rfl rfl rfl rfl rfl ⟨rfl, rfl, rfl, rfl, rfl⟩ rfl rfl rfl rfl rfl (by kernel_rfl) Try.func8 (by kernel_rfl)
    (of_decide_eq_true (by kernel_rfl)) (by unfold Func.isWrapper; first | (rw [if_pos (by decide +kernel)]; kernel_rfl) | (rw [if_neg (by decide +kernel)]; exact ⟨rfl, rfl⟩))
    (fun os started H enc _ => lifted os started H enc)
/-- THE STATEMENT. -/
theorem proved : Rows.OidFrontSaid := over
end oidFront
end Go.Proofs.Ytjdkpdaekmogkaa
