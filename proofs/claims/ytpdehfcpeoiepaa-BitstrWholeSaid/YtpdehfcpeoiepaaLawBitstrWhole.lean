/- Of every bytes and number (of more than 300 bytes the law asks only for the fixed answers): with none unused they are put, and each bit is told. No condition but the form of the row. -/
import Derived.Test.YtpdehfcpeoiepaaBstrAwake
import Derived.Test.YtpdehfcpeoiepaaRows
import Derived.WalkKit
import Derived.ProofKit
import Derived.OpenShut
import Derived.ShutString
import Derived.ChangeOld
import Derived.Below
namespace Go.Proofs.Ytpdehfcpeoiepaa
open Go.ChangeShapes Go.WideShapes Go.ChangeAt Go.RowKit
open Go.ChangeMaps (open_string shut_string)
set_option linter.unusedVariables false
open Go.PlainAid in
set_option maxRecDepth 100000 in
set_option maxHeartbeats 4000000 in
theorem walkBitstrWhole (a0 : ByteArray) (a1 : Int) (b0 : a0.size ≤ maxLen) (b1 : -9223372036854775808 ≤ a1 ∧ a1 ≤ 9223372036854775807) (w : World) :
    Calls Try.prog 8 #[.string a0, .int .i64 a1] w fun e w' => e = .returned (.bool true) ∧ Below w.heap.size w w' := by
  have hb9 : (a0.size : Int) ≤ 9223372036854775807 := by unfold maxLen at b0; omega
  by_cases hl : (300 : Int) < (a0.size : Int)
  · go_enter Try.func8, Try.ntmps8
    go_wp2_with fail
    refine (awake12_any _).mono ?_
    rintro e w1 ⟨rfl, hB1⟩
    go_wp2_with fail
    refine (awake12_any _).mono ?_
    rintro e w2 ⟨rfl, hb⟩
    have hB2 := hB1.trans (hb.mono hB1.size)
    go_wp2
    go_returns
    exact ⟨rfl, hB2⟩
  · have HC : bpC 0 a0 = (⟨#[0]⟩ : ByteArray) ++ a0 := by unfold bpC; rw [show one8 0 = (⟨#[0]⟩ : ByteArray) by decide +kernel]
    obtain ⟨p1, p2⟩ := bp_whole a0
    rw [HC] at p2
    have HP := Lib.hid (bsPut_is 0 a0 (by omega) p2 p1)
    have HBQ := Lib.hid (bsBit_q (bpC 0 a0) a1 (by rw [bpC_size]; omega) b1.2)
    have HW := Lib.hid (whole_bit a0 a1)
    rw [HC] at HBQ HW
    have hmx : ¬ 9223372036854775807 < (⟨#[0]⟩ : ByteArray).size + a0.size := by rw [show (⟨#[0]⟩ : ByteArray).size = 1 from rfl]; omega
    generalize bsBit ((⟨#[0]⟩ : ByteArray) ++ a0) a1 = B at *
    clear HC p1 p2
    by_cases hi : a1 < 0
    · have HF : Hid (B = false) := Lib.hid (by rw [HW.out]; exact decide_eq_false (fun h => by omega))
      rw [HF.out] at HBQ
      go_enter Try.func8, Try.ntmps8
      go_wp2_with fail
      refine (awake12_any _).mono ?_
      rintro e w1 ⟨rfl, hB1⟩
      go_wp2_with fail
      refine (HP.out _).mono ?_
      rintro e w2 ⟨rfl, hb⟩
      have hB2 := hB1.trans (hb.mono hB1.size)
      clear hb hB1
      go_wp2_with fail
      refine (HBQ.out _).mono ?_
      rintro e w3 ⟨rfl, m, rfl⟩
      go_wp2
      go_returns
      exact ⟨rfl, Below.trans hB2 ⟨rfl, rfl, rfl, Nat.le_refl _, fun _ _ => rfl⟩⟩
    · by_cases hj : 8 * (a0.size : Int) ≤ a1
      · have HF : Hid (B = false) := Lib.hid (by rw [HW.out]; exact decide_eq_false (fun h => by omega))
        rw [HF.out] at HBQ
        go_enter Try.func8, Try.ntmps8
        go_wp2_with fail
        refine (awake12_any _).mono ?_
        rintro e w1 ⟨rfl, hB1⟩
        go_wp2_with fail
        refine (HP.out _).mono ?_
        rintro e w2 ⟨rfl, hb⟩
        have hB2 := hB1.trans (hb.mono hB1.size)
        clear hb hB1
        go_wp2_with fail
        refine (HBQ.out _).mono ?_
        rintro e w3 ⟨rfl, m, rfl⟩
        go_wp2
        go_returns
        exact ⟨rfl, Below.trans hB2 ⟨rfl, rfl, rfl, Nat.le_refl _, fun _ _ => rfl⟩⟩
      · have h00 : 0 ≤ a1 := by omega
        have htd : a1.tdiv 8 = a1 / 8 := Int.tdiv_eq_ediv_of_nonneg h00
        have htm : a1.tmod 8 = a1 % 8 := Int.tmod_eq_emod_of_nonneg h00
        have hk0 : 0 ≤ a1 % 8 := by omega
        have hk1 : a1 % 8 ≤ 7 := by omega
        have hq0 : 0 ≤ a1 / 8 := by omega
        have hq1 : a1 / 8 ≤ 1000000 := by omega
        have hltn : (a1 / 8).toNat < a0.size := by omega
        have hlt : a1 / 8 < (a0.size : Int) := by omega
        have hgx := get_bt a0 (a1 / 8).toNat hltn
        have y0 := bt_nonneg a0 (a1 / 8).toNat
        have y1 := bt_le a0 (a1 / 8).toNat
        have HF : Hid (B = decide (bitAt (bt a0 (a1 / 8).toNat) (a1 % 8) = 1)) := Lib.hid (by
          rw [HW.out]; exact decide_eq_decide.2 ⟨fun h => h.2.2, fun h => ⟨h00, by omega, h⟩⟩)
        clear HW
        obtain ⟨x, hxe⟩ : ∃ x, bt a0 (a1 / 8).toNat = x := ⟨_, rfl⟩
        rw [hxe] at hgx y0 y1 HF
        clear hxe
        obtain ⟨k, hk⟩ : ∃ k : Nat, a1 % 8 = (k : Int) := ⟨(a1 % 8).toNat, by omega⟩
        rw [hk] at hk0 hk1 htm HF
        have HH := Lib.hid pow_half
        have HPR := Lib.hid pow7
        clear hk
        go_enter Try.func8, Try.ntmps8
        go_wp2_with fail
        refine (awake12_any _).mono ?_
        rintro e w1 ⟨rfl, hB1⟩
        go_wp2_with fail
        refine (HP.out _).mono ?_
        rintro e w2 ⟨rfl, hb⟩
        have hB2 := hB1.trans (hb.mono hB1.size)
        clear hb hB1
        go_wp2
        go_loopw [7, 44] (fun uv jv wr => ∃ (j : Nat), uv = .int .i64 (2 ^ (7 - j)) ∧ jv = .int .i64 (j : Int) ∧ j ≤ k ∧ wr = w2) (fun _ jv _ => k - (intOf jv).toNat)
        case atStart => exact ⟨0, rfl, rfl, by omega, rfl⟩
        case round =>
          obtain ⟨j, rfl, rfl, hj2, rfl⟩ := hrel
          have hp := HPR.out j
          by_cases hjk : j < k
          · have hjki : (j : Int) < (k : Int) := by omega
            have HE := Lib.hid (HH.out j (by omega))
            obtain ⟨p, hpe⟩ : ∃ p : Int, 2 ^ (7 - j) = p := ⟨_, rfl⟩
            rw [hpe] at hp HE
            obtain ⟨p0, p1⟩ := hp
            have hpd : p.tdiv 2 = p / 2 := Int.tdiv_eq_ediv_of_nonneg (by omega)
            simp only [hpe]
            clear hpe
            go_wp2
            go_roundw
            case rel => exact ⟨j + 1, by rw [HE.out], by simp, by omega, by trivial⟩
            case measure => simp [intOf]; omega
          · have hne : ¬ (j : Int) < (k : Int) := by omega
            obtain rfl : j = k := by omega
            have HF2 : Hid (B = decide (x / 2 ^ (7 - j) % 2 = 1)) := Lib.hid (by rw [HF.out]; unfold bitAt; rw [show (7 - (j : Int)).toNat = 7 - j by omega])
            obtain ⟨p, hpe⟩ : ∃ p : Int, 2 ^ (7 - j) = p := ⟨_, rfl⟩
            rw [hpe] at hp HF2
            obtain ⟨p0, p1⟩ := hp
            simp only [hpe]
            have hz : (p == 0) = false := by simp; omega
            have hz2 : ¬ p = 0 := by omega
            have hpd : x.tdiv p = x / p := Int.tdiv_eq_ediv_of_nonneg y0
            have hdx0 : 0 ≤ x / p := Int.ediv_nonneg y0 (by omega)
            have hdx1 : x / p ≤ x := Int.ediv_le_self _ y0
            have hpm : (x / p).tmod 2 = x / p % 2 := Int.tmod_eq_emod_of_nonneg hdx0
            clear hpe HF
            have HF3 : Hid ((B == (x / p % 2 == 1)) = true) := Lib.hid (by rw [HF2.out]; exact beq_self_eq_true _)
            clear HF2
            go_wp2_with fail
            go_quiet ((go_at_call 17; exact Calls.quiet_of (HBQ.out _)))
            go_wp2
            go_returns
            refine ⟨rets1 (congrArg Value.bool HF3.out), Below.trans hB2 ⟨rfl, rfl, rfl, Nat.le_refl _, fun _ _ => rfl⟩⟩


/-! ### BitstrWhole: the step from the walk to the statement -/
namespace bitstrWhole
theorem own : ownKnob Try.prog.godebug = none := by kernel_rfl
set_option maxRecDepth 100000 in
theorem lifted (os : Os) (started : os.Started) (H : Type) (enc : TypeId × Value → H) :
    ReturnsInHanded {} Try.checked os 8 .any (Rows.bitstrWholeSpec.pre6 enc Try.prog Try.f8 Rows.bitstrWholeRow.domain false) (Rows.bitstrWholeSpec.post enc Try.prog Try.f8 false true false false) := by
  refine returnsInHanded_of_change (C := Try.checked) own started (by kernel_rfl) Try.func8
    (ChangeSpec.witness6 (enc := enc) (C := Try.checked) false ⟨#[], #[.string ByteArray.empty, .int .i64 0], []⟩ 8 (by kernel_rfl) (by kernel_rfl) (by kernel_rfl) (by kernel_rfl)) ?_
  intro W base args ds gs before hval0 hW hcnd _
  have hval : ∀ (j : Nat) t v, Try.f8.params[j]? = some t → args[j]? = some v → Value.okWide Try.prog W .any base t v := hval0
  have hW' := hW
  obtain ⟨p, q, hA0, hV, rfl, hfz, hnd⟩ := hW
  have hA : DataW.TrodAll enc Try.prog W 0 (fun _ => true) true Try.f8.params.toList args.toList ds p := hA0
  rw [Try.params8] at hA hval
  obtain ⟨v0, vs0, d0, ds0, p0, q0, hargs, rfl, rfl, h0, r0⟩ := trodAll_cons hA
  obtain ⟨v1, vs1, d1, ds1, p1, q1, rfl, rfl, rfl, h1, r1⟩ := trodAll_cons r0
  obtain ⟨rfl, rfl, rfl⟩ := trodAll_nil r1
  obtain rfl : args = #[v0, v1] := by cases args; simp_all
  obtain ⟨rfl, rfl⟩ := trodVars_none hV
  obtain ⟨a0, rfl, rfl, rfl, w0⟩ := open_string Try.underlying9 (hval 0 9 v0 rfl rfl) h0
  obtain ⟨a1, rfl, rfl, rfl, w1⟩ := open_int Try.underlying3 (hval 1 3 v1 rfl rfl) h1
  clear hA0 hval0
  simp only [List.append_nil] at hW'
  refine (walkBitstrWhole a0 a1 w0 (bounds_i64 w1) W).mono fun e W' ⟨he, bel⟩ => ?_
  subst he
  exact ⟨_, rfl, _, _, _, [], [], [], hW', trodAll_mk1 (shut_bool Try.underlying4 _), (trodAll_cons_mk (shut_string Try.underlying9 w0) (trodAll_cons_mk (shut_int Try.underlying3 w1) trodAll_mk0)), rfl, bel.frame _, fun h => by cases h⟩
theorem over : Rows.bitstrWholeRow.holds Try.pinned (OpenSpec.ofChange Rows.bitstrWholeSpec) :=
  OpenClaim.holds_of_wide 8 Try.f8 rfl rfl rfl rfl rfl rfl rfl ⟨rfl, rfl, rfl, rfl, rfl⟩ rfl rfl rfl rfl rfl (by kernel_rfl) Try.func8 (by kernel_rfl)
    (of_decide_eq_true (by kernel_rfl)) (by unfold Func.isWrapper; first | (rw [if_pos (by decide +kernel)]; kernel_rfl) | (rw [if_neg (by decide +kernel)]; exact ⟨rfl, rfl⟩))
    (fun os started H enc _ => lifted os started H enc)
/-- THE STATEMENT. -/
theorem proved : Rows.BitstrWholeSaid := over
end bitstrWhole
end Go.Proofs.Ytpdehfcpeoiepaa
