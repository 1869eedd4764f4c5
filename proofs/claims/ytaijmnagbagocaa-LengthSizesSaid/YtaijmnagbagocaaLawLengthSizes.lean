/- Of every number: how many bytes its length has. No condition but the form of the row. -/
import Derived.Test.YtaijmnagbagocaaLenAwake
import Derived.Test.YtaijmnagbagocaaRows
import Derived.WalkKit
import Derived.ProofKit
import Derived.OpenShut
import Derived.ShutString
import Derived.ChangeOld
import Derived.Below
namespace Go.Proofs.Ytaijmnagbagocaa
open Go.ChangeShapes Go.WideShapes Go.ChangeAt Go.RowKit
open Go.ChangeMaps (open_string shut_string)
set_option linter.unusedVariables false
set_option maxRecDepth 100000 in
set_option maxHeartbeats 4000000 in
theorem walkLengthSizes (a0 : Int) (b0 : -9223372036854775808 ≤ a0 ∧ a0 ≤ 9223372036854775807) (w : World) :
    Calls Try.prog 8 #[.int .i64 a0] w fun e w' => e = .returned (.bool true) ∧ Below w.heap.size w w' := by
  have H0 := Lib.hid (lenPut_all a0 b0)
  by_cases hok : lenOk a0 = true
  · obtain ⟨h0, h1⟩ := lenOk_iff.1 hok
    rw [lpE_ok.2 hok] at H0
    have hsz := len_size hok
    have hf := len_first hok
    have hs2 := len_second hok
    have hps := lpS_le a0
    generalize lpS a0 = s at *
    by_cases hs : a0 < 128
    · rw [if_pos hs] at hsz hf
      have hg := Go.PlainAid.get_bt s 0 (by omega)
      rw [hf] at hg
      have hszi : (s.size : Int) = 1 := by omega
      clear hok hf hs2
      go_enter Try.func8, Try.ntmps8
      go_wp2_with fail
      refine (H0.out _).mono ?_
      rintro e w1 ⟨rfl, hB1⟩
      go_wp2_with fail
      refine (awake06_any _).mono ?_
      rintro e w2 ⟨rfl, hb⟩
      have hB2 := hB1.trans (hb.mono hB1.size)
      clear hb hB1
      go_wp2
      go_returns
      exact ⟨rfl, hB2⟩
    · rw [if_neg hs] at hsz hf
      obtain ⟨m, rfl⟩ := Int.eq_ofNat_of_zero_le h0
      rw [Int.toNat_natCast] at hsz hf
      have hlb : 1 ≤ (loB m).length := by rw [loB_pos (by omega)]; simp
      obtain ⟨z, hz⟩ : ∃ z, (loB m).length = z := ⟨_, rfl⟩
      rw [hz] at hsz hf hlb
      have HZ := Lib.hid hz
      have hg := (Go.PlainAid.get_bt s 0 (by omega)).trans hf
      have hg1 := Go.PlainAid.get_bt s 1 (by omega)
      have hs2' := hs2 hs
      generalize hq : Go.PlainAid.bt s 1 = q at *
      have hqn : (q != 0) = true := by simpa using hs2'
      have hszi : (s.size : Int) = 1 + (z : Int) := by omega
      clear hok hs2 hs2'
      have hz8 : z ≤ 8 := by omega
      go_enter Try.func8, Try.ntmps8
      go_wp2_with fail
      refine (H0.out _).mono ?_
      rintro e w1 ⟨rfl, hB1⟩
      go_wp2_with fail
      refine (awake06_any _).mono ?_
      rintro e w2 ⟨rfl, hb⟩
      have hB2 := hB1.trans (hb.mono hB1.size)
      clear hb hB1
      go_wp2
      go_loop [5, 6] (fun nv tv => ∃ k t : Nat, nv = .int .i64 (k : Int) ∧ tv = .int .i64 (t : Int) ∧ t ≤ m ∧ Hid (k + (loB t).length = z)) (fun _ tv => (intOf tv).toNat)
      case atStart => exact ⟨0, m, rfl, rfl, Nat.le_refl _, Lib.hid (by rw [HZ.out]; omega)⟩
      case round =>
        obtain ⟨k, t, rfl, rfl, htt, HK⟩ := hrel
        by_cases h00 : t = 0
        · subst h00
          have hkz : k = z := by have := HK.out; rw [loB_zero] at this; simpa using this
          subst hkz
          go_wp2
          go_returns
          exact ⟨rfl, hB2⟩
        · have h01 : (0 : Int) < (t : Int) := by omega
          have hk4 : k ≤ 8 := by have := HK.out; omega
          have HK2 := Lib.hid (show k + 1 + (loB (t / 256)).length = z by have := HK.out; rw [loB_pos h00, List.length_cons] at this; omega)
          clear HK
          go_wp2
          go_round
          case rel => exact ⟨k + 1, t / 256, by simp, by simp, by omega, HK2⟩
          case measure => simp [intOf]; omega
  · have hE : lpE a0 = 1 := by unfold lpE; rw [if_neg hok]
    rw [hE] at H0
    generalize lpS a0 = s at *
    clear hok hE
    go_enter Try.func8, Try.ntmps8
    go_wp2_with fail
    refine (H0.out _).mono ?_
    rintro e w1 ⟨rfl, hB1⟩
    go_wp2_with fail
    refine (awake06_any _).mono ?_
    rintro e w2 ⟨rfl, hb⟩
    have hB2 := hB1.trans (hb.mono hB1.size)
    clear hb hB1
    go_wp2_with fail
    refine (awake06_any _).mono ?_
    rintro e w3 ⟨rfl, hb⟩
    have hB3 := hB2.trans (hb.mono hB2.size)
    clear hb hB2
    go_wp2
    go_returns
    exact ⟨rfl, hB3⟩


/-! ### LengthSizes: the step from the walk to the statement -/
namespace lengthSizes
theorem own : ownKnob Try.prog.godebug = none := by kernel_rfl
set_option maxRecDepth 100000 in
theorem lifted (os : Os) (started : os.Started) (H : Type) (enc : TypeId × Value → H) :
    ReturnsInHanded {} Try.checked os 8 .any (Rows.lengthSizesSpec.pre6 enc Try.prog Try.f8 Rows.lengthSizesRow.domain false) (Rows.lengthSizesSpec.post enc Try.prog Try.f8 false true false false) := by
  refine returnsInHanded_of_change (C := Try.checked) own started (by kernel_rfl) Try.func8
    (ChangeSpec.witness6 (enc := enc) (C := Try.checked) false ⟨#[], #[.int .i64 0], []⟩ 8 (by kernel_rfl) (by kernel_rfl) (by kernel_rfl) (by kernel_rfl)) ?_
  intro W base args ds gs before hval0 hW hcnd _
  have hval : ∀ (j : Nat) t v, Try.f8.params[j]? = some t → args[j]? = some v → Value.okWide Try.prog W .any base t v := hval0
  have hW' := hW
  obtain ⟨p, q, hA0, hV, rfl, hfz, hnd⟩ := hW
  have hA : DataW.TrodAll enc Try.prog W 0 (fun _ => true) true Try.f8.params.toList args.toList ds p := hA0
  rw [Try.params8] at hA hval
  obtain ⟨v0, vs0, d0, ds0, p0, q0, hargs, rfl, rfl, h0, r0⟩ := trodAll_cons hA
  obtain ⟨rfl, rfl, rfl⟩ := trodAll_nil r0
  obtain rfl : args = #[v0] := by cases args; simp_all
  obtain ⟨rfl, rfl⟩ := trodVars_none hV
  obtain ⟨a0, rfl, rfl, rfl, w0⟩ := open_int Try.underlying3 (hval 0 3 v0 rfl rfl) h0
  clear hA0 hval0
  simp only [List.append_nil] at hW'
  refine (walkLengthSizes a0 (bounds_i64 w0) W).mono fun e W' ⟨he, bel⟩ => ?_
  subst he
  exact ⟨_, rfl, _, _, _, [], [], [], hW', trodAll_mk1 (shut_bool Try.underlying4 _), (trodAll_cons_mk (shut_int Try.underlying3 w0) trodAll_mk0), rfl, bel.frame _, fun h => by cases h⟩
theorem over : Rows.lengthSizesRow.holds Try.pinned (OpenSpec.ofChange Rows.lengthSizesSpec) :=
  OpenClaim.holds_of_wide 8 Try.f8 rfl rfl rfl rfl rfl rfl rfl ⟨rfl, rfl, rfl, rfl, rfl⟩ rfl rfl rfl rfl rfl (by kernel_rfl) Try.func8 (by kernel_rfl)
    (of_decide_eq_true (by kernel_rfl)) (by unfold Func.isWrapper; first | (rw [if_pos (by decide +kernel)]; kernel_rfl) | (rw [if_neg (by decide +kernel)]; exact ⟨rfl, rfl⟩))
    (fun os started H enc _ => lifted os started H enc)
/-- THE STATEMENT. -/
theorem proved : Rows.LengthSizesSaid := over
end lengthSizes
end Go.Proofs.Ytaijmnagbagocaa
