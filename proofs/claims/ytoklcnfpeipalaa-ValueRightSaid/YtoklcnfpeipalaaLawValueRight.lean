/- Of every text and number (of texts of more than 250 bytes the law asks only for the fixed answers): an element that is right brings about events none of which is wrong; cut off, it is cut off. No condition but the form of the row. -/
import Derived.Test.YtoklcnfpeipalaaValAwake
import Derived.Test.YtoklcnfpeipalaaRefVal
import Derived.Test.YtoklcnfpeipalaaE4
import Derived.Test.YtoklcnfpeipalaaRows
import Derived.WalkKit
import Derived.ProofKit
import Derived.OpenShut
import Derived.ShutString
import Derived.ChangeOld
import Derived.Below
namespace Go.Proofs.Ytoklcnfpeipalaa
open Go.ChangeShapes Go.WideShapes Go.ChangeAt Go.RowKit
open Go.ChangeMaps (open_string shut_string)
set_option linter.unusedVariables false
open Go.PlainAid in
set_option maxRecDepth 100000 in
set_option maxHeartbeats 8000000 in
theorem walkValueRight (a0 : ByteArray) (a1 : Int) (b0 : a0.size ≤ maxLen) (b1 : -9223372036854775808 ≤ a1 ∧ a1 ≤ 9223372036854775807) (w : World) :
    Calls Try.prog 4 #[.string a0, .int .i64 a1] w fun e w' => e = .returned (.bool true) ∧ Below w.heap.size w w' := by
  by_cases hl : (250 : Int) < (a0.size : Int)
  · go_enter Try.func4, Try.ntmps4
    go_wp2_with fail
    refine (awake15_is _).mono ?_
    rintro e w1 ⟨rfl, hB1⟩
    go_wp2_with fail
    refine (awake15_is _).mono ?_
    rintro e w2 ⟨rfl, hb⟩
    have hB2 := hB1.trans (hb.mono hB1.size)
    clear hb hB1
    go_wp2
    go_returns
    exact ⟨rfl, hB2⟩
  · obtain ⟨e, at_, hw⟩ : ∃ e a, valW a0 64 = (e, a) := ⟨_, _, rfl⟩
    have HC := Lib.hid (fun w => valSpec.whole_is a0 64 (by omega) (by decide) hw w)
    by_cases h0 : e = 0
    · subst h0
      obtain ⟨r1, ⟨L, Q, r2, r3⟩, r4⟩ := val_right b0 hw
      subst r1
      have HE := Lib.hid (fun w => evSpec.whole_is a0 64 (by omega) (by decide) r2 w)
      have hln := evW_len a0 64
      rw [r2] at hln
      have HLN : Hid (L.length ≤ 250) := Lib.hid (by have h : L.length ≤ a0.size := hln; omega)
      have HBd := Lib.hid (VS.bounds (evW_fits b0 r2))
      have HVF := Lib.hid r3
      clear r2 r3 hln hw
      by_cases hc : 0 ≤ a1 ∧ a1 < (a0.size : Int)
      · obtain ⟨g1, g2⟩ := hc
        obtain ⟨k, rfl⟩ := Int.eq_ofNat_of_zero_le g1
        have HK := Lib.hid (fun w => valSpec.whole_is (a0.extract 0 k) 64 (by rw [ByteArray.size_extract]; omega) (by decide) (r4 k (by omega)) w)
        have hg3 : ¬ (k : Int) < 0 := by omega
        have hg4 : ¬ (a0.size : Int) ≤ (k : Int) := by omega
        have hg5 : (k : Int) ≤ (a0.size : Int) := by omega
        clear r4 b0 b1
        go_enter Try.func4, Try.ntmps4
        go_wp2_with fail
        refine (awake15_is _).mono ?_
        rintro e w1 ⟨rfl, hB1⟩
        go_wp2_with fail
        refine (HC.out _).mono ?_
        rintro e w2 ⟨rfl, hb⟩
        have hB2 := hB1.trans (hb.mono hB1.size)
        clear hb hB1
        go_wp2_with fail
        refine (HE.out _).mono ?_
        rintro r w3 ⟨oa, n3, c3, rfl, he3, hn3, hb⟩
        have hB3 := hB2.trans (hb.mono hB2.size)
        clear hb hB2
        subst hn3
        have HFi := Lib.hid (refFirst_any he3 (by have := HLN.out; omega) HBd.out)
        rw [HVF.out] at HFi
        clear he3
        go_wp2_with fail
        refine HFi.out.mono ?_
        rintro r w4 ⟨rfl, hb⟩
        have hB4 := hB3.trans (hb.mono hB3.size)
        clear hb hB3
        go_wp2_with fail
        refine (HK.out _).mono ?_
        rintro e w5 ⟨rfl, hb⟩
        have hB5 := hB4.trans (hb.mono hB4.size)
        clear hb hB4
        go_wp2
        go_returns
        exact ⟨rfl, hB5⟩
      · have hcw : a1 < 0 ∨ (¬ a1 < 0 ∧ (a0.size : Int) ≤ a1) := by omega
        clear hc r4 b0 b1
        rcases hcw with g1 | ⟨g1, g2⟩
        all_goals
          go_enter Try.func4, Try.ntmps4
          go_wp2_with fail
          refine (awake15_is _).mono ?_
          rintro e w1 ⟨rfl, hB1⟩
          go_wp2_with fail
          refine (HC.out _).mono ?_
          rintro e w2 ⟨rfl, hb⟩
          have hB2 := hB1.trans (hb.mono hB1.size)
          clear hb hB1
          go_wp2_with fail
          refine (HE.out _).mono ?_
          rintro r w3 ⟨oa, n3, c3, rfl, he3, hn3, hb⟩
          have hB3 := hB2.trans (hb.mono hB2.size)
          clear hb hB2
          subst hn3
          have HFi := Lib.hid (refFirst_any he3 (by have := HLN.out; omega) HBd.out)
          rw [HVF.out] at HFi
          clear he3
          go_wp2_with fail
          refine HFi.out.mono ?_
          rintro r w4 ⟨rfl, hb⟩
          have hB4 := hB3.trans (hb.mono hB3.size)
          clear hb hB3
          go_wp2
          go_returns
          exact ⟨rfl, hB4⟩
    · obtain ⟨p1, p2⟩ := valW_at b0 hw
      have h6 : (e != 0) = true := by simpa using h0
      clear hw h0 b0 b1
      go_enter Try.func4, Try.ntmps4
      go_wp2_with fail
      refine (awake15_is _).mono ?_
      rintro e w1 ⟨rfl, hB1⟩
      go_wp2_with fail
      refine (HC.out _).mono ?_
      rintro e w2 ⟨rfl, hb⟩
      have hB2 := hB1.trans (hb.mono hB1.size)
      clear hb hB1
      go_wp2
      go_returns
      exact ⟨rfl, hB2⟩


/-! ### ValueRight: the step from the walk to the statement -/
namespace valueRight
theorem own : ownKnob Try.prog.godebug = none := by kernel_rfl
set_option maxRecDepth 100000 in
theorem lifted (os : Os) (started : os.Started) (H : Type) (enc : TypeId × Value → H) :
    ReturnsInHanded {} Try.checked os 4 .any (Rows.valueRightSpec.pre6 enc Try.prog Try.f4 Rows.valueRightRow.domain false) (Rows.valueRightSpec.post enc Try.prog Try.f4 false true false false) := by
  refine returnsInHanded_of_change (C := Try.checked) own started (by kernel_rfl) Try.func4
    (ChangeSpec.witness6 (enc := enc) (C := Try.checked) false ⟨#[], #[.string ByteArray.empty, .int .i64 0], []⟩ 8 (by kernel_rfl) (by kernel_rfl) (by kernel_rfl) (by kernel_rfl)) ?_
  intro W base args ds gs before hval0 hW hcnd _
  have hval : ∀ (j : Nat) t v, Try.f4.params[j]? = some t → args[j]? = some v → Value.okWide Try.prog W .any base t v := hval0
  have hW' := hW
  obtain ⟨p, q, hA0, hV, rfl, hfz, hnd⟩ := hW
  have hA : DataW.TrodAll enc Try.prog W 0 (fun _ => true) true Try.f4.params.toList args.toList ds p := hA0
  rw [Try.params4] at hA hval
  obtain ⟨v0, vs0, d0, ds0, p0, q0, hargs, rfl, rfl, h0, r0⟩ := trodAll_cons hA
  obtain ⟨v1, vs1, d1, ds1, p1, q1, rfl, rfl, rfl, h1, r1⟩ := trodAll_cons r0
  obtain ⟨rfl, rfl, rfl⟩ := trodAll_nil r1
  obtain rfl : args = #[v0, v1] := by cases args; simp_all
  obtain ⟨rfl, rfl⟩ := trodVars_none hV
  obtain ⟨a0, rfl, rfl, rfl, w0⟩ := open_string Try.underlying9 (hval 0 9 v0 rfl rfl) h0
  obtain ⟨a1, rfl, rfl, rfl, w1⟩ := open_int Try.underlying3 (hval 1 3 v1 rfl rfl) h1
  clear hA0 hval0
  simp only [List.append_nil] at hW'
  refine (walkValueRight a0 a1 w0 (bounds_i64 w1) W).mono fun e W' ⟨he, bel⟩ => ?_
  subst he
  exact ⟨_, rfl, _, _, _, [], [], [], hW', trodAll_mk1 (shut_bool Try.underlying4 _), (trodAll_cons_mk (shut_string Try.underlying9 w0) (trodAll_cons_mk (shut_int Try.underlying3 w1) trodAll_mk0)), rfl, bel.frame _, fun h => by cases h⟩
theorem over : Rows.valueRightRow.holds Try.pinned (OpenSpec.ofChange Rows.valueRightSpec) :=
  OpenClaim.holds_of_wide 4 Try.f4 rfl rfl rfl rfl rfl rfl rfl ⟨rfl, rfl, rfl, rfl, rfl⟩ rfl rfl rfl rfl rfl (by kernel_rfl) Try.func4 (by kernel_rfl)
    (of_decide_eq_true (by kernel_rfl)) (by unfold Func.isWrapper; first | (rw [if_pos (by decide +kernel)]; kernel_rfl) | (rw [if_neg (by decide +kernel)]; exact ⟨rfl, rfl⟩))
    (fun os started H enc _ => lifted os started H enc)
/-- THE STATEMENT. -/
theorem proved : Rows.ValueRightSaid := over
end valueRight
end Go.Proofs.Ytoklcnfpeipalaa
