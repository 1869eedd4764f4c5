/- Of every text and depth (of texts of more than 250 bytes the law asks only for the fixed answers): event by event the first that is wrong is told, and each one behind it. No condition but the form of the row. -/
import Derived.Test.YtoklcnfpeipalaaGreatValAwake
import Derived.Test.YtoklcnfpeipalaaGreatRefVal
import Derived.Test.YtoklcnfpeipalaaGreatE4
import Derived.Test.YtoklcnfpeipalaaGreatRows
import Derived.Deep.Cut
import Derived.Deep.QuietTactic
import Derived.BigQuiet
import Derived.WalkKit
import Derived.ProofKit
import Derived.OpenShut
import Derived.ShutString
import Derived.ChangeOld
import Derived.Below
namespace Go.Proofs.YtoklcnfpeipalaaGreat
open Go.ChangeShapes Go.WideShapes Go.ChangeAt Go.RowKit
open Go.ChangeMaps (open_string shut_string)
set_option linter.unusedVariables false
open Go.PlainAid in
set_option maxRecDepth 100000 in
set_option maxHeartbeats 8000000 in
theorem walkValuePushes (a0 : ByteArray) (a1 : Int) (b0 : a0.size ≤ maxLen) (b1 : -9223372036854775808 ≤ a1 ∧ a1 ≤ 9223372036854775807) (w : World) :
    Calls Tryz.prog 4 #[.string a0, .int .i64 a1] w fun e w' => e = .returned (.bool true) ∧ Below w.heap.size w w' := by
  by_cases hl : (250 : Int) < (a0.size : Int)
  · go_enter Tryz.func4, Tryz.ntmps4
    go_wp2_with fail
    refine (valSpec.new _).mono ?_
    rintro r w1 ⟨kc, F, rfl, _, _, hB1⟩
    go_wp2_with fail
    refine (awake15_is _).mono ?_
    rintro e w2 ⟨rfl, hb⟩
    have hB2 := hB1.trans (hb.mono hB1.size)
    clear hb hB1
    go_wp2_with fail
    refine (awake15_is _).mono ?_
    rintro e w3 ⟨rfl, hb⟩
    have hB3 := hB2.trans (hb.mono hB2.size)
    clear hb hB2
    go_wp2
    go_returns
    exact ⟨rfl, hB3⟩
  · obtain ⟨L, E, Q, hw⟩ : ∃ L e p, evW a0 a1 = (L, e, p) := ⟨_, _, _, rfl⟩
    have HR := Lib.hid (fun w => refEvWhole_is a0 a1 (by omega) b1 hw w)
    have hln := evW_len a0 a1
    rw [hw] at hln
    have HLN : Hid (L.length ≤ 250) := Lib.hid (by have h : L.length ≤ a0.size := hln; omega)
    have hfits := evW_fits b0 hw
    have HBd := Lib.hid (VS.bounds hfits)
    have HFt := Lib.hid hfits
    obtain ⟨⟨v1, v2⟩, v3⟩ := v_bad hfits
    have HVB := Lib.hid v3
    clear hw hln hfits b0 b1 v3
    go_enter Tryz.func4, Tryz.ntmps4
    go_wp2_with fail
    refine (valSpec.new _).mono ?_
    rintro r w1 ⟨kc, F, rfl, hF, hV, hB1⟩
    have HF := Lib.hid hF
    have HV1 := Lib.hid hV
    clear hF hV
    go_wp2_with fail
    refine (awake15_is _).mono ?_
    rintro r w2 ⟨rfl, hb⟩
    have hB2 := hB1.trans (hb.mono hB1.size)
    have HV2 := Lib.hid (valSpec.aside HV1.out (Chg.of_below hb) (F' := fun _ => False) (fun _ _ h => h))
    have hlt2 : w1.heap.size ≤ w2.heap.size := hb.size
    have HFL : Hid (∀ j, F j → j < w2.heap.size) := Lib.hid (fun j hj => valSpec.lt HV2.out j hj)
    clear hb hB1 HV1
    go_wp2_with fail
    refine (HR.out _).mono ?_
    rintro r w3 ⟨o1, n1, c1, rfl, he1, hn1, hb⟩
    subst hn1
    have hB3 := hB2.trans (hb.mono hB2.size)
    have HE1 := Lib.hid he1
    have HV3 := Lib.hid (valSpec.aside HV2.out (Chg.of_below hb) (F' := fun _ => False) (fun _ _ h => h))
    have hlt3 : w2.heap.size ≤ w3.heap.size := hb.size
    have hfd : ∀ (W : World), (Instr.field 33 (.agg #[.slice o1 L.length c1, .int .i64 E, .int .i64 (Q : Int)]) 0).run Tryz.prog W = .ok (.slice o1 L.length c1) W := fun _ => rfl
    clear he1 hb hB2 HV2
    go_wp2_with fail
    have HFi := Lib.hid (refFirst_any HE1.out (by have := HLN.out; omega) HBd.out)
    generalize vF L = X at *
    refine HFi.out.mono ?_
    rintro r w4 ⟨rfl, hb⟩
    have hB4 := hB3.trans (hb.mono hB3.size)
    have HE2 := Lib.hid (HE1.out.below hb)
    have HV4 := Lib.hid (valSpec.aside HV3.out (Chg.of_below hb) (F' := fun _ => False) (fun _ _ h => h))
    have hlt4 : w3.heap.size ≤ w4.heap.size := hb.size
    clear hb hB3 HV3 HE1 HFi
    have HFl : Hid (∀ j, F j → j < w2.heap.size) := HFL
    have hL250 : L.length ≤ 250 := HLN.out
    go_wp2_with fail
    go_loopg [32] L.length (fun gk iv wr => ∃ (i : Nat) (G : Nat → Prop), iv = .int .i64 (i : Int) ∧ i ≤ L.length ∧ L.length - i ≤ gk ∧ Hid (VCk wr kc G (VS.run VS.new (L.take i))) ∧ Hid (Evs wr w2.heap.size (.slice o1 L.length c1) L) ∧ Hid (∀ j, G j → w.heap.size ≤ j) ∧ Hid (∀ j, (Value.slice o1 L.length c1).ownBlock = some j → ¬ G j) ∧ Hid (Below w.heap.size w wr))
    case atStart =>
      refine ⟨0, F, rfl, by omega, by omega, HV4, HE2, HF, Lib.hid (fun j hj hF => ?_), Lib.hid hB4⟩
      have h1 := HFl.out j hF
      have h2 := (HE2.out.lt j hj).1
      omega
    case round =>
      obtain ⟨i, G, rfl, hi, hgk, HV, HE, HG, HD, HB⟩ := hrel
      by_cases hlt : i < L.length
      · have hlt2 : (i : Int) < (L.length : Int) := by omega
        obtain ⟨g, c, hv, hc1, hcm, hgw⟩ : ∃ g c, Value.slice o1 L.length c1 = .slice (some ⟨g, 0, none⟩) L.length c ∧ L.length ≤ c ∧ c ≤ maxLen ∧ g < wr.heap.size := by
          rcases HE.out.shape with ⟨_, hh⟩ | hh
          · rw [hh] at hlt; simp at hlt
          · obtain ⟨g, c, q1, q2, q3, _, q4⟩ := hh
            exact ⟨g, c, q1, q2, q3, q4⟩
        injection hv with v1 _ v3
        subst v1 v3
        have hT := List.take_succ_eq_append_getElem hlt
        have hA := (VS.all_append (L.take i) (L.drop i) VS.new).1 (by rw [List.take_append_drop]; exact HFt.out)
        have hA2 := hA.2
        rw [List.drop_eq_getElem_cons hlt] at hA2
        have hok := VS.ok_run (L.take i) VS.ok_new hA.1
        have hfit := hA2.1
        have hbd := HVB.out (i + 1) hlt
        rw [hT, VS.run_append] at hbd
        have hN : Hid (VS.run VS.new (L.take (i + 1)) = (VS.run VS.new (L.take i)).next L[i]) := Lib.hid (by rw [hT, VS.run_append]; rfl)
        obtain ⟨⟨x0, x1, x2, x3, x4, x5, x6⟩, he⟩ : ∃ e, L[i] = e := ⟨_, rfl⟩
        obtain ⟨y0, y1, y2, y3, y4, y5, y6⟩ := HE.out.evAt i hlt he
        rw [he] at hfit hbd hN
        have hbd : ((VS.run VS.new (L.take i)).next ⟨x0, x1, x2, x3, x4, x5, x6⟩).bad = decide (0 ≤ X ∧ X < ((i + 1 : Nat) : Int)) := hbd
        have HFit := Lib.hid hfit
        have HOk := Lib.hid hok
        have HBd2 := Lib.hid hbd
        have hc1' : i < c1 := by omega
        clear hA hA2 hok hfit hbd hT he HBd HFt HVB HR
        go_upto_region 9 with (fail)
        have HX : Hid (Row (wr.alloc (.cells #[.int .i64 x0, .int .i64 x1, .int .i64 x2, .int .i64 x3, .bool x4, .int .i64 x5, .int .u8 x6] 39)) wr.heap.size 39 (evC ⟨x0, x1, x2, x3, x4, x5, x6⟩)) := Lib.hid (Row.new wr 39 (evC ⟨x0, x1, x2, x3, x4, x5, x6⟩))
        have hbb : Below wr.heap.size wr (wr.alloc (.cells #[.int .i64 x0, .int .i64 x1, .int .i64 x2, .int .i64 x3, .bool x4, .int .i64 x5, .int .u8 x6] 39)) := (Below.refl _ _).alloc (Nat.le_refl _) _
        have HV5 := Lib.hid (valSpec.aside HV.out (Chg.of_below hbb) (F' := fun _ => False) (fun _ _ h => h))
        have HE5 := Lib.hid (HE.out.below hbb)
        have HB5 := Lib.hid (HB.out.trans (hbb.mono HB.out.size))
        have hgW : g < (wr.alloc (.cells #[.int .i64 x0, .int .i64 x1, .int .i64 x2, .int .i64 x3, .bool x4, .int .i64 x5, .int .u8 x6] 39)).heap.size := Nat.lt_of_lt_of_le hgw hbb.size
        clear hbb HV HE HB y0 y1 y2 y3 y4 y5 y6
        generalize wr.alloc (.cells #[.int .i64 x0, .int .i64 x1, .int .i64 x2, .int .i64 x3, .bool x4, .int .i64 x5, .int .u8 x6] 39) = W at *
        generalize wr.heap.size = bx at *
        obtain ⟨k0, k1, k2, k3, k4, k5, k6⟩ := ev_facts HX.out
        have HP := Lib.hid (valSpec.push _ HV5.out HOk.out HFit.out)
        rw [HBd2.out] at HP
        have hcs : (X < 0 ∧ decide (0 ≤ X ∧ X < ((i + 1 : Nat) : Int)) = false) ∨ (¬ X < 0 ∧ (i : Int) < X ∧ decide (0 ≤ X ∧ X < ((i + 1 : Nat) : Int)) = false) ∨ (¬ X < 0 ∧ ¬ (i : Int) < X ∧ decide (0 ≤ X ∧ X < ((i + 1 : Nat) : Int)) = true) := by
          by_cases h1 : X < 0
          · exact .inl ⟨h1, decide_eq_false (by omega)⟩
          · by_cases h2 : (i : Int) < X
            · exact .inr (.inl ⟨h1, h2, decide_eq_false (by omega)⟩)
            · exact .inr (.inr ⟨h1, h2, decide_eq_true (by omega)⟩)
        clear HFit HOk HBd2 HV5
        rcases hcs with ⟨q1, q2⟩ | ⟨q1, q2, q3⟩ | ⟨q1, q2, q3⟩
        all_goals
          first | rw [q3] at HP | rw [q2] at HP
          first | clear q3 | clear q2
          go_wp2_with fail
          refine HP.out.mono ?_
          rintro r w5 ⟨F5, rfl, hF5, hV5, hc5⟩
          have HE6 := Lib.hid (HE5.out.chg hc5 HD.out)
          have HB6 := Lib.hid (hc5.to_below HB5.out HG.out)
          have HG6 : Hid (∀ j, F5 j → w.heap.size ≤ j) := Lib.hid (fun j hj => by
            rcases hF5 j hj with h | h
            · exact HG.out j h
            · exact Nat.le_trans HB5.out.size h)
          have HD6 : Hid (∀ j, (Value.slice (some ⟨g, 0, none⟩) L.length c1).ownBlock = some j → ¬ F5 j) := Lib.hid (fun j hj hF => by
            rcases hF5 j hF with h | h
            · exact HD.out j hj h
            · have hj2 : g = j := by injection hj
              omega)
          have HV6 := Lib.hid hV5
          rw [← hN.out] at HV6
          clear hc5 hF5 hV5 HE5 HB5 HG HD HP k0 k1 k2 k3 k4 k5 k6 HX
          go_wp2_with fail
          go_roundg (L.length - (i + 1))
          case measure => omega
          case rel => exact ⟨i + 1, F5, by simp, by omega, by omega, HV6, HE6, HG6, HD6, HB6⟩
      · have hlt2 : ¬ (i : Int) < (L.length : Int) := by omega
        have hBf := HB.out
        clear HR HBd HFt HVB HV HE HG HD HB
        go_wp2
        go_returns
        exact ⟨rfl, hBf⟩


/-! ### ValuePushes: the step from the walk to the statement -/
namespace valuePushes
theorem own : ownKnob Tryz.prog.godebug = none := by kernel_rfl
set_option maxRecDepth 100000 in
theorem lifted (os : Os) (started : os.Started) (H : Type) (enc : TypeId × Value → H) :
    ReturnsInHanded {} Tryz.checked os 4 .any (Rows.valuePushesSpec.pre6 enc Tryz.prog Tryz.f4 Rows.valuePushesRow.domain false) (Rows.valuePushesSpec.post enc Tryz.prog Tryz.f4 false true false false) := by
  refine returnsInHanded_of_change (C := Tryz.checked) own started (by kernel_rfl) Tryz.func4
    (ChangeSpec.witness6 (enc := enc) (C := Tryz.checked) false ⟨#[], #[.string ByteArray.empty, .int .i64 0], []⟩ 8 (by kernel_rfl) (by kernel_rfl) (by kernel_rfl) (by kernel_rfl)) ?_
  intro W base args ds gs before hval0 hW hcnd _
  have hval : ∀ (j : Nat) t v, Tryz.f4.params[j]? = some t → args[j]? = some v → Value.okWide Tryz.prog W .any base t v := hval0
  have hW' := hW
  obtain ⟨p, q, hA0, hV, rfl, hfz, hnd⟩ := hW
  have hA : DataW.TrodAll enc Tryz.prog W 0 (fun _ => true) true Tryz.f4.params.toList args.toList ds p := hA0
  rw [Tryz.params4] at hA hval
  obtain ⟨v0, vs0, d0, ds0, p0, q0, hargs, rfl, rfl, h0, r0⟩ := trodAll_cons hA
  obtain ⟨v1, vs1, d1, ds1, p1, q1, rfl, rfl, rfl, h1, r1⟩ := trodAll_cons r0
  obtain ⟨rfl, rfl, rfl⟩ := trodAll_nil r1
  obtain rfl : args = #[v0, v1] := by cases args; simp_all
  obtain ⟨rfl, rfl⟩ := trodVars_none hV
  obtain ⟨a0, rfl, rfl, rfl, w0⟩ := open_string Tryz.underlying9 (hval 0 9 v0 rfl rfl) h0
  obtain ⟨a1, rfl, rfl, rfl, w1⟩ := open_int Tryz.underlying3 (hval 1 3 v1 rfl rfl) h1
  clear hA0 hval0
  simp only [List.append_nil] at hW'
  refine (walkValuePushes a0 a1 w0 (bounds_i64 w1) W).mono fun e W' ⟨he, bel⟩ => ?_
  subst he
  exact ⟨_, rfl, _, _, _, [], [], [], hW', trodAll_mk1 (shut_bool Tryz.underlying4 _), (trodAll_cons_mk (shut_string Tryz.underlying9 w0) (trodAll_cons_mk (shut_int Tryz.underlying3 w1) trodAll_mk0)), rfl, bel.frame _, fun h => by cases h⟩
theorem over : Rows.valuePushesRow.holds Tryz.pinned (OpenSpec.ofChange Rows.valuePushesSpec) :=
  OpenClaim.holds_of_wide 4 Tryz.f4 rfl rfl rfl rfl rfl rfl rfl ⟨rfl, rfl, rfl, rfl, rfl⟩ rfl rfl rfl rfl rfl (by kernel_rfl) Tryz.func4 (by kernel_rfl)
    (of_decide_eq_true (by kernel_rfl)) (by unfold Func.isWrapper; first | (rw [if_pos (by decide +kernel)]; kernel_rfl) | (rw [if_neg (by decide +kernel)]; exact ⟨rfl, rfl⟩))
    (fun os started H enc _ => lifted os started H enc)
/-- THE STATEMENT. -/
theorem proved : Rows.ValuePushesSaid := over
end valuePushes
end Go.Proofs.YtoklcnfpeipalaaGreat
