/- Of every head: how many bytes its identifier has, and what class and form change of them. No condition but the form of the row. -/
import Derived.Test.YtkgnahdcdmeogaaIdentLaw
import Derived.Test.YtkgnahdcdmeogaaCameHead
import Derived.Test.YtkgnahdcdmeogaaRows
import Derived.WalkKit
import Derived.ProofKit
import Derived.OpenShut
import Derived.ShutString
import Derived.ChangeOld
import Derived.Below
import Derived.Carry
namespace Go.Proofs.Ytkgnahdcdmeogaa
open Go.ChangeShapes Go.WideShapes Go.ChangeAt Go.RowKit
open Go.ChangeMaps (open_string shut_string)
set_option linter.unusedVariables false
theorem walkIdentSizes (ha0 hb0 : Int) (hc0 : Bool) (hd0 : Int) (ra0 : InI ha0) (rb0 : InI hb0) (rd0 : InI hd0) (w : World) :
    Calls Try.prog 8 #[.agg #[.int .i64 ha0, .int .i64 hb0, .bool hc0, .int .i64 hd0]] w fun e w' => e = .returned (.bool true) ∧ Below w.heap.size w w' := by
  have HX0 := Lib.hid (Row.new w 23 (hdC ha0 hb0 hc0 hd0))
  have hB0 : Below w.heap.size w (w.alloc (.cells #[.int .i64 ha0, .int .i64 hb0, .bool hc0, .int .i64 hd0] 23)) := (Below.refl _ _).alloc (Nat.le_refl _) _
  have hps := putS_le ha0 hb0 hc0
  have H0 := Lib.hid (identPut_all ha0 hb0 hc0 hd0)
  by_cases hok : idOk ha0 hb0 = true
  · obtain ⟨h0, h1, h2, h3⟩ := idOk_iff.1 hok
    have hok0 : idOk 0 hb0 = true := idOk_iff.2 ⟨by decide, by decide, h2, h3⟩
    have H1 := Lib.hid (identPut_all 0 hb0 false 0)
    rw [putE_ok.2 hok] at H0
    rw [putE_ok.2 hok0] at H1
    obtain ⟨z, hz⟩ : ∃ z, (putS ha0 hb0 hc0).size = z := ⟨_, rfl⟩
    have hz2 : (putS 0 hb0 false).size = z := by rw [← hz, sizes_len hok, sizes_len hok0]
    have hzl := hz
    rw [sizes_len hok] at hzl
    have hz1 : 1 ≤ z := by rw [← hzl]; split <;> omega
    have hF := first_bt (cons := hc0) hok
    have hF0 := first_bt (cons := false) hok0
    obtain ⟨hp1, hp2, hp3⟩ := first_parts (cons := hc0) hok
    have hx := first_bd (cons := hc0) h0 h1 h2
    have hx0 := first_bd (cls := 0) (cons := false) (by decide) (by decide) h2
    have hext : (putS ha0 hb0 hc0).extract 1 z = (putS 0 hb0 false).extract 1 z := by
      apply bl_inj
      rw [bl_extract _ _ _ (by omega), bl_extract _ _ _ (by omega), bl_putS hok, bl_putS hok0, idPut_tail ha0 hb0 hc0 0 false]
    generalize putS ha0 hb0 hc0 = s at *
    generalize putS 0 hb0 false = p at *
    generalize first ha0 hb0 hc0 = F at *
    generalize first 0 hb0 false = F0 at *
    have hg := Go.PlainAid.get_bt s 0 (by omega)
    have hg0 := Go.PlainAid.get_bt p 0 (by omega)
    rw [hF] at hg
    rw [hF0] at hg0
    have q1 : (F % 32 == F0 % 32) = true := beq_yes hp3
    have q2 : (F / 64 == ha0) = true := beq_yes hp1
    have q3 : ((F / 32 % 2 == 1) == hc0) = true := by rw [show (F / 32 % 2 == 1) = hc0 from hp2]; cases hc0 <;> rfl
    have hzne : ((z : Int) == 0) = false := beq_no (by omega)
    obtain ⟨x0, x1⟩ := hx
    obtain ⟨y0, y1⟩ := hx0
    clear hok hok0 hp1 hp2 hp3 hF hF0
    by_cases ht : hb0 < 31
    · rw [if_pos ht] at hzl
      subst hzl
      go_enter Try.func8, Try.ntmps8
      go_wp2_with fail
      refine (H0.out _).mono ?_
      rintro e w1 ⟨rfl, hb⟩
      have hB1 := hB0.trans (hb.mono hB0.size)
      have HX1 := Lib.hid (HX0.out.below hb HX0.out.lt)
      clear hb hB0 HX0
      go_wp2_with fail
      refine (awake05_any _).mono ?_
      rintro e w2 ⟨rfl, hb⟩
      have hB2 := hB1.trans (hb.mono hB1.size)
      have HX2 := Lib.hid (HX1.out.below hb HX1.out.lt)
      obtain ⟨k0, k1, k2, k3, _, _, _, _⟩ := head_facts HX2.out
      clear hb hB1 HX1
      go_wp2_with fail
      refine (H1.out _).mono ?_
      rintro e w3 ⟨rfl, hb⟩
      have hB3 := hB2.trans (hb.mono hB2.size)
      have HX3 := Lib.hid (HX2.out.below hb HX2.out.lt)
      clear k0 k1 k2 k3 hb hB2 HX2 H0 H1
      obtain ⟨k0, k1, k2, k3, _, _, _, _⟩ := head_facts HX3.out
      go_wp2
      go_quiet (fail)
      go_wp2
      go_returns
      exact ⟨rfl, ⟨hB3.os, hB3.tape, hB3.output, hB3.size, hB3.block⟩⟩
    · rw [if_neg ht] at hzl
      have ht2 : 31 ≤ hb0 := by omega
      have HZL := Lib.hid hzl
      obtain ⟨tg, htg⟩ : ∃ tg : Nat, hb0 = (tg : Int) := ⟨hb0.toNat, by omega⟩
      subst htg
      clear hzl ht
      go_enter Try.func8, Try.ntmps8
      go_wp2_with fail
      refine (H0.out _).mono ?_
      rintro e w1 ⟨rfl, hb⟩
      have hB1 := hB0.trans (hb.mono hB0.size)
      have HX1 := Lib.hid (HX0.out.below hb HX0.out.lt)
      clear hb hB0 HX0
      go_wp2_with fail
      refine (awake05_any _).mono ?_
      rintro e w2 ⟨rfl, hb⟩
      have hB2 := hB1.trans (hb.mono hB1.size)
      have HX2 := Lib.hid (HX1.out.below hb HX1.out.lt)
      obtain ⟨k0, k1, k2, k3, _, _, _, _⟩ := head_facts HX2.out
      clear hb hB1 HX1
      go_wp2_with fail
      refine (H1.out _).mono ?_
      rintro e w3 ⟨rfl, hb⟩
      have hB3 := hB2.trans (hb.mono hB2.size)
      have HX3 := Lib.hid (HX2.out.below hb HX2.out.lt)
      clear k0 k1 k2 k3 hb hB2 HX2 H0 H1
      obtain ⟨k0, k1, k2, k3, _, _, _, _⟩ := head_facts HX3.out
      go_wp2
      go_loop [7, 8] (fun nv tv => ∃ k t : Nat, nv = .int .i64 (k : Int) ∧ tv = .int .i64 (t : Int) ∧ t ≤ tg ∧ Hid (k + (loG t).length = z)) (fun _ tv => (intOf tv).toNat)
      case atStart => exact ⟨1, tg, rfl, rfl, Nat.le_refl _, Lib.hid (by have := HZL.out; simpa using this)⟩
      case round =>
        obtain ⟨k, t, rfl, rfl, htt, HK⟩ := hrel
        by_cases h00 : t = 0
        · subst h00
          have hkz : k = z := by have := HK.out; rw [loG_zero] at this; simpa using this
          subst hkz
          go_wp2
          go_quiet (fail)
          go_wp2
          go_returns
          exact ⟨rfl, ⟨hB3.os, hB3.tape, hB3.output, hB3.size, hB3.block⟩⟩
        · have h01 : (0 : Int) < (t : Int) := by omega
          have hk4 : k ≤ 5 := by have := HK.out; omega
          have HK2 := Lib.hid (show k + 1 + (loG (t / 128)).length = z by have := HK.out; rw [loG_half h00] at this; omega)
          clear HK
          go_wp2
          go_round
          case rel => exact ⟨k + 1, t / 128, by simp, by simp, by omega, HK2⟩
          case measure => simp [intOf]; omega
  · have hE : putE ha0 hb0 = 1 := by unfold putE; rw [if_neg hok]
    rw [hE] at H0
    generalize putS ha0 hb0 hc0 = s at *
    clear hok hE
    go_enter Try.func8, Try.ntmps8
    go_wp2_with fail
    refine (H0.out _).mono ?_
    rintro e w1 ⟨rfl, hb⟩
    have hB1 := hB0.trans (hb.mono hB0.size)
    clear hb hB0
    go_wp2_with fail
    refine (awake05_any _).mono ?_
    rintro e w2 ⟨rfl, hb⟩
    have hB2 := hB1.trans (hb.mono hB1.size)
    clear hb hB1
    go_wp2_with fail
    refine (awake05_any _).mono ?_
    rintro e w3 ⟨rfl, hb⟩
    have hB3 := hB2.trans (hb.mono hB2.size)
    clear hb hB2
    go_wp2
    go_returns
    exact ⟨rfl, hB3⟩


/-! ### IdentSizes: the step from the walk to the statement -/
namespace identSizes
theorem own : ownKnob Try.prog.godebug = none := by kernel_rfl
theorem laidOut : laidOutB Try.prog = true := by kernel_rfl
set_option maxRecDepth 100000 in
theorem lifted (os : Os) (started : os.Started) (H : Type) (enc : TypeId × Value → H) :
    ReturnsInHanded {} Try.checked os 8 .any (Rows.identSizesSpec.pre6 enc Try.prog Try.f8 Rows.identSizesRow.domain false) (Rows.identSizesSpec.post enc Try.prog Try.f8 false true false false) := by
  refine returnsInHanded_of_change (C := Try.checked) own started (by kernel_rfl) Try.func8
    (ChangeSpec.witness6 (enc := enc) (C := Try.checked) false ⟨#[], #[.agg #[.int .i64 0, .int .i64 0, .bool false, .int .i64 0]], []⟩ 8 (by kernel_rfl) (by kernel_rfl) (by kernel_rfl) (by kernel_rfl)) ?_
  intro W base args ds gs before hval0 hW hcnd _
  have hval : ∀ (j : Nat) t v, Try.f8.params[j]? = some t → args[j]? = some v → Value.okWide Try.prog W .any base t v := hval0
  have hW' := hW
  obtain ⟨p, q, hA0, hV, rfl, hfz, hnd⟩ := hW
  have hA : DataW.TrodAll enc Try.prog W 0 (fun _ => true) true Try.f8.params.toList args.toList ds p := hA0
  rw [Try.params8] at hA hval
  obtain ⟨v0, vs0, d0, ds0, p0, q0, hargs, rfl, rfl, h0, r0⟩ := trodAll_cons hA
  obtain ⟨rfl, rfl, rfl⟩ := trodAll_nil r0
  obtain rfl : args = #[v0] := by cases args; simp_all
  obtain ⟨rfl, rfl⟩ := trodVars_none hV
  have k0 := h0
  have lt0 : ∀ x ∈ p0, x.block < W.heap.size := by obtain ⟨m, hm⟩ := k0; exact DataW.trod_lt m _ _ _ hm
  obtain ⟨ha0, hb0, hc0, hd0, rfl, ra0, rb0, rd0⟩ := came_head Try.underlying23 (by kernel_rfl) rfl rfl rfl rfl (by kernel_rfl) (by kernel_rfl) (by kernel_rfl) (by kernel_rfl) Try.underlying3 Try.underlying3 Try.underlying4 Try.underlying3 (hval 0 23 v0 rfl rfl) h0
  clear hA0 hval0
  refine (walkIdentSizes ha0 hb0 hc0 hd0 ra0 rb0 rd0 W).mono fun e W' ⟨he, bel⟩ => ?_
  subst he
  exact ⟨_, rfl, _, _, _, [], _, [], hW', trodAll_mk1 (shut_bool Try.underlying4 _), (trodAll_cons_mk (Below.trod laidOut (by kernel_rfl) (of_decide_eq_true (by kernel_rfl)) k0 bel lt0) trodAll_mk0), rfl, bel.frame _, fun h => by cases h⟩
theorem over : Rows.identSizesRow.holds Try.pinned (OpenSpec.ofChange Rows.identSizesSpec) :=
  OpenClaim.holds_of_wide 8 Try.f8 rfl rfl rfl rfl rfl rfl rfl ⟨rfl, rfl, rfl, rfl, rfl⟩ rfl rfl rfl rfl rfl (by kernel_rfl) Try.func8 (by kernel_rfl)
    (of_decide_eq_true (by kernel_rfl)) (by unfold Func.isWrapper; first | (rw [if_pos (by decide +kernel)]; kernel_rfl) | (rw [if_neg (by decide +kernel)]; exact ⟨rfl, rfl⟩))
    (fun os started H enc _ => lifted os started H enc)
/-- THE STATEMENT. -/
theorem proved : Rows.IdentSizesSaid := over
end identSizes
end Go.Proofs.Ytkgnahdcdmeogaa
