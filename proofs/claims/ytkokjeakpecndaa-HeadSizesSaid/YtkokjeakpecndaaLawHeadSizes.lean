/- Of every head and number: how many bytes a head has; with another length the identifier stays. No condition but the form of the row. -/
import Derived.Test.YtkokjeakpecndaaHeadAwake
import Derived.Test.YtkokjeakpecndaaCameHead
import Derived.Test.YtkokjeakpecndaaRows
import Derived.WalkKit
import Derived.ProofKit
import Derived.OpenShut
import Derived.ShutString
import Derived.ChangeOld
import Derived.Below
import Derived.Carry
namespace Go.Proofs.Ytkokjeakpecndaa
open Go.ChangeShapes Go.WideShapes Go.ChangeAt Go.RowKit
open Go.ChangeMaps (open_string shut_string)
set_option linter.unusedVariables false
set_option maxRecDepth 100000 in
set_option maxHeartbeats 4000000 in
theorem walkHeadSizes (ha0 hb0 : Int) (hc0 : Bool) (hd0 : Int) (a1 : Int) (ra0 : InI ha0) (rb0 : InI hb0) (rd0 : InI hd0) (b1 : -9223372036854775808 ≤ a1 ∧ a1 ≤ 9223372036854775807) (w : World) :
    Calls Try.prog 8 #[.agg #[.int .i64 ha0, .int .i64 hb0, .bool hc0, .int .i64 hd0], .int .i64 a1] w fun e w' => e = .returned (.bool true) ∧ Below w.heap.size w w' := by
  have HX0 := Lib.hid (Row.new w 23 (hdC ha0 hb0 hc0 hd0))
  have hB0 : Below w.heap.size w (w.alloc (.cells (hdC ha0 hb0 hc0 hd0).toArray 23)) := (Below.refl _ _).alloc (Nat.le_refl _) _
  have H0 := Lib.hid (headPut_all ha0 hb0 hc0 hd0 rd0)
  have H1 := Lib.hid (headPut_all ha0 hb0 hc0 a1 b1)
  have H2 := Lib.hid (headPut_all ha0 hb0 hc0 0 (by decide))
  have hps := hpS_le ha0 hb0 hc0 hd0
  have hpt := hpS_le ha0 hb0 hc0 a1
  have hpz := hpS_le ha0 hb0 hc0 0
  by_cases hin : hdOk ha0 hb0 hd0 = true ∧ hdOk ha0 hb0 a1 = true
  · obtain ⟨h0, h1⟩ := hin
    obtain ⟨z, hz1, hz2, hz3, hz4⟩ := front_head (k := hc0) h0
    obtain ⟨z', hz1', hz2', hz3', hz4'⟩ := front_head (k := hc0) h1
    obtain rfl : z = z' := by omega
    rw [hpE_ok.2 h0] at H0
    rw [hpE_ok.2 h1] at H1
    generalize hpS ha0 hb0 hc0 hd0 = s at *
    generalize hpS ha0 hb0 hc0 a1 = t at *
    generalize hpS ha0 hb0 hc0 0 = p at *
    generalize hpE ha0 hb0 0 = ep at *
    have i1 : (p.size : Int) = (z : Int) + 1 := by omega
    have i2 : (2 : Int) ≤ s.size := by omega
    have i3 : (s.size : Int) ≤ 14 := by omega
    have i4 : (z : Int) + 1 ≤ s.size := by omega
    have i5 : (z : Int) + 1 ≤ t.size := by omega
    have i6 : (2 : Int) ≤ (z : Int) + 1 := by omega
    have i7 : (t.size : Int) ≤ 14 := by omega
    have i8 : (1 : Int) ≤ z := by omega
    clear h0 h1 hz1'
    clear hz1 hz2 hz3 hz2' hz3' hps hpt hpz
    go_enter Try.func8, Try.ntmps8
    go_wp2_with fail
    refine (H0.out _).mono ?_
    rintro e w1 ⟨rfl, hb⟩
    have HX1 := Lib.hid (HX0.out.below hb HX0.out.lt)
    have hB1 := hB0.trans (hb.mono hB0.size)
    clear hb hB0
    obtain ⟨ka0, ka1, ka2, ka3, fa0, fa1, fa2, fa3⟩ := head_facts HX1.out
    have hlta := HX1.out.lt
    have HX1 := Lib.hid (HX1.out.set 3 (.int .i64 a1))
    have hB1 := hB1.setCell (p := ⟨w.heap.size, 3, none⟩) (Nat.le_refl _) (.int .i64 a1)
    go_wp2_with fail
    refine (H1.out _).mono ?_
    rintro e w2 ⟨rfl, hb⟩
    clear ka0 ka1 ka2 ka3 fa0 fa1 fa2 fa3 hlta
    have HX2 := Lib.hid (HX1.out.below hb HX1.out.lt)
    have hB2 := hB1.trans (hb.mono hB1.size)
    clear hb hB1
    go_wp2_with fail
    refine (awake07_any _).mono ?_
    rintro e w3 ⟨rfl, hb⟩
    have HX3 := Lib.hid (HX2.out.below hb HX2.out.lt)
    have hB3 := hB2.trans (hb.mono hB2.size)
    clear hb hB2
    obtain ⟨ka0, ka1, ka2, ka3, fa0, fa1, fa2, fa3⟩ := head_facts (show Row w3 w.heap.size 23 (hdC ha0 hb0 hc0 a1) from HX3.out)
    have hlta := HX3.out.lt
    have HX3 := Lib.hid (HX3.out.set 3 (.int .i64 0))
    have hB3 := hB3.setCell (p := ⟨w.heap.size, 3, none⟩) (Nat.le_refl _) (.int .i64 0)
    go_wp2_with fail
    refine (H2.out _).mono ?_
    rintro e w4 ⟨rfl, hb⟩
    have hB4 := hB3.trans (hb.mono hB3.size)
    clear hb hB3 ka0 ka1 ka2 ka3 fa0 fa1 fa2 fa3 hlta HX3
    go_wp2
    go_quiet (fail)
    go_wp2
    go_returns
    exact ⟨rfl, ⟨hB4.os, hB4.tape, hB4.output, hB4.size, hB4.block⟩⟩
  · have hw : hpE ha0 hb0 hd0 = 1 ∨ (hpE ha0 hb0 hd0 = 0 ∧ hpE ha0 hb0 a1 = 1) := by
      by_cases h0 : hdOk ha0 hb0 hd0 = true
      · right; exact ⟨hpE_ok.2 h0, hpE_bad fun h => hin ⟨h0, h⟩⟩
      · left; exact hpE_bad h0
    generalize hpE ha0 hb0 hd0 = e0 at *
    generalize hpE ha0 hb0 a1 = e1 at *
    generalize hpS ha0 hb0 hc0 hd0 = s at *
    generalize hpS ha0 hb0 hc0 a1 = t at *
    clear hin H2 hps hpt hpz
    rcases hw with rfl | ⟨rfl, rfl⟩
    all_goals
      go_enter Try.func8, Try.ntmps8
      go_wp2_with fail
      refine (H0.out _).mono ?_
      rintro e w1 ⟨rfl, hb⟩
      have HX1 := Lib.hid (HX0.out.below hb HX0.out.lt)
      have hB1 := hB0.trans (hb.mono hB0.size)
      clear hb hB0
      obtain ⟨ka0, ka1, ka2, ka3, fa0, fa1, fa2, fa3⟩ := head_facts HX1.out
      have hlta := HX1.out.lt
      have HX1 := Lib.hid (HX1.out.set 3 (.int .i64 a1))
      have hB1 := hB1.setCell (p := ⟨w.heap.size, 3, none⟩) (Nat.le_refl _) (.int .i64 a1)
      go_wp2_with fail
      refine (H1.out _).mono ?_
      rintro e w2 ⟨rfl, hb⟩
      clear ka0 ka1 ka2 ka3 fa0 fa1 fa2 fa3 hlta
      have hB2 := hB1.trans (hb.mono hB1.size)
      clear hb hB1
      go_wp2_with fail
      refine (awake07_any _).mono ?_
      rintro e w3 ⟨rfl, hb⟩
      have hB3 := hB2.trans (hb.mono hB2.size)
      clear hb hB2
      go_wp2_with fail
      refine (awake07_any _).mono ?_
      rintro e w4 ⟨rfl, hb⟩
      have hB4 := hB3.trans (hb.mono hB3.size)
      clear hb hB3
      go_wp2
      go_returns
      exact ⟨rfl, hB4⟩


/-! ### HeadSizes: the step from the walk to the statement -/
namespace headSizes
theorem own : ownKnob Try.prog.godebug = none := by kernel_rfl
theorem laidOut : laidOutB Try.prog = true := by kernel_rfl
set_option maxRecDepth 100000 in
theorem lifted (os : Os) (started : os.Started) (H : Type) (enc : TypeId × Value → H) :
    ReturnsInHanded {} Try.checked os 8 .any (Rows.headSizesSpec.pre6 enc Try.prog Try.f8 Rows.headSizesRow.domain false) (Rows.headSizesSpec.post enc Try.prog Try.f8 false true false false) := by
  refine returnsInHanded_of_change (C := Try.checked) own started (by kernel_rfl) Try.func8
    (ChangeSpec.witness6 (enc := enc) (C := Try.checked) false ⟨#[], #[.agg #[.int .i64 0, .int .i64 0, .bool false, .int .i64 0], .int .i64 0], []⟩ 8 (by kernel_rfl) (by kernel_rfl) (by kernel_rfl) (by kernel_rfl)) ?_
  intro W base args ds gs before hval0 hW hcnd _
  have hval : ∀ (j : Nat) t v, Try.f8.params[j]? = some t → args[j]? = some v → Value.okWide Try.prog W .any base t v := hval0
  have hW' := hW
  obtain ⟨p, q, hA0, hV, rfl, hfz, hnd⟩ := hW
  have hA : DataW.TrodAll enc Try.prog W 0 (fun _ => true) true Try.f8.params.toList args.toList ds p := hA0
  rw [Try.params8] at hA hval
  obtain ⟨v0, vs0, d0, ds0, p0, q0, hargs, rfl, rfl, h0, r0⟩ := trodAll_cons hA
  obtain ⟨v1, vs1, d1, ds1, p1, q1, rfl, rfl, rfl, h1, r1⟩ := trodAll_cons r0
  obtain ⟨rfl, rfl, rfl⟩ := trodAll_nil r1
  obtain rfl : args = #[v0, v1] := by cases args; simp_all
  obtain ⟨rfl, rfl⟩ := trodVars_none hV
  have k0 := h0
  have lt0 : ∀ x ∈ p0, x.block < W.heap.size := by obtain ⟨m, hm⟩ := k0; exact DataW.trod_lt m _ _ _ hm
  obtain ⟨ha0, hb0, hc0, hd0, rfl, ra0, rb0, rd0⟩ := came_head Try.underlying23 (by kernel_rfl) rfl rfl rfl rfl (by kernel_rfl) (by kernel_rfl) (by kernel_rfl) (by kernel_rfl) Try.underlying3 Try.underlying3 Try.underlying4 Try.underlying3 (hval 0 23 v0 rfl rfl) h0
  obtain ⟨a1, rfl, rfl, rfl, w1⟩ := open_int Try.underlying3 (hval 1 3 v1 rfl rfl) h1
  clear hA0 hval0
  refine (walkHeadSizes ha0 hb0 hc0 hd0 a1 ra0 rb0 rd0 (bounds_i64 w1) W).mono fun e W' ⟨he, bel⟩ => ?_
  subst he
  exact ⟨_, rfl, _, _, _, [], _, [], hW', trodAll_mk1 (shut_bool Try.underlying4 _), (trodAll_cons_mk (Below.trod laidOut (by kernel_rfl) (of_decide_eq_true (by kernel_rfl)) k0 bel lt0) (trodAll_cons_mk (shut_int Try.underlying3 w1) trodAll_mk0)), rfl, bel.frame _, fun h => by cases h⟩
theorem over : Rows.headSizesRow.holds Try.pinned (OpenSpec.ofChange Rows.headSizesSpec) :=
  OpenClaim.holds_of_wide 8 Try.f8 rfl rfl rfl rfl rfl rfl rfl ⟨rfl, rfl, rfl, rfl, rfl⟩ rfl rfl rfl rfl rfl (by kernel_rfl) Try.func8 (by kernel_rfl)
    (of_decide_eq_true (by kernel_rfl)) (by unfold Func.isWrapper; first | (rw [if_pos (by decide +kernel)]; kernel_rfl) | (rw [if_neg (by decide +kernel)]; exact ⟨rfl, rfl⟩))
    (fun os started H enc _ => lifted os started H enc)
/-- THE STATEMENT. -/
theorem proved : Rows.HeadSizesSaid := over
end headSizes
end Go.Proofs.Ytkokjeakpecndaa
