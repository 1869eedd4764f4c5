/- Of every head and every text (of more than 100 bytes the law asks only for the fixed answers): what is put is got as it was, of at most 14 bytes. No condition but the form of the row. -/
import Derived.Test.YtkokjeakpecndaaHeadAwake
import Derived.Test.YtkokjeakpecndaaCameHead
import Derived.Test.YtkokjeakpecndaaRows
import Derived.WalkKit
import Derived.ProofKit
import Derived.OpenShut
import Derived.ShutString
import Derived.ChangeOld
import Derived.Below
import Derived.Carry
namespace Go.Proofs.Ytkokjeakpecndaa
open Go.ChangeShapes Go.WideShapes Go.ChangeAt Go.RowKit
open Go.ChangeMaps (open_string shut_string)
set_option linter.unusedVariables false
set_option maxRecDepth 100000 in
set_option maxHeartbeats 4000000 in
theorem walkHeadBack (ha0 hb0 : Int) (hc0 : Bool) (hd0 : Int) (a1 : ByteArray) (ra0 : InI ha0) (rb0 : InI hb0) (rd0 : InI hd0) (b1 : a1.size ≤ maxLen) (w : World) :
    Calls Try.prog 6 #[.agg #[.int .i64 ha0, .int .i64 hb0, .bool hc0, .int .i64 hd0], .string a1] w fun e w' => e = .returned (.bool true) ∧ Below w.heap.size w w' := by
  have HX0 := Lib.hid (Row.new w 23 (hdC ha0 hb0 hc0 hd0))
  have hB0 : Below w.heap.size w (w.alloc (.cells (hdC ha0 hb0 hc0 hd0).toArray 23)) := (Below.refl _ _).alloc (Nat.le_refl _) _
  by_cases hl : (100 : Int) < (a1.size : Int)
  · clear b1
    go_enter Try.func6, Try.ntmps6
    go_wp2_with fail
    refine (awake07_any _).mono ?_
    rintro e w1 ⟨rfl, hb⟩
    have hB1 := hB0.trans (hb.mono hB0.size)
    clear hb hB0
    go_wp2_with fail
    refine (awake07_any _).mono ?_
    rintro e w2 ⟨rfl, hb⟩
    have hB2 := hB1.trans (hb.mono hB1.size)
    clear hb hB1
    go_wp2
    go_returns
    exact ⟨rfl, hB2⟩
  · have hl2 : (a1.size : Int) ≤ 100 := by omega
    have hps := hpS_le ha0 hb0 hc0 hd0
    have H0 := Lib.hid (headPut_all ha0 hb0 hc0 hd0 rd0)
    clear b1
    by_cases hok : hdOk ha0 hb0 hd0 = true
    · rw [hpE_ok.2 hok] at H0
      have H1 := Lib.hid (headGet_is (a1 ++ hpS ha0 hb0 hc0 hd0 ++ a1) a1.size (by rw [ByteArray.size_append, ByteArray.size_append]; unfold maxLen; omega) (by omega) (back_head a1 hok))
      generalize hpS ha0 hb0 hc0 hd0 = s at *
      have hpsI : (s.size : Int) ≤ 14 := by omega
      clear hok
      go_enter Try.func6, Try.ntmps6
      go_wp2_with fail
      refine (awake07_any _).mono ?_
      rintro e w1 ⟨rfl, hb⟩
      have HX1 := Lib.hid (HX0.out.below hb HX0.out.lt)
      have hB1 := hB0.trans (hb.mono hB0.size)
      clear hb hB0
      obtain ⟨ka0, ka1, ka2, ka3, fa0, fa1, fa2, fa3⟩ := head_facts HX1.out
      have hlta := HX1.out.lt
      go_wp2_with fail
      refine (H0.out _).mono ?_
      rintro e w2 ⟨rfl, hb⟩
      have HX2 := Lib.hid (HX1.out.below hb HX1.out.lt)
      have hB2 := hB1.trans (hb.mono hB1.size)
      clear hb hB1
      clear ka0 ka1 ka2 ka3 fa0 fa1 fa2 fa3 hlta
      obtain ⟨ka0, ka1, ka2, ka3, fa0, fa1, fa2, fa3⟩ := head_facts HX2.out
      have hlta := HX2.out.lt
      go_wp2_with fail
      refine (H1.out _).mono ?_
      rintro e w3 ⟨rfl, hb⟩
      have HX3 := Lib.hid (HX2.out.below hb HX2.out.lt)
      have hB3 := hB2.trans (hb.mono hB2.size)
      clear hb hB2
      clear ka0 ka1 ka2 ka3 fa0 fa1 fa2 fa3 hlta
      obtain ⟨ka0, ka1, ka2, ka3, fa0, fa1, fa2, fa3⟩ := head_facts HX3.out
      have hlta := HX3.out.lt
      go_wp2
      go_ret
      exact ⟨rfl, hB3.alloc hB3.size _⟩
    · rw [hpE_bad hok, hpS_bad hok] at H0
      clear hok
      go_enter Try.func6, Try.ntmps6
      go_wp2_with fail
      refine (awake07_any _).mono ?_
      rintro e w1 ⟨rfl, hb⟩
      have HX1 := Lib.hid (HX0.out.below hb HX0.out.lt)
      have hB1 := hB0.trans (hb.mono hB0.size)
      clear hb hB0
      obtain ⟨ka0, ka1, ka2, ka3, fa0, fa1, fa2, fa3⟩ := head_facts HX1.out
      have hlta := HX1.out.lt
      go_wp2_with fail
      refine (H0.out _).mono ?_
      rintro e w2 ⟨rfl, hb⟩
      have hB2 := hB1.trans (hb.mono hB1.size)
      clear hb hB1
      go_wp2
      go_returns
      exact ⟨rfl, hB2⟩


/-! ### HeadBack: the step from the walk to the statement -/
namespace headBack
theorem own : ownKnob Try.prog.godebug = none := by kernel_rfl
theorem laidOut : laidOutB Try.prog = true := by kernel_rfl
set_option maxRecDepth 100000 in
theorem lifted (os : Os) (started : os.Started) (H : Type) (enc : TypeId × Value → H) :
    ReturnsInHanded {} Try.checked os 6 .any (Rows.headBackSpec.pre6 enc Try.prog Try.f6 Rows.headBackRow.domain false) (Rows.headBackSpec.post enc Try.prog Try.f6 false true false false) := by
  refine returnsInHanded_of_change (C := Try.checked) own started (by kernel_rfl) Try.func6
    (ChangeSpec.witness6 (enc := enc) (C := Try.checked) false ⟨#[], #[.agg #[.int .i64 0, .int .i64 0, .bool false, .int .i64 0], .string ByteArray.empty], []⟩ 8 (by kernel_rfl) (by kernel_rfl) (by kernel_rfl) (by kernel_rfl)) ?_
  intro W base args ds gs before hval0 hW hcnd _
  have hval : ∀ (j : Nat) t v, Try.f6.params[j]? = some t → args[j]? = some v → Value.okWide Try.prog W .any base t v := hval0
  have hW' := hW
  obtain ⟨p, q, hA0, hV, rfl, hfz, hnd⟩ := hW
  have hA : DataW.TrodAll enc Try.prog W 0 (fun _ => true) true Try.f6.params.toList args.toList ds p := hA0
  rw [Try.params6] at hA hval
  obtain ⟨v0, vs0, d0, ds0, p0, q0, hargs, rfl, rfl, h0, r0⟩ := trodAll_cons hA
  obtain ⟨v1, vs1, d1, ds1, p1, q1, rfl, rfl, rfl, h1, r1⟩ := trodAll_cons r0
  obtain ⟨rfl, rfl, rfl⟩ := trodAll_nil r1
  obtain rfl : args = #[v0, v1] := by cases args; simp_all
  obtain ⟨rfl, rfl⟩ := trodVars_none hV
  have k0 := h0
  have lt0 : ∀ x ∈ p0, x.block < W.heap.size := by obtain ⟨m, hm⟩ := k0; exact DataW.trod_lt m _ _ _ hm
  obtain ⟨ha0, hb0, hc0, hd0, rfl, ra0, rb0, rd0⟩ := came_head Try.underlying23 (by kernel_rfl) rfl rfl rfl rfl (by kernel_rfl) (by kernel_rfl) (by kernel_rfl) (by kernel_rfl) Try.underlying3 Try.underlying3 Try.underlying4 Try.underlying3 (hval 0 23 v0 rfl rfl) h0
  obtain ⟨a1, rfl, rfl, rfl, w1⟩ := open_string Try.underlying9 (hval 1 9 v1 rfl rfl) h1
  clear hA0 hval0
  refine (walkHeadBack ha0 hb0 hc0 hd0 a1 ra0 rb0 rd0 w1 W).mono fun e W' ⟨he, bel⟩ => ?_
  subst he
  exact ⟨_, rfl, _, _, _, [], _, [], hW', trodAll_mk1 (shut_bool Try.underlying4 _), (trodAll_cons_mk (Below.trod laidOut (by kernel_rfl) (of_decide_eq_true (by kernel_rfl)) k0 bel lt0) (trodAll_cons_mk (shut_string Try.underlying9 w1) trodAll_mk0)), rfl, bel.frame _, fun h => by cases h⟩
theorem over : Rows.headBackRow.holds Try.pinned (OpenSpec.ofChange Rows.headBackSpec) :=
  OpenClaim.holds_of_wide 6 Try.f6 rfl rfl rfl rfl rfl rfl rfl ⟨rfl, rfl, rfl, rfl, rfl⟩ rfl rfl rfl rfl rfl (by kernel_rfl) Try.func6 (by kernel_rfl)
    (of_decide_eq_true (by kernel_rfl)) (by unfold Func.isWrapper; first | (rw [if_pos (by decide +kernel)]; kernel_rfl) | (rw [if_neg (by decide +kernel)]; exact ⟨rfl, rfl⟩))
    (fun os started H enc _ => lifted os started H enc)
/-- THE STATEMENT. -/
theorem proved : Rows.HeadBackSaid := over
end headBack
end Go.Proofs.Ytkokjeakpecndaa
