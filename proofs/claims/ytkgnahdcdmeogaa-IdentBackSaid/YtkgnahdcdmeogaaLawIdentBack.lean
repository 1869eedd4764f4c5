/- Of every head and every text (of more than 100 bytes the law asks only for the fixed answers): what is put is got as it was, whatever stands ahead and behind. No condition but the form of the row. -/
import Derived.Test.YtkgnahdcdmeogaaIdentLaw
import Derived.Test.YtkgnahdcdmeogaaCameHead
import Derived.Test.YtkgnahdcdmeogaaRows
import Derived.WalkKit
import Derived.ProofKit
import Derived.OpenShut
import Derived.ShutString
import Derived.ChangeOld
import Derived.Below
import Derived.Carry
namespace Go.Proofs.Ytkgnahdcdmeogaa
open Go.ChangeShapes Go.WideShapes Go.ChangeAt Go.RowKit
open Go.ChangeMaps (open_string shut_string)
set_option linter.unusedVariables false
theorem walkIdentBack (ha0 hb0 : Int) (hc0 : Bool) (hd0 : Int) (a1 : ByteArray) (ra0 : InI ha0) (rb0 : InI hb0) (rd0 : InI hd0) (b1 : a1.size ≤ maxLen) (w : World) :
    Calls Try.prog 5 #[.agg #[.int .i64 ha0, .int .i64 hb0, .bool hc0, .int .i64 hd0], .string a1] w fun e w' => e = .returned (.bool true) ∧ Below w.heap.size w w' := by
  have HX0 := Lib.hid (Row.new w 23 (hdC ha0 hb0 hc0 hd0))
  have hB0 : Below w.heap.size w (w.alloc (.cells #[.int .i64 ha0, .int .i64 hb0, .bool hc0, .int .i64 hd0] 23)) := (Below.refl _ _).alloc (Nat.le_refl _) _
  by_cases hl : (100 : Int) < (a1.size : Int)
  · clear b1
    go_enter Try.func5, Try.ntmps5
    go_wp2_with fail
    refine (awake05_any _).mono ?_
    rintro e w1 ⟨rfl, hb⟩
    have hB1 := hB0.trans (hb.mono hB0.size)
    go_wp2_with fail
    refine (awake05_any _).mono ?_
    rintro e w2 ⟨rfl, hb⟩
    have hB2 := hB1.trans (hb.mono hB1.size)
    go_wp2
    go_returns
    exact ⟨rfl, hB2⟩
  · have hl2 : (a1.size : Int) ≤ 100 := by omega
    have hps := putS_le ha0 hb0 hc0
    clear b1
    by_cases hok : idOk ha0 hb0 = true
    · have hE := putE_ok.2 hok
      have H1 := Lib.hid (identGet_is (a1 ++ putS ha0 hb0 hc0 ++ a1) a1.size (by rw [ByteArray.size_append, ByteArray.size_append]; unfold maxLen; omega) (back_at a1 hok))
      have H0 := Lib.hid (identPut_all ha0 hb0 hc0 hd0)
      rw [hE] at H0
      generalize putS ha0 hb0 hc0 = s at *
      clear hok hE
      go_enter Try.func5, Try.ntmps5
      go_wp2_with fail
      refine (awake05_any _).mono ?_
      rintro e w1 ⟨rfl, hb⟩
      have HX1 := Lib.hid (HX0.out.below hb HX0.out.lt)
      have hB1 := hB0.trans (hb.mono hB0.size)
      have hlt1 := HX1.out.lt
      obtain ⟨k0, k1, k2, k3, _, _, _, _⟩ := head_facts HX1.out
      have hld := head_load HX1.out
      clear hb hB0 HX0
      go_wp2_with fail
      refine (H0.out _).mono ?_
      rintro e w2 ⟨rfl, hb⟩
      have HX2 := Lib.hid (HX1.out.below hb HX1.out.lt)
      have hB2 := hB1.trans (hb.mono hB1.size)
      clear hb hB1 HX1 k0 k1 k2 k3 hld hlt1
      go_wp2_with fail
      refine (H1.out _).mono ?_
      rintro e w3 ⟨rfl, hb⟩
      have HX3 := Lib.hid (HX2.out.below hb HX2.out.lt)
      have hB3 := hB2.trans (hb.mono hB2.size)
      have hlt3 := HX3.out.lt
      obtain ⟨k0, k1, k2, k3, f0, f1, f2, f3⟩ := head_facts HX3.out
      clear hb hB2 HX2
      go_wp2
      go_ret
      exact ⟨rfl, (hB3.setCell (Nat.le_refl _) _).alloc (by simpa using hB3.size) _⟩
    · have hE : putE ha0 hb0 = 1 := by unfold putE; rw [if_neg hok]
      have hS := putS_bad (cons := hc0) hok
      have H0 := Lib.hid (identPut_all ha0 hb0 hc0 hd0)
      rw [hE, hS] at H0
      clear hok hE hS
      go_enter Try.func5, Try.ntmps5
      go_wp2_with fail
      refine (awake05_any _).mono ?_
      rintro e w1 ⟨rfl, hb⟩
      have HX1 := Lib.hid (HX0.out.below hb HX0.out.lt)
      have hB1 := hB0.trans (hb.mono hB0.size)
      have hlt1 := HX1.out.lt
      obtain ⟨k0, k1, k2, k3, _, _, _, _⟩ := head_facts HX1.out
      have hld := head_load HX1.out
      clear hb hB0 HX0
      go_wp2_with fail
      refine (H0.out _).mono ?_
      rintro e w2 ⟨rfl, hb⟩
      have hB2 := hB1.trans (hb.mono hB1.size)
      clear hb hB1 k0 k1 k2 k3 hld hlt1
      go_wp2
      go_returns
      exact ⟨rfl, hB2⟩


/-! ### IdentBack: the step from the walk to the statement -/
namespace identBack
theorem own : ownKnob Try.prog.godebug = none := by kernel_rfl
theorem laidOut : laidOutB Try.prog = true := by kernel_rfl
set_option maxRecDepth 100000 in
theorem lifted (os : Os) (started : os.Started) (H : Type) (enc : TypeId × Value → H) :
    ReturnsInHanded {} Try.checked os 5 .any (Rows.identBackSpec.pre6 enc Try.prog Try.f5 Rows.identBackRow.domain false) (Rows.identBackSpec.post enc Try.prog Try.f5 false true false false) := by
  refine returnsInHanded_of_change (C := Try.checked) own started (by kernel_rfl) Try.func5
    (ChangeSpec.witness6 (enc := enc) (C := Try.checked) false ⟨#[], #[.agg #[.int .i64 0, .int .i64 0, .bool false, .int .i64 0], .string ByteArray.empty], []⟩ 8 (by kernel_rfl) (by kernel_rfl) (by kernel_rfl) (by kernel_rfl)) ?_
  intro W base args ds gs before hval0 hW hcnd _
  have hval : ∀ (j : Nat) t v, Try.f5.params[j]? = some t → args[j]? = some v → Value.okWide Try.prog W .any base t v := hval0
  have hW' := hW
  obtain ⟨p, q, hA0, hV, rfl, hfz, hnd⟩ := hW
  have hA : DataW.TrodAll enc Try.prog W 0 (fun _ => true) true Try.f5.params.toList args.toList ds p := hA0
  rw [Try.params5] at hA hval
  obtain ⟨v0, vs0, d0, ds0, p0, q0, hargs, rfl, rfl, h0, r0⟩ := trodAll_cons hA
  obtain ⟨v1, vs1, d1, ds1, p1, q1, rfl, rfl, rfl, h1, r1⟩ := trodAll_cons r0
  obtain ⟨rfl, rfl, rfl⟩ := trodAll_nil r1
  obtain rfl : args = #[v0, v1] := by cases args; simp_all
  obtain ⟨rfl, rfl⟩ := trodVars_none hV
  have k0 := h0
  have lt0 : ∀ x ∈ p0, x.block < W.heap.size := by obtain ⟨m, hm⟩ := k0; exact DataW.trod_lt m _ _ _ hm
  obtain ⟨ha0, hb0, hc0, hd0, rfl, ra0, rb0, rd0⟩ := came_head Try.underlying23 (by kernel_rfl) rfl rfl rfl rfl (by kernel_rfl) (by kernel_rfl) (by kernel_rfl) (by kernel_rfl) Try.underlying3 Try.underlying3 Try.underlying4 Try.underlying3 (hval 0 23 v0 rfl rfl) h0
  obtain ⟨a1, rfl, rfl, rfl, w1⟩ := open_string Try.underlying9 (hval 1 9 v1 rfl rfl) h1
  clear hA0 hval0
  refine (walkIdentBack ha0 hb0 hc0 hd0 a1 ra0 rb0 rd0 w1 W).mono fun e W' ⟨he, bel⟩ => ?_
  subst he
  exact ⟨_, rfl, _, _, _, [], _, [], hW', trodAll_mk1 (shut_bool Try.underlying4 _), (trodAll_cons_mk (Below.trod laidOut (by kernel_rfl) (of_decide_eq_true (by kernel_rfl)) k0 bel lt0) (trodAll_cons_mk (shut_string Try.underlying9 w1) trodAll_mk0)), rfl, bel.frame _, fun h => by cases h⟩
theorem over : Rows.identBackRow.holds Try.pinned (OpenSpec.ofChange Rows.identBackSpec) :=
  OpenClaim.holds_of_wide 5 Try.f5 rfl rfl rfl rfl rfl rfl rfl ⟨rfl, rfl, rfl, rfl, rfl⟩ rfl rfl rfl rfl rfl (by kernel_rfl) Try.func5 (by kernel_rfl)
    (of_decide_eq_true (by kernel_rfl)) (by unfold Func.isWrapper; first | (rw [if_pos (by decide +kernel)]; kernel_rfl) | (rw [if_neg (by decide +kernel)]; exact ⟨rfl, rfl⟩))
    (fun os started H enc _ => lifted os started H enc)
/-- THE STATEMENT. -/
theorem proved : Rows.IdentBackSaid := over
end identBack
end Go.Proofs.Ytkgnahdcdmeogaa
