/- Of every head, number and text: a beginning of an identifier's bytes is cut off, at its end; what stands behind plays no part. No condition but the form of the row. -/
import Derived.Test.YtkgnahdcdmeogaaIdentLaw
import Derived.Test.YtkgnahdcdmeogaaCameHead
import Derived.Test.YtkgnahdcdmeogaaRows
import Derived.WalkKit
import Derived.ProofKit
import Derived.OpenShut
import Derived.ShutString
import Derived.ChangeOld
import Derived.Below
import Derived.Carry
namespace Go.Proofs.Ytkgnahdcdmeogaa
open Go.ChangeShapes Go.WideShapes Go.ChangeAt Go.RowKit
open Go.ChangeMaps (open_string shut_string)
set_option linter.unusedVariables false
theorem walkIdentCut (ha0 hb0 : Int) (hc0 : Bool) (hd0 : Int) (a1 : Int) (a2 : ByteArray) (ra0 : InI ha0) (rb0 : InI hb0) (rd0 : InI hd0) (b1 : -9223372036854775808 ≤ a1 ∧ a1 ≤ 9223372036854775807) (b2 : a2.size ≤ maxLen) (w : World) :
    Calls Try.prog 7 #[.agg #[.int .i64 ha0, .int .i64 hb0, .bool hc0, .int .i64 hd0], .int .i64 a1, .string a2] w fun e w' => e = .returned (.bool true) ∧ Below w.heap.size w w' := by
  obtain ⟨n0, n1⟩ := b1
  have HX0 := Lib.hid (Row.new w 23 (hdC ha0 hb0 hc0 hd0))
  have hB0 : Below w.heap.size w (w.alloc (.cells #[.int .i64 ha0, .int .i64 hb0, .bool hc0, .int .i64 hd0] 23)) := (Below.refl _ _).alloc (Nat.le_refl _) _
  have hps := putS_le ha0 hb0 hc0
  have H0 := Lib.hid (identPut_all ha0 hb0 hc0 hd0)
  by_cases hin : idOk ha0 hb0 = true ∧ 0 ≤ a1 ∧ a1 < (putS ha0 hb0 hc0).size ∧ (a2.size : Int) ≤ 100
  · obtain ⟨hok, h0, h1, h2⟩ := hin
    obtain ⟨n, rfl⟩ := Int.eq_ofNat_of_zero_le h0
    have hE := putE_ok.2 hok
    rw [hE] at H0
    have H1 := Lib.hid (identGet_is _ 0 (by rw [ByteArray.size_extract]; unfold maxLen; omega) (cut_at (cons := hc0) hok n (by omega)))
    have H2 := Lib.hid (identGet_is _ 0 (by unfold maxLen; omega) (whole_at0 (cons := hc0) hok))
    have H3 := Lib.hid (identGet_is _ 0 (by rw [ByteArray.size_append]; unfold maxLen; omega) (whole_at (cons := hc0) hok a2))
    generalize putS ha0 hb0 hc0 = s at *
    clear hok hE b2 n0 n1
    go_enter Try.func7, Try.ntmps7
    go_wp2_with fail
    refine (H0.out _).mono ?_
    rintro e w1 ⟨rfl, hb⟩
    have hB1 := hB0.trans (hb.mono hB0.size)
    clear hb hB0
    go_wp2_with fail
    refine (awake05_any _).mono ?_
    rintro e w2 ⟨rfl, hb⟩
    have hB2 := hB1.trans (hb.mono hB1.size)
    clear hb hB1
    go_wp2_with fail
    refine (H1.out _).mono ?_
    rintro e w3 ⟨rfl, hb⟩
    have hB3 := hB2.trans (hb.mono hB2.size)
    have hB3 := hB3.alloc hB3.size (.cells (hdC 0 0 false 0).toArray 23)
    clear hb hB2
    go_wp2_with fail
    refine (H2.out _).mono ?_
    rintro e w4 ⟨rfl, hb⟩
    have hB4 := hB3.trans (hb.mono hB3.size)
    have HX4 := Lib.hid (Row.new w4 23 (hdC ha0 hb0 hc0 0))
    have hB4 := hB4.alloc hB4.size (.cells (hdC ha0 hb0 hc0 0).toArray 23)
    clear hb hB3
    go_wp2_with fail
    refine (H3.out _).mono ?_
    rintro e w5 ⟨rfl, hb⟩
    have HX5 := Lib.hid (HX4.out.below hb HX4.out.lt)
    have hB5 := hB4.trans (hb.mono hB4.size)
    have hlt5 := HX5.out.lt
    obtain ⟨k0, k1, k2, k3, f0, f1, f2, f3⟩ := head_facts HX5.out
    clear hb hB4 H0 H1 H2 H3
    go_wp2
    go_ret
    exact ⟨rfl, hB5.alloc hB5.size _⟩
  · have hbad : (putE ha0 hb0 = 0 ∧ 0 ≤ a1 ∧ a1 < (putS ha0 hb0 hc0).size) → (100 : Int) < a2.size := by
      intro h; rw [putE_ok] at h; apply Int.lt_of_not_ge; intro h2; exact hin ⟨h.1, h.2.1, h.2.2, h2⟩
    have hez : putE ha0 hb0 = 0 ∨ putE ha0 hb0 = 1 := by unfold putE; split <;> simp
    generalize putE ha0 hb0 = er at *
    generalize putS ha0 hb0 hc0 = s at *
    clear hin
    have hw : er = 1 ∨ (er = 0 ∧ a1 < 0) ∨ (er = 0 ∧ 0 ≤ a1 ∧ (s.size : Int) ≤ a1) ∨ (er = 0 ∧ 0 ≤ a1 ∧ a1 < s.size ∧ (100 : Int) < a2.size) := by omega
    clear hbad hez b2
    rcases hw with rfl | ⟨rfl, g1⟩ | ⟨rfl, g1, g2⟩ | ⟨rfl, g1, g2, g3⟩
    all_goals
      go_enter Try.func7, Try.ntmps7
      go_wp2_with fail
      refine (H0.out _).mono ?_
      rintro e w1 ⟨rfl, hb⟩
      have hB1 := hB0.trans (hb.mono hB0.size)
      clear hb hB0
      go_wp2_with fail
      refine (awake05_any _).mono ?_
      rintro e w2 ⟨rfl, hb⟩
      have hB2 := hB1.trans (hb.mono hB1.size)
      clear hb hB1
      go_wp2_with fail
      refine (awake05_any _).mono ?_
      rintro e w3 ⟨rfl, hb⟩
      have hB3 := hB2.trans (hb.mono hB2.size)
      clear hb hB2
      go_wp2
      go_returns
      exact ⟨rfl, hB3⟩


/-! ### IdentCut: the step from the walk to the statement -/
namespace identCut
theorem own : ownKnob Try.prog.godebug = none := by kernel_rfl
theorem laidOut : laidOutB Try.prog = true := by kernel_rfl
set_option maxRecDepth 100000 in
theorem lifted (os : Os) (started : os.Started) (H : Type) (enc : TypeId × Value → H) :
    ReturnsInHanded {} Try.checked os 7 .any (Rows.identCutSpec.pre6 enc Try.prog Try.f7 Rows.identCutRow.domain false) (Rows.identCutSpec.post enc Try.prog Try.f7 false true false false) := by
  refine returnsInHanded_of_change (C := Try.checked) own started (by kernel_rfl) Try.func7
    (ChangeSpec.witness6 (enc := enc) (C := Try.checked) false ⟨#[], #[.agg #[.int .i64 0, .int .i64 0, .bool false, .int .i64 0], .int .i64 0, .string ByteArray.empty], []⟩ 8 (by kernel_rfl) (by kernel_rfl) (by kernel_rfl) (by kernel_rfl)) ?_
  intro W base args ds gs before hval0 hW hcnd _
  have hval : ∀ (j : Nat) t v, Try.f7.params[j]? = some t → args[j]? = some v → Value.okWide Try.prog W .any base t v := hval0
  have hW' := hW
  obtain ⟨p, q, hA0, hV, rfl, hfz, hnd⟩ := hW
  have hA : DataW.TrodAll enc Try.prog W 0 (fun _ => true) true Try.f7.params.toList args.toList ds p := hA0
  rw [Try.params7] at hA hval
  obtain ⟨v0, vs0, d0, ds0, p0, q0, hargs, rfl, rfl, h0, r0⟩ := trodAll_cons hA
  obtain ⟨v1, vs1, d1, ds1, p1, q1, rfl, rfl, rfl, h1, r1⟩ := trodAll_cons r0
  obtain ⟨v2, vs2, d2, ds2, p2, q2, rfl, rfl, rfl, h2, r2⟩ := trodAll_cons r1
  obtain ⟨rfl, rfl, rfl⟩ := trodAll_nil r2
  obtain rfl : args = #[v0, v1, v2] := by cases args; simp_all
  obtain ⟨rfl, rfl⟩ := trodVars_none hV
  have k0 := h0
  have lt0 : ∀ x ∈ p0, x.block < W.heap.size := by obtain ⟨m, hm⟩ := k0; exact DataW.trod_lt m _ _ _ hm
  obtain ⟨ha0, hb0, hc0, hd0, rfl, ra0, rb0, rd0⟩ := came_head Try.underlying23 (by kernel_rfl) rfl rfl rfl rfl (by kernel_rfl) (by kernel_rfl) (by kernel_rfl) (by kernel_rfl) Try.underlying3 Try.underlying3 Try.underlying4 Try.underlying3 (hval 0 23 v0 rfl rfl) h0
  obtain ⟨a1, rfl, rfl, rfl, w1⟩ := open_int Try.underlying3 (hval 1 3 v1 rfl rfl) h1
  obtain ⟨a2, rfl, rfl, rfl, w2⟩ := open_string Try.underlying9 (hval 2 9 v2 rfl rfl) h2
  clear hA0 hval0
  refine (walkIdentCut ha0 hb0 hc0 hd0 a1 a2 ra0 rb0 rd0 (bounds_i64 w1) w2 W).mono fun e W' ⟨he, bel⟩ => ?_
  subst he
  exact ⟨_, rfl, _, _, _, [], _, [], hW', trodAll_mk1 (shut_bool Try.underlying4 _), (trodAll_cons_mk (Below.trod laidOut (by kernel_rfl) (of_decide_eq_true (by kernel_rfl)) k0 bel lt0) (trodAll_cons_mk (shut_int Try.underlying3 w1) (trodAll_cons_mk (shut_string Try.underlying9 w2) trodAll_mk0))), rfl, bel.frame _, fun h => by cases h⟩
theorem over : Rows.identCutRow.holds Try.pinned (OpenSpec.ofChange Rows.identCutSpec) :=
  OpenClaim.holds_of_wide 7 Try.f7 rfl rfl rfl rfl rfl rfl rfl ⟨rfl, rfl, rfl, rfl, rfl⟩ rfl rfl rfl rfl rfl (by kernel_rfl) Try.func7 (by kernel_rfl)
    (of_decide_eq_true (by kernel_rfl)) (by unfold Func.isWrapper; first | (rw [if_pos (by decide +kernel)]; kernel_rfl) | (rw [if_neg (by decide +kernel)]; exact ⟨rfl, rfl⟩))
    (fun os started H enc _ => lifted os started H enc)
/-- THE STATEMENT. -/
theorem proved : Rows.IdentCutSaid := over
end identCut
end Go.Proofs.Ytkgnahdcdmeogaa
