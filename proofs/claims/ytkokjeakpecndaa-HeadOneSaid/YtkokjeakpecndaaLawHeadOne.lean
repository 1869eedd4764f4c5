/- Of every bytes (of more than 300 the law asks only for the fixed answers): what is got is put as it was; a beginning of it is cut off. No condition but the form of the row. -/
import Derived.Test.YtkokjeakpecndaaHeadAwake
import Derived.Test.YtkokjeakpecndaaCameHead
import Derived.Test.YtkokjeakpecndaaRows
import Derived.WalkKit
import Derived.ProofKit
import Derived.OpenShut
import Derived.ShutString
import Derived.ChangeOld
import Derived.Below
namespace Go.Proofs.Ytkokjeakpecndaa
open Go.ChangeShapes Go.WideShapes Go.ChangeAt Go.RowKit
open Go.ChangeMaps (open_string shut_string)
set_option linter.unusedVariables false
set_option maxRecDepth 100000 in
set_option maxHeartbeats 4000000 in
theorem walkHeadOne (a0 : ByteArray) (a1 : Int) (b0 : a0.size ≤ maxLen) (b1 : -9223372036854775808 ≤ a1 ∧ a1 ≤ 9223372036854775807) (w : World) :
    Calls Try.prog 7 #[.string a0, .int .i64 a1] w fun e w' => e = .returned (.bool true) ∧ Below w.heap.size w w' := by
  by_cases hl : (300 : Int) < (a0.size : Int)
  · clear b0
    go_enter Try.func7, Try.ntmps7
    go_wp2_with fail
    refine (awake07_any _).mono ?_
    rintro e w1 ⟨rfl, hB1⟩
    go_wp2_with fail
    refine (awake07_any _).mono ?_
    rintro e w2 ⟨rfl, hb⟩
    have hB2 := hB1.trans (hb.mono hB1.size)
    clear hb hB1
    go_wp2
    go_returns
    exact ⟨rfl, hB2⟩
  · have hl2 : (a0.size : Int) ≤ 300 := by omega
    have HOK := Lib.hid (one_head a0)
    have HNO := Lib.hid (bad_head a0)
    have HBD := Lib.hid (hgAt_bd a0 0)
    obtain ⟨g, hg⟩ : ∃ g, hgAt a0 0 = g := ⟨_, rfl⟩
    have HG := Lib.hid (fun (i : Nat) (h : hgAt (a0.extract 0 i) 0 = (0, 0, false, 0, (i : Int), 2)) => headGet_is (a0.extract 0 i) 0 (by rw [ByteArray.size_extract]; unfold maxLen; omega) (by decide) h)
    rw [hg] at HOK HNO HBD
    obtain ⟨c, t, k, v, n, er⟩ := g
    have H1 := Lib.hid (headGet_is a0 0 b0 (by decide) hg)
    clear hg b0
    simp only at HOK HNO HBD
    by_cases he : er = 0
    · subst he
      obtain ⟨n', hn', hn1, hn2, hp1, hp2, hcut⟩ := HOK.out rfl
      have hn1' : (2 : Int) ≤ n' := by omega
      have hn2' : (n' : Int) ≤ a0.size := by omega
      subst hn'
      have HP := Lib.hid (headPut_all c t k v (by have := HBD.out; omega))
      rw [hp1, hp2] at HP
      have HC := Lib.hid hcut
      clear HOK HNO hp1 hp2 hcut
      by_cases hc : 0 ≤ a1 ∧ a1 < n'
      · obtain ⟨c0, c1⟩ := hc
        obtain ⟨i, rfl⟩ := Int.eq_ofNat_of_zero_le c0
        have H3 := Lib.hid (HG.out i (HC.out i (by omega)))
        clear HG HC b1
        go_enter Try.func7, Try.ntmps7
        go_wp2_with fail
        refine (awake07_any _).mono ?_
        rintro e w1 ⟨rfl, hB1⟩
        go_wp2_with fail
        refine (H1.out _).mono ?_
        rintro e w2 ⟨rfl, hb⟩
        have hB2 := hB1.trans (hb.mono hB1.size)
        clear hb hB1
        have hB2 := hB2.alloc hB2.size (.cells (hdC c t k v).toArray 23)
        go_wp2_with fail
        refine (HP.out _).mono ?_
        rintro e w3 ⟨rfl, hb⟩
        have hB3 := hB2.trans (hb.mono hB2.size)
        clear hb hB2
        go_wp2_with fail
        refine (H3.out _).mono ?_
        rintro e w4 ⟨rfl, hb⟩
        have hB4 := hB3.trans (hb.mono hB3.size)
        clear hb hB3
        go_wp2
        go_ret
        exact ⟨rfl, hB4.alloc hB4.size _⟩
      · have hw : a1 < 0 ∨ (0 ≤ a1 ∧ (n' : Int) ≤ a1) := by omega
        clear hc HG HC
        rcases hw with h | ⟨h, h'⟩
        all_goals
          go_enter Try.func7, Try.ntmps7
          go_wp2_with fail
          refine (awake07_any _).mono ?_
          rintro e w1 ⟨rfl, hB1⟩
          go_wp2_with fail
          refine (H1.out _).mono ?_
          rintro e w2 ⟨rfl, hb⟩
          have hB2 := hB1.trans (hb.mono hB1.size)
          clear hb hB1
          have hB2 := hB2.alloc hB2.size (.cells (hdC c t k v).toArray 23)
          go_wp2_with fail
          refine (HP.out _).mono ?_
          rintro e w3 ⟨rfl, hb⟩
          have hB3 := hB2.trans (hb.mono hB2.size)
          clear hb hB2
          go_wp2
          go_returns
          exact ⟨rfl, hB3⟩
    · obtain ⟨h1, h2, h3, h4, h5, h6⟩ := HNO.out he
      subst h1 h2 h3 h4
      have heq : (er != 0) = true := by simpa using he
      clear HOK HNO HG HBD he
      go_enter Try.func7, Try.ntmps7
      go_wp2_with fail
      refine (awake07_any _).mono ?_
      rintro e w1 ⟨rfl, hB1⟩
      go_wp2_with fail
      refine (H1.out _).mono ?_
      rintro e w2 ⟨rfl, hb⟩
      have hB2 := hB1.trans (hb.mono hB1.size)
      clear hb hB1
      have hB2 := hB2.alloc hB2.size (.cells (hdC 0 0 false 0).toArray 23)
      go_wp2
      go_ret
      exact ⟨rfl, hB2⟩


/-! ### HeadOne: the step from the walk to the statement -/
namespace headOne
theorem own : ownKnob Try.prog.godebug = none := by kernel_rfl
set_option maxRecDepth 100000 in
theorem lifted (os : Os) (started : os.Started) (H : Type) (enc : TypeId × Value → H) :
    ReturnsInHanded {} Try.checked os 7 .any (Rows.headOneSpec.pre6 enc Try.prog Try.f7 Rows.headOneRow.domain false) (Rows.headOneSpec.post enc Try.prog Try.f7 false true false false) := by
  refine returnsInHanded_of_change (C := Try.checked) own started (by kernel_rfl) Try.func7
    (ChangeSpec.witness6 (enc := enc) (C := Try.checked) false ⟨#[], #[.string ByteArray.empty, .int .i64 0], []⟩ 8 (by kernel_rfl) (by kernel_rfl) (by kernel_rfl) (by kernel_rfl)) ?_
  intro W base args ds gs before hval0 hW hcnd _
  have hval : ∀ (j : Nat) t v, Try.f7.params[j]? = some t → args[j]? = some v → Value.okWide Try.prog W .any base t v := hval0
  have hW' := hW
  obtain ⟨p, q, hA0, hV, rfl, hfz, hnd⟩ := hW
  have hA : DataW.TrodAll enc Try.prog W 0 (fun _ => true) true Try.f7.params.toList args.toList ds p := hA0
  rw [Try.params7] at hA hval
  obtain ⟨v0, vs0, d0, ds0, p0, q0, hargs, rfl, rfl, h0, r0⟩ := trodAll_cons hA
  obtain ⟨v1, vs1, d1, ds1, p1, q1, rfl, rfl, rfl, h1, r1⟩ := trodAll_cons r0
  obtain ⟨rfl, rfl, rfl⟩ := trodAll_nil r1
  obtain rfl : args = #[v0, v1] := by cases args; simp_all
  obtain ⟨rfl, rfl⟩ := trodVars_none hV
  obtain ⟨a0, rfl, rfl, rfl, w0⟩ := open_string Try.underlying9 (hval 0 9 v0 rfl rfl) h0
  obtain ⟨a1, rfl, rfl, rfl, w1⟩ := open_int Try.underlying3 (hval 1 3 v1 rfl rfl) h1
  clear hA0 hval0
  simp only [List.append_nil] at hW'
  refine (walkHeadOne a0 a1 w0 (bounds_i64 w1) W).mono fun e W' ⟨he, bel⟩ => ?_
  subst he
  exact ⟨_, rfl, _, _, _, [], [], [], hW', trodAll_mk1 (shut_bool Try.underlying4 _), (trodAll_cons_mk (shut_string Try.underlying9 w0) (trodAll_cons_mk (shut_int Try.underlying3 w1) trodAll_mk0)), rfl, bel.frame _, fun h => by cases h⟩
theorem over : Rows.headOneRow.holds Try.pinned (OpenSpec.ofChange Rows.headOneSpec) :=
  OpenClaim.holds_of_wide 7 Try.f7 rfl rfl rfl rfl rfl rfl rfl ⟨rfl, rfl, rfl, rfl, rfl⟩ rfl rfl rfl rfl rfl (by kernel_rfl) Try.func7 (by kernel_rfl)
    (of_decide_eq_true (by kernel_rfl)) (by unfold Func.isWrapper; first | (rw [if_pos (by decide +kernel)]; kernel_rfl) | (rw [if_neg (by decide +kernel)]; exact ⟨rfl, rfl⟩))
    (fun os started H enc _ => lifted os started H enc)
/-- THE STATEMENT. -/
theorem proved : Rows.HeadOneSaid := over
end headOne
end Go.Proofs.Ytkokjeakpecndaa
