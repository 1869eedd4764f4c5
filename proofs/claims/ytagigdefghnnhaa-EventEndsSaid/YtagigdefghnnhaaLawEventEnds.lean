/- Of every text and continuation of at most 300 bytes (of others the law asks only for the fixed answers) and every number: a whole element, cut off anywhere, is cut off; with anything behind it is told at its end that there is more. No condition but the form of the row. -/
import Derived.Test.YtagigdefghnnhaaEvAwake
import Derived.Test.YtagigdefghnnhaaEvLaw
import Derived.Test.YtagigdefghnnhaaRows
import Derived.WalkKit
import Derived.ProofKit
import Derived.OpenShut
import Derived.ShutString
import Derived.ChangeOld
import Derived.Below
namespace Go.Proofs.Ytagigdefghnnhaa
open Go.ChangeShapes Go.WideShapes Go.ChangeAt Go.RowKit
open Go.ChangeMaps (open_string shut_string)
set_option linter.unusedVariables false
set_option maxRecDepth 100000 in
set_option maxHeartbeats 4000000 in
theorem walkEventEnds (a0 : ByteArray) (a1 : Int) (a2 : ByteArray) (b0 : a0.size ≤ maxLen) (b1 : -9223372036854775808 ≤ a1 ∧ a1 ≤ 9223372036854775807) (b2 : a2.size ≤ maxLen) (w : World) :
    Calls Try.prog 8 #[.string a0, .int .i64 a1, .string a2] w fun e w' => e = .returned (.bool true) ∧ Below w.heap.size w w' := by
  have HG := Lib.hid (great_any a0 b0)
  have HM := Lib.hid (great_any a2 b2)
  by_cases hl : (300 : Int) < (a0.size : Int)
  · rw [show decide ((300 : Int) < (a0.size : Int)) = true by simpa using hl] at HG
    clear hl b0 b1 b2 HM
    go_enter Try.func8, Try.ntmps8
    go_wp2_with fail
    refine (awake09_any _).mono ?_
    rintro e w1 ⟨rfl, hB1⟩
    go_wp2_with fail
    refine (HG.out _).mono ?_
    rintro e' w0 ⟨rfl, hw0⟩
    subst hw0
    go_wp2_with fail
    refine (awake09_any _).mono ?_
    rintro e' w9 ⟨rfl, hb⟩
    have hB2 := hB1.trans (hb.mono hB1.size)
    go_wp2
    go_returns
    exact ⟨rfl, hB2⟩
  · rw [show decide ((300 : Int) < (a0.size : Int)) = false by simpa using hl] at HG
    by_cases hl2 : (300 : Int) < (a2.size : Int)
    · rw [show decide ((300 : Int) < (a2.size : Int)) = true by simpa using hl2] at HM
      clear hl hl2 b0 b1 b2
      go_enter Try.func8, Try.ntmps8
      go_wp2_with fail
      refine (awake09_any _).mono ?_
      rintro e w1 ⟨rfl, hB1⟩
      go_wp2_with fail
      refine (HG.out _).mono ?_
      rintro e' w0 ⟨rfl, hw0⟩
      subst hw0
      go_wp2_with fail
      refine (HM.out _).mono ?_
      rintro e' w0 ⟨rfl, hw0⟩
      subst hw0
      go_wp2_with fail
      refine (awake09_any _).mono ?_
      rintro e' w9 ⟨rfl, hb⟩
      have hB2 := hB1.trans (hb.mono hB1.size)
      go_wp2
      go_returns
      exact ⟨rfl, hB2⟩
    · rw [show decide ((300 : Int) < (a2.size : Int)) = false by simpa using hl2] at HM
      have hs : a0.size ≤ 300 := by omega
      have hs2 : a2.size ≤ 300 := by omega
      obtain ⟨L, e, p, hw⟩ : ∃ L e p, evW a0 64 = (L, e, p) := ⟨_, _, _, rfl⟩
      have HC := Lib.hid (fun w => evSpec.whole_is a0 64 (by omega) (by decide) hw w)
      by_cases he0 : e = 0
      · subst he0
        obtain ⟨_, hmore, hcut⟩ := evW_ok hw
        by_cases hz : a2.size = 0
        · have HD := Lib.hid (fun w => evSpec.whole_is (a0 ++ a2) 64 (by rw [ByteArray.size_append]; omega) (by decide) rfl w)
          obtain rfl : a2 = ⟨#[]⟩ := bl_inj (List.eq_nil_of_length_eq_zero (by rw [bl_length]; exact hz))
          have hne : ((⟨#[]⟩ : ByteArray) != ⟨#[]⟩) = false := by decide
          generalize (evW (a0 ++ ⟨#[]⟩) 64).2.2 = p2 at HD
          generalize (evW (a0 ++ ⟨#[]⟩) 64).2.1 = e2 at HD
          by_cases hc : 0 ≤ a1 ∧ a1 < (a0.size : Int)
          · obtain ⟨g1, g2⟩ := hc
            obtain ⟨k, rfl⟩ := Int.eq_ofNat_of_zero_le g1
            obtain ⟨L', hL'⟩ := hcut k (by omega)
            have HK := Lib.hid (fun w => evSpec.whole_is (a0.extract 0 k) 64 (by rw [ByteArray.size_extract]; omega) (by decide) hL' w)
            clear hl hl2 b0 b1 b2 hw hmore hcut hL' hz
            go_enter Try.func8, Try.ntmps8
            go_wp2_with fail
            refine (awake09_any _).mono ?_
            rintro e w1 ⟨rfl, hB1⟩
            go_wp2_with fail
            refine (HG.out _).mono ?_
            rintro e' w0 ⟨rfl, hw0⟩
            subst hw0
            go_wp2_with fail
            refine (HM.out _).mono ?_
            rintro e' w0 ⟨rfl, hw0⟩
            subst hw0
            go_wp2_with fail
            refine (HC.out _).mono ?_
            rintro r w2 ⟨o2, n2, c2, rfl, he, hn, hb⟩
            have hB2 := hB1.trans (hb.mono hB1.size)
            clear hb he hn hB1
            go_wp2_with fail
            refine (HD.out _).mono ?_
            rintro r w3 ⟨o3, n3, c3, rfl, he, hn, hb⟩
            have hB3 := hB2.trans (hb.mono hB2.size)
            clear hb he hn hB2
            go_wp2_with fail
            refine (HK.out _).mono ?_
            rintro r w4 ⟨o4, n4, c4, rfl, he, hn, hb⟩
            have hB4 := hB3.trans (hb.mono hB3.size)
            clear hb he hn hB3
            go_wp2
            go_returns
            exact ⟨rfl, hB4⟩
          · have hcw : a1 < 0 ∨ (0 ≤ a1 ∧ (a0.size : Int) ≤ a1) := by omega
            clear hl hl2 b0 b1 b2 hw hmore hcut hz hc
            rcases hcw with g1 | ⟨g1, g2⟩
            all_goals
              go_enter Try.func8, Try.ntmps8
              go_wp2_with fail
              refine (awake09_any _).mono ?_
              rintro e w1 ⟨rfl, hB1⟩
              go_wp2_with fail
              refine (HG.out _).mono ?_
              rintro e' w0 ⟨rfl, hw0⟩
              subst hw0
              go_wp2_with fail
              refine (HM.out _).mono ?_
              rintro e' w0 ⟨rfl, hw0⟩
              subst hw0
              go_wp2_with fail
              refine (HC.out _).mono ?_
              rintro r w2 ⟨o2, n2, c2, rfl, he, hn, hb⟩
              have hB2 := hB1.trans (hb.mono hB1.size)
              clear hb he hn hB1
              go_wp2_with fail
              refine (HD.out _).mono ?_
              rintro r w3 ⟨o3, n3, c3, rfl, he, hn, hb⟩
              have hB3 := hB2.trans (hb.mono hB2.size)
              clear hb he hn hB2
              go_wp2
              go_returns
              exact ⟨rfl, hB3⟩
        · have HD := Lib.hid (fun w => evSpec.whole_is (a0 ++ a2) 64 (by rw [ByteArray.size_append]; omega) (by decide) (hmore a2 hz) w)
          have hne := text_some hz
          have hne2 := text_list hz
          by_cases hc : 0 ≤ a1 ∧ a1 < (a0.size : Int)
          · obtain ⟨g1, g2⟩ := hc
            obtain ⟨k, rfl⟩ := Int.eq_ofNat_of_zero_le g1
            obtain ⟨L', hL'⟩ := hcut k (by omega)
            have HK := Lib.hid (fun w => evSpec.whole_is (a0.extract 0 k) 64 (by rw [ByteArray.size_extract]; omega) (by decide) hL' w)
            clear hl hl2 b0 b1 b2 hw hmore hcut hL' hz
            go_enter Try.func8, Try.ntmps8
            go_wp2_with fail
            refine (awake09_any _).mono ?_
            rintro e w1 ⟨rfl, hB1⟩
            go_wp2_with fail
            refine (HG.out _).mono ?_
            rintro e' w0 ⟨rfl, hw0⟩
            subst hw0
            go_wp2_with fail
            refine (HM.out _).mono ?_
            rintro e' w0 ⟨rfl, hw0⟩
            subst hw0
            go_wp2_with fail
            refine (HC.out _).mono ?_
            rintro r w2 ⟨o2, n2, c2, rfl, he, hn, hb⟩
            have hB2 := hB1.trans (hb.mono hB1.size)
            clear hb he hn hB1
            go_wp2_with fail
            refine (HD.out _).mono ?_
            rintro r w3 ⟨o3, n3, c3, rfl, he, hn, hb⟩
            have hB3 := hB2.trans (hb.mono hB2.size)
            clear hb he hn hB2
            go_wp2_with fail
            refine (HK.out _).mono ?_
            rintro r w4 ⟨o4, n4, c4, rfl, he, hn, hb⟩
            have hB4 := hB3.trans (hb.mono hB3.size)
            clear hb he hn hB3
            go_wp2
            go_returns
            exact ⟨rfl, hB4⟩
          · have hcw : a1 < 0 ∨ (0 ≤ a1 ∧ (a0.size : Int) ≤ a1) := by omega
            clear hl hl2 b0 b1 b2 hw hmore hcut hz hc
            rcases hcw with g1 | ⟨g1, g2⟩
            all_goals
              go_enter Try.func8, Try.ntmps8
              go_wp2_with fail
              refine (awake09_any _).mono ?_
              rintro e w1 ⟨rfl, hB1⟩
              go_wp2_with fail
              refine (HG.out _).mono ?_
              rintro e' w0 ⟨rfl, hw0⟩
              subst hw0
              go_wp2_with fail
              refine (HM.out _).mono ?_
              rintro e' w0 ⟨rfl, hw0⟩
              subst hw0
              go_wp2_with fail
              refine (HC.out _).mono ?_
              rintro r w2 ⟨o2, n2, c2, rfl, he, hn, hb⟩
              have hB2 := hB1.trans (hb.mono hB1.size)
              clear hb he hn hB1
              go_wp2_with fail
              refine (HD.out _).mono ?_
              rintro r w3 ⟨o3, n3, c3, rfl, he, hn, hb⟩
              have hB3 := hB2.trans (hb.mono hB2.size)
              clear hb he hn hB2
              go_wp2
              go_returns
              exact ⟨rfl, hB3⟩
      · have hq : (e != 0) = true := by simpa using he0
        clear hl hl2 b0 b1 b2 hw he0
        go_enter Try.func8, Try.ntmps8
        go_wp2_with fail
        refine (awake09_any _).mono ?_
        rintro e w1 ⟨rfl, hB1⟩
        go_wp2_with fail
        refine (HG.out _).mono ?_
        rintro e' w0 ⟨rfl, hw0⟩
        subst hw0
        go_wp2_with fail
        refine (HM.out _).mono ?_
        rintro e' w0 ⟨rfl, hw0⟩
        subst hw0
        go_wp2_with fail
        refine (HC.out _).mono ?_
        rintro r w2 ⟨o2, n2, c2, rfl, he, hn, hb⟩
        have hB2 := hB1.trans (hb.mono hB1.size)
        clear hb he hn hB1
        go_wp2
        go_returns
        exact ⟨rfl, hB2⟩


/-! ### EventEnds: the step from the walk to the statement -/
namespace eventEnds
theorem own : ownKnob Try.prog.godebug = none := by kernel_rfl
set_option maxRecDepth 100000 in
theorem lifted (os : Os) (started : os.Started) (H : Type) (enc : TypeId × Value → H) :
    ReturnsInHanded {} Try.checked os 8 .any (Rows.eventEndsSpec.pre6 enc Try.prog Try.f8 Rows.eventEndsRow.domain false) (Rows.eventEndsSpec.post enc Try.prog Try.f8 false true false false) := by
  refine returnsInHanded_of_change (C := Try.checked) own started (by kernel_rfl) Try.func8
    (ChangeSpec.witness6 (enc := enc) (C := Try.checked) false ⟨#[], #[.string ByteArray.empty, .int .i64 0, .string ByteArray.empty], []⟩ 8 (by kernel_rfl) (by kernel_rfl) (by kernel_rfl) (by kernel_rfl)) ?_
  intro W base args ds gs before hval0 hW hcnd _
  have hval : ∀ (j : Nat) t v, Try.f8.params[j]? = some t → args[j]? = some v → Value.okWide Try.prog W .any base t v := hval0
  have hW' := hW
  obtain ⟨p, q, hA0, hV, rfl, hfz, hnd⟩ := hW
  have hA : DataW.TrodAll enc Try.prog W 0 (fun _ => true) true Try.f8.params.toList args.toList ds p := hA0
  rw [Try.params8] at hA hval
  obtain ⟨v0, vs0, d0, ds0, p0, q0, hargs, rfl, rfl, h0, r0⟩ := trodAll_cons hA
  obtain ⟨v1, vs1, d1, ds1, p1, q1, rfl, rfl, rfl, h1, r1⟩ := trodAll_cons r0
  obtain ⟨v2, vs2, d2, ds2, p2, q2, rfl, rfl, rfl, h2, r2⟩ := trodAll_cons r1
  obtain ⟨rfl, rfl, rfl⟩ := trodAll_nil r2
  obtain rfl : args = #[v0, v1, v2] := by cases args; simp_all
  obtain ⟨rfl, rfl⟩ := trodVars_none hV
  obtain ⟨a0, rfl, rfl, rfl, w0⟩ := open_string Try.underlying9 (hval 0 9 v0 rfl rfl) h0
  obtain ⟨a1, rfl, rfl, rfl, w1⟩ := open_int Try.underlying3 (hval 1 3 v1 rfl rfl) h1
  obtain ⟨a2, rfl, rfl, rfl, w2⟩ := open_string Try.underlying9 (hval 2 9 v2 rfl rfl) h2
  clear hA0 hval0
  simp only [List.append_nil] at hW'
  refine (walkEventEnds a0 a1 a2 w0 (bounds_i64 w1) w2 W).mono fun e W' ⟨he, bel⟩ => ?_
  subst he
  exact ⟨_, rfl, _, _, _, [], [], [], hW', trodAll_mk1 (shut_bool Try.underlying4 _), (trodAll_cons_mk (shut_string Try.underlying9 w0) (trodAll_cons_mk (shut_int Try.underlying3 w1) (trodAll_cons_mk (shut_string Try.underlying9 w2) trodAll_mk0))), rfl, bel.frame _, fun h => by cases h⟩
theorem over : Rows.eventEndsRow.holds Try.pinned (OpenSpec.ofChange Rows.eventEndsSpec) :=
  OpenClaim.holds_of_wide 8 Try.f8 rfl rfl rfl rfl rfl rfl rfl ⟨rfl, rfl, rfl, rfl, rfl⟩ rfl rfl rfl rfl rfl (by kernel_rfl) Try.func8 (by kernel_rfl)
    (of_decide_eq_true (by kernel_rfl)) (by unfold Func.isWrapper; first | (rw [if_pos (by decide +kernel)]; kernel_rfl) | (rw [if_neg (by decide +kernel)]; exact ⟨rfl, rfl⟩))
    (fun os started H enc _ => lifted os started H enc)
/-- THE STATEMENT. -/
theorem proved : Rows.EventEndsSaid := over
end eventEnds
end Go.Proofs.Ytagigdefghnnhaa
