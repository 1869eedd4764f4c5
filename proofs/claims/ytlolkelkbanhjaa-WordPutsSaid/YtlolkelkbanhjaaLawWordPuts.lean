/- Any word has the bytes that the document says, and any place of any bytes is the word that it says, or none. For every number, text and place (of more than 200 bytes the law asks only for the fixed answers); no condition. -/
import Derived.Test.YtlolkelkbanhjaaAwake
import Derived.Deep.RegionHeld3
import Derived.Test.YtlolkelkbanhjaaRows
import Derived.WalkKit
import Derived.ProofKit
import Derived.OpenShut
import Derived.ShutString
import Derived.ChangeOld
import Derived.Below
namespace Go.Proofs.Ytlolkelkbanhjaa
open Go.PlainAid
open Go.ChangeShapes Go.WideShapes Go.ChangeAt Go.RowKit
open Go.ChangeMaps (open_string shut_string)
set_option linter.unusedVariables false
theorem put_low (x : Int) (h0 : 0 ≤ x) : putB (x % 4294967296).toNat 4 = putB x.toNat 4 := by
  have := putL_mod x.toNat 4
  simp only [Nat.reducePow] at this
  unfold putB
  rw [← this]
  congr 2
  omega
set_option maxRecDepth 100000 in
set_option maxHeartbeats 1000000 in
theorem walkWordPuts (a0 : Int) (a1 : ByteArray) (a2 : Int) (b0 : 0 ≤ a0 ∧ a0 ≤ 18446744073709551615) (b1 : a1.size ≤ maxLen) (b2 : -9223372036854775808 ≤ a2 ∧ a2 ≤ 9223372036854775807) (w : World) :
    Calls Try.prog 3 #[.int .u64 a0, .string a1, .int .i64 a2] w fun e w' => e = .returned (.bool true) ∧ Below w.heap.size w w' := by
  obtain ⟨x0, x1⟩ := b0
  have hs : (a1.size : Int) ≤ 9223372036854775807 := by unfold maxLen at b1; omega
  have HP := Lib.hid (put_low a0 x0)
  by_cases hl : (200 : Int) < (a1.size : Int)
  · go_enter Try.func3, Try.ntmps3
    go_wp2_with fail
    refine (awake01_any _).mono ?_
    rintro e w1 ⟨rfl, hbA⟩
    go_wp2_with fail
    refine (awake01_any _).mono ?_
    rintro e w2 ⟨rfl, hbB⟩
    have hbC := hbA.trans (hbB.mono hbA.size)
    clear hbA hbB
    go_wp2
    go_returns
    exact ⟨rfl, hbC⟩
  · have hl2 : (a1.size : Int) ≤ 200 := by omega
    clear hl
    by_cases c1 : a2 < 0
    · go_enter Try.func3, Try.ntmps3
      go_wp2_with fail
      refine (awake01_any _).mono ?_
      rintro e w1 ⟨rfl, hbA⟩
      go_wp2_with fail
      refine (get32_out a1 a2 (by omega) hs _).mono ?_
      rintro e w2 ⟨rfl, rfl⟩
      have hbb := hbA
      clear hbA
      go_wp2_with fail
      refine (put32_any _ (by omega) (by omega) _).mono ?_
      rintro e w3 ⟨rfl, hb3⟩
      rw [HP.out]
      have hbc := hbb.trans (hb3.mono hbb.size)
      clear hbb hb3
      go_wp2_with fail
      refine (refPut_any a0 4 x0 x1 (by decide) (by decide) _).mono ?_
      rintro e w4 ⟨rfl, hb4⟩
      rw [show (4 : Int).toNat = 4 from rfl]
      have hbd := hbc.trans (hb4.mono hbc.size)
      clear hbc hb4
      go_wp2_with fail
      refine (put64_any a0 x0 x1 _).mono ?_
      rintro e w5 ⟨rfl, hb5⟩
      have hbe := hbd.trans (hb5.mono hbd.size)
      clear hbd hb5
      go_wp2_with fail
      refine (refPut_any a0 8 x0 x1 (by decide) (by decide) _).mono ?_
      rintro e w6 ⟨rfl, hb6⟩
      rw [show (8 : Int).toNat = 8 from rfl]
      have hbf := hbe.trans (hb6.mono hbe.size)
      clear hbe hb6
      go_wp2
      go_returns
      exact ⟨rfl, hbf⟩
    · have c1' : 0 ≤ a2 := by omega
      clear c1
      by_cases c2 : (a1.size : Int) < a2
      · go_enter Try.func3, Try.ntmps3
        go_wp2_with fail
        refine (awake01_any _).mono ?_
        rintro e w1 ⟨rfl, hbA⟩
        go_wp2_with fail
        refine (get32_out a1 a2 (by omega) hs _).mono ?_
        rintro e w2 ⟨rfl, rfl⟩
        have hbb := hbA
        clear hbA
        go_wp2_with fail
        refine (put32_any _ (by omega) (by omega) _).mono ?_
        rintro e w3 ⟨rfl, hb3⟩
        rw [HP.out]
        have hbc := hbb.trans (hb3.mono hbb.size)
        clear hbb hb3
        go_wp2_with fail
        refine (refPut_any a0 4 x0 x1 (by decide) (by decide) _).mono ?_
        rintro e w4 ⟨rfl, hb4⟩
        rw [show (4 : Int).toNat = 4 from rfl]
        have hbd := hbc.trans (hb4.mono hbc.size)
        clear hbc hb4
        go_wp2_with fail
        refine (put64_any a0 x0 x1 _).mono ?_
        rintro e w5 ⟨rfl, hb5⟩
        have hbe := hbd.trans (hb5.mono hbd.size)
        clear hbd hb5
        go_wp2_with fail
        refine (refPut_any a0 8 x0 x1 (by decide) (by decide) _).mono ?_
        rintro e w6 ⟨rfl, hb6⟩
        rw [show (8 : Int).toNat = 8 from rfl]
        have hbf := hbe.trans (hb6.mono hbe.size)
        clear hbe hb6
        go_wp2
        go_returns
        exact ⟨rfl, hbf⟩
      · have c2' : a2 ≤ (a1.size : Int) := by omega
        clear c2
        by_cases c3 : (a1.size : Int) - a2 < 4
        · go_enter Try.func3, Try.ntmps3
          go_wp2_with fail
          refine (awake01_any _).mono ?_
          rintro e w1 ⟨rfl, hbA⟩
          go_wp2_with fail
          refine (get32_out a1 a2 (by omega) hs _).mono ?_
          rintro e w2 ⟨rfl, rfl⟩
          have hbb := hbA
          clear hbA
          go_wp2_with fail
          refine (put32_any _ (by omega) (by omega) _).mono ?_
          rintro e w3 ⟨rfl, hb3⟩
          rw [HP.out]
          have hbc := hbb.trans (hb3.mono hbb.size)
          clear hbb hb3
          go_wp2_with fail
          refine (refPut_any a0 4 x0 x1 (by decide) (by decide) _).mono ?_
          rintro e w4 ⟨rfl, hb4⟩
          rw [show (4 : Int).toNat = 4 from rfl]
          have hbd := hbc.trans (hb4.mono hbc.size)
          clear hbc hb4
          go_wp2_with fail
          refine (put64_any a0 x0 x1 _).mono ?_
          rintro e w5 ⟨rfl, hb5⟩
          have hbe := hbd.trans (hb5.mono hbd.size)
          clear hbd hb5
          go_wp2_with fail
          refine (refPut_any a0 8 x0 x1 (by decide) (by decide) _).mono ?_
          rintro e w6 ⟨rfl, hb6⟩
          rw [show (8 : Int).toNat = 8 from rfl]
          have hbf := hbe.trans (hb6.mono hbe.size)
          clear hbe hb6
          go_wp2
          go_returns
          exact ⟨rfl, hbf⟩
        · obtain ⟨k, rfl⟩ := Int.eq_ofNat_of_zero_le c1'
          have c4 : (k : Int) + 4 ≤ (a1.size : Int) := by omega
          have HX := Lib.hid (put_get a1 k (by omega))
          have hgb := getI_bd a1 k
          obtain ⟨g0, g1⟩ := hgb
          have HT := Lib.hid (show (k : Int).toNat = k by omega)
          go_enter Try.func3, Try.ntmps3
          go_wp2_with fail
          refine (awake01_any _).mono ?_
          rintro e w1 ⟨rfl, hbA⟩
          go_wp2_with fail
          refine (get32_in a1 k (by omega) c4 hs _).mono ?_
          rintro e w2 ⟨rfl, hb2⟩
          rw [HT.out]
          have hbb := hbA.trans (hb2.mono hbA.size)
          clear hbA hb2
          generalize getI a1 k = y at *
          go_wp2_with fail
          refine (put32_any _ (by omega) (by omega) _).mono ?_
          rintro e w3 ⟨rfl, hb3⟩
          rw [HP.out]
          have hbc := hbb.trans (hb3.mono hbb.size)
          clear hbb hb3
          go_wp2_with fail
          refine (refPut_any a0 4 x0 x1 (by decide) (by decide) _).mono ?_
          rintro e w4 ⟨rfl, hb4⟩
          rw [show (4 : Int).toNat = 4 from rfl]
          have hbd := hbc.trans (hb4.mono hbc.size)
          clear hbc hb4
          go_wp2_with fail
          refine (put64_any a0 x0 x1 _).mono ?_
          rintro e w5 ⟨rfl, hb5⟩
          have hbe := hbd.trans (hb5.mono hbd.size)
          clear hbd hb5
          go_wp2_with fail
          refine (refPut_any a0 8 x0 x1 (by decide) (by decide) _).mono ?_
          rintro e w6 ⟨rfl, hb6⟩
          rw [show (8 : Int).toNat = 8 from rfl]
          have hbf := hbe.trans (hb6.mono hbe.size)
          clear hbe hb6
          go_wp2_with fail
          have hsl : ∀ W : World, (Instr.slice 9 (.string a1) (some (.int .i64 (k : Int))) (some (.int .i64 ((k : Int) + 4))) none).run Try.prog W = .ok (.string (a1.extract k (k + 4))) W := by
            intro W
            rw [run_slice_string_if (P := Try.prog) W 9 a1 .i64 .i64 _ _ Try.underlying9, if_pos (by omega), if_pos (by omega), show ((k : Int) + 4).toNat = k + 4 from by omega, show (k : Int).toNat = k from by omega]
          have wy : IntKind.u64.wrap y = y := IntWalk.u64_in _ (by omega)
          have wk : IntKind.i64.wrap ((k : Int) + 4) = (k : Int) + 4 := IntWalk.i64_in _ (by omega)
          have hP : ∀ W : World, Below w.heap.size w W → Calls Try.prog 14 #[.int .u64 y, .int .i64 4] W fun e w' => e = .returned (.string (putB y.toNat 4)) ∧ Below w.heap.size w w' := fun W hW => (refPut_any y 4 g0 (by omega) (by decide) (by decide) W).mono fun e w' ⟨he, hb⟩ => ⟨he, hW.trans (hb.mono hW.size)⟩
          go_region_held3 (fun w' => Below w.heap.size w w') (first | exact hbf.drew | exact hbf | assumption) (first | (go_at_call 14; refine (hP _ (by assumption)).mono ?_; rintro e w7 ⟨rfl, hb7⟩))
          go_wp2
          go_returns
          exact ⟨ret_bool (by rw [HX.out]; simp), by assumption⟩

/-! ### WordPuts: the step from the walk to the statement -/
namespace wordPuts
theorem own : ownKnob Try.prog.godebug = none := by kernel_rfl
set_option maxRecDepth 100000 in
theorem lifted (os : Os) (started : os.Started) (H : Type) (enc : TypeId × Value → H) :
    ReturnsInHanded {} Try.checked os 3 .any (Rows.wordPutsSpec.pre6 enc Try.prog Try.f3 Rows.wordPutsRow.domain false) (Rows.wordPutsSpec.post enc Try.prog Try.f3 false true false false) := by
  refine returnsInHanded_of_change (C := Try.checked) own started (by kernel_rfl) Try.func3
    (ChangeSpec.witness6 (enc := enc) (C := Try.checked) false ⟨#[], #[.int .u64 0, .string ByteArray.empty, .int .i64 0], []⟩ 8 (by kernel_rfl) (by kernel_rfl) (by kernel_rfl) (by kernel_rfl)) ?_
  intro W base args ds gs before hval0 hW hcnd _
  have hval : ∀ (j : Nat) t v, Try.f3.params[j]? = some t → args[j]? = some v → Value.okWide Try.prog W .any base t v := hval0
  have hW' := hW
  obtain ⟨p, q, hA0, hV, rfl, hfz, hnd⟩ := hW
  have hA : DataW.TrodAll enc Try.prog W 0 (fun _ => true) true Try.f3.params.toList args.toList ds p := hA0
  rw [Try.params3] at hA hval
  obtain ⟨v0, vs0, d0, ds0, p0, q0, hargs, rfl, rfl, h0, r0⟩ := trodAll_cons hA
  obtain ⟨v1, vs1, d1, ds1, p1, q1, rfl, rfl, rfl, h1, r1⟩ := trodAll_cons r0
  obtain ⟨v2, vs2, d2, ds2, p2, q2, rfl, rfl, rfl, h2, r2⟩ := trodAll_cons r1
  obtain ⟨rfl, rfl, rfl⟩ := trodAll_nil r2
  obtain rfl : args = #[v0, v1, v2] := by cases args; simp_all
  obtain ⟨rfl, rfl⟩ := trodVars_none hV
  obtain ⟨a0, rfl, rfl, rfl, w0⟩ := open_int Try.underlying22 (hval 0 22 v0 rfl rfl) h0
  obtain ⟨a1, rfl, rfl, rfl, w1⟩ := open_string Try.underlying9 (hval 1 9 v1 rfl rfl) h1
  obtain ⟨a2, rfl, rfl, rfl, w2⟩ := open_int Try.underlying3 (hval 2 3 v2 rfl rfl) h2
  clear hA0 hval0
  simp only [List.append_nil] at hW'
  refine (walkWordPuts a0 a1 a2 (bounds_u64 w0) w1 (bounds_i64 w2) W).mono fun e W' ⟨he, bel⟩ => ?_
  subst he
  exact ⟨_, rfl, _, _, _, [], [], [], hW', trodAll_mk1 (shut_bool Try.underlying4 _), (trodAll_cons_mk (shut_int Try.underlying22 w0) (trodAll_cons_mk (shut_string Try.underlying9 w1) (trodAll_cons_mk (shut_int Try.underlying3 w2) trodAll_mk0))), rfl, bel.frame _, fun h => by cases h⟩
theorem over : Rows.wordPutsRow.holds Try.pinned (OpenSpec.ofChange Rows.wordPutsSpec) :=
  OpenClaim.holds_of_wide 3 Try.f3 rfl rfl rfl rfl rfl rfl rfl ⟨rfl, rfl, rfl, rfl, rfl⟩ rfl rfl rfl rfl rfl (by kernel_rfl) Try.func3 (by kernel_rfl)
    (of_decide_eq_true (by kernel_rfl)) (by unfold Func.isWrapper; first | (rw [if_pos (by decide +kernel)]; kernel_rfl) | (rw [if_neg (by decide +kernel)]; exact ⟨rfl, rfl⟩))
    (fun os started H enc _ => lifted os started H enc)
/-- THE STATEMENT. -/
theorem proved : Rows.WordPutsSaid := over
end wordPuts
end Go.Proofs.Ytlolkelkbanhjaa
