/- Of every number and bytes (of more than 300 the law asks only for the fixed answers): never more is kept than can be; with the first byte too many it is told, once, and it is not on any more. No condition but the form of the row. -/
import Derived.Test.YtemdeopghkcpbaaCapAwake
import Derived.Test.YtemdeopghkcpbaaCapLoop
import Derived.Test.YtemdeopghkcpbaaRows
import Derived.WalkKit
import Derived.ProofKit
import Derived.OpenShut
import Derived.ShutString
import Derived.ChangeOld
import Derived.Below
namespace Go.Proofs.Ytemdeopghkcpbaa
open Go.ChangeShapes Go.WideShapes Go.ChangeAt Go.RowKit
open Go.ChangeMaps (open_string shut_string)
set_option linter.unusedVariables false
open Go.PlainAid in
set_option maxRecDepth 100000 in
set_option maxHeartbeats 8000000 in
theorem walkCaptureStops (a0 : Int) (a1 : ByteArray) (a2 : ByteArray) (b0 : -9223372036854775808 ≤ a0 ∧ a0 ≤ 9223372036854775807) (b1 : a1.size ≤ maxLen) (b2 : a2.size ≤ maxLen) (w : World) :
    Calls Try.prog 4 #[.int .i64 a0, .string a1, .string a2] w fun e w' => e = .returned (.bool true) ∧ Below w.heap.size w w' := by
  have hb9 : (a1.size : Int) ≤ 9223372036854775807 := by unfold maxLen at b1; omega
  have hc9 : (a2.size : Int) ≤ 9223372036854775807 := by unfold maxLen at b2; omega
  have hcl := kmost_if a0
  have HCL := Lib.hid hcl
  have HCM : Hid (min (max a0 0) 65536 = ((KM.new a0).most : Int)) := Lib.hid (by rw [← hcl]; (repeat' split) <;> omega)
  clear hcl
  by_cases hl : (300 : Int) < (a1.size : Int)
  · go_enter Try.func4, Try.ntmps4
    go_wp2_with fail
    refine (capSpec.new_on a0 b0 (Below.refl w.heap.size w)).mono ?_
    rintro e w1 ⟨k, F, rfl, h1, _, _⟩
    have H1 := Lib.hid h1
    clear h1
    go_wp2_with fail
    refine (awake17_any _).mono ?_
    rintro e w2 ⟨rfl, hb2⟩
    have H2 := Lib.hid (H1.out.below capSpec hb2)
    clear hb2 H1
    go_wp2_with fail
    refine (awake17_any _).mono ?_
    rintro e w3 ⟨rfl, hb⟩
    have hB3 := H2.out.bel.trans (hb.mono H2.out.bel.size)
    clear hb H2
    go_wp2
    go_returns
    exact ⟨rfl, hB3⟩
  · by_cases hm : (300 : Int) < (a2.size : Int)
    · go_enter Try.func4, Try.ntmps4
      go_wp2_with fail
      refine (capSpec.new_on a0 b0 (Below.refl w.heap.size w)).mono ?_
      rintro e w1 ⟨k, F, rfl, h1, _, _⟩
      have H1 := Lib.hid h1
      clear h1
      go_wp2_with fail
      refine (awake17_any _).mono ?_
      rintro e w2 ⟨rfl, hb2⟩
      have H2 := Lib.hid (H1.out.below capSpec hb2)
      clear hb2 H1
      go_wp2_with fail
      refine (awake17_any _).mono ?_
      rintro e w3 ⟨rfl, hb⟩
      have hB3 := H2.out.bel.trans (hb.mono H2.out.bel.size)
      clear hb H2
      go_wp2
      go_returns
      exact ⟨rfl, hB3⟩
    · have h1 : a1.size ≤ 300 := by omega
      have h2 : a2.size ≤ 300 := by omega
      go_enter Try.func4, Try.ntmps4
      go_wp2_with fail
      refine (capSpec.new_on a0 b0 (Below.refl w.heap.size w)).mono ?_
      rintro e w1 ⟨k, F, rfl, h1, _, _⟩
      have H1 := Lib.hid h1
      clear h1
      go_wp2_with fail
      refine (awake17_any _).mono ?_
      rintro e w2 ⟨rfl, hb2⟩
      have H2 := Lib.hid (H1.out.below capSpec hb2)
      clear hb2 H1
      go_upto_region 5 with (fail)
      first | rw [HCL.out] | rw [HCM.out]
      clear HCM
      generalize (if a0 < 0 then (0 : Int) else a0) = z0
      generalize (max a0 0) = z1
      obtain ⟨c0, hc0⟩ : ∃ c0, KM.new a0 = c0 := ⟨_, rfl⟩
      obtain ⟨M, hM⟩ : ∃ M, c0.most = M := ⟨_, rfl⟩
      rw [hc0] at H2 HCL
      rw [hc0, hM]
      go_wp2_with fail
      have HM := Lib.hid hM
      have HM5 : M ≤ 65536 := by rw [← hM, ← hc0]; exact (KM.new_ok a0).most
      clear hM hc0 HCL
      have hbl1 := bl_length a1
      have hbl2 := bl_length a2
      obtain ⟨E, hE⟩ : ∃ E, c0.beginE (bl a1) = E := ⟨_, rfl⟩
      have HE : Hid (E = if M < a1.size then 11 else 0) := Lib.hid (by rw [← hE]; unfold KM.beginE; rw [HM.out, hbl1])
      refine (capSpec.begin_on H2.out a1 (by omega) rfl hE).mono ?_
      rintro e w3 ⟨F3, rfl, h3, _, _⟩
      have H3 := Lib.hid h3
      clear h3 H2 hE
      by_cases hq : M < a1.size
      all_goals
        have hEv := HE.out
        first
          | (rw [if_pos hq] at hEv; subst hEv; have HT : Hid ((1 : Int) = if M < a1.size + 0 then 1 else 0) := Lib.hid (by rw [if_pos (by omega)]))
          | (rw [if_neg hq] at hEv; subst hEv; have HT : Hid ((0 : Int) = if M < a1.size + 0 then 1 else 0) := Lib.hid (by rw [if_neg (by omega)]))
        clear HE hq
        go_wp2_with fail
        go_loopg [10, 44] a2.size (fun gk tv jv wr => ∃ (j : Nat) (t : Int) (F : Nat → Prop), tv = .int .i64 t ∧ jv = .int .i64 (j : Int) ∧ j ≤ a2.size ∧ a2.size - j ≤ gk ∧ (0 ≤ t ∧ t ≤ 1) ∧ Hid (t = if M < a1.size + j then 1 else 0) ∧ Hid (KOn KAt w wr k F (c0.begin (bl a1 ++ (bl a2).take j))))
        case atStart => exact ⟨0, _, F3, rfl, rfl, by omega, by omega, by decide, HT, Lib.hid (by have := H3.out; rw [List.take_zero, List.append_nil]; exact this)⟩
        case round =>
          clear HT H3
          obtain ⟨j, t, F, rfl, rfl, hj, hgk, ht, HT, HO⟩ := hrel
          by_cases hlt : j < a2.size
          · have hlt2 : (j : Int) < (a2.size : Int) := by omega
            have gj := get_bt a2 j hlt
            have q0 := bt_nonneg a2 j
            have q1 := bt_le a2 j
            have HP : Hid ((c0.begin (bl a1 ++ (bl a2).take j)).push (bt a2 j) = c0.begin (bl a1 ++ (bl a2).take (j + 1))) := Lib.hid (by
              rw [KM.begin_push, List.append_assoc, List.take_add_one, bl_at a2 j hlt]; rfl)
            have HPE : Hid ((c0.begin (bl a1 ++ (bl a2).take j)).pushE = if a1.size + j = M then 11 else 0) := Lib.hid (by
              rw [KM.pushE_begin, HM.out, List.length_append, hbl1, List.length_take, hbl2, show min j a2.size = j by omega])
            generalize bt a2 j = b at *
            by_cases hs : a1.size + j = M
            · have HPE2 : Hid ((c0.begin (bl a1 ++ (bl a2).take j)).pushE = 11) := Lib.hid (by rw [HPE.out, if_pos hs])
              have ht0 : t = 0 := by have := HT.out; rw [if_neg (by omega)] at this; exact this
              subst ht0
              have HT2 : Hid ((1 : Int) = if M < a1.size + (j + 1) then 1 else 0) := Lib.hid (by rw [if_pos (by omega)])
              clear HPE HT hs
              go_wp2_with fail
              refine (capSpec.push_on HO.out b ⟨q0, q1⟩ HP.out HPE2.out).mono ?_
              rintro e w5 ⟨F5, rfl, h5, _, _⟩
              have HO5 := Lib.hid h5
              clear h5 HO HP HPE2
              go_wp2_with fail
              go_roundg (a2.size - (j + 1))
              case measure => omega
              case rel => exact ⟨j + 1, 1, F5, rfl, by simp, by omega, by omega, by decide, HT2, HO5⟩
            · have HPE2 : Hid ((c0.begin (bl a1 ++ (bl a2).take j)).pushE = 0) := Lib.hid (by rw [HPE.out, if_neg hs])
              have HT2 : Hid (t = if M < a1.size + (j + 1) then 1 else 0) := Lib.hid (by
                rw [HT.out]
                by_cases q : M < a1.size + j
                · rw [if_pos q, if_pos (by omega)]
                · rw [if_neg q, if_neg (by omega)])
              clear HPE HT hs
              go_wp2_with fail
              refine (capSpec.push_on HO.out b ⟨q0, q1⟩ HP.out HPE2.out).mono ?_
              rintro e w5 ⟨F5, rfl, h5, _, _⟩
              have HO5 := Lib.hid h5
              clear h5 HO HP HPE2
              go_wp2_with fail
              go_roundg (a2.size - (j + 1))
              case measure => omega
              case rel => exact ⟨j + 1, t, F5, rfl, by simp, by omega, by omega, ht, HT2, HO5⟩
          · have hlt2 : ¬ (j : Int) < (a2.size : Int) := by omega
            obtain rfl : j = a2.size := by omega
            obtain ⟨B, hB⟩ : ∃ B, a1 ++ a2 = B := ⟨_, rfl⟩
            have hBs : B.size = a1.size + a2.size := by rw [← hB, ByteArray.size_append]
            have HBl : Hid (bl a1 ++ (bl a2).take a2.size = bl B) := Lib.hid (by rw [List.take_of_length_le (by rw [hbl2]; exact Nat.le_refl _), ← bl_append, hB])
            have HO2 : Hid (KOn KAt w wr k F (c0.begin (bl B))) := Lib.hid (by rw [← HBl.out]; exact HO.out)
            have hov : ¬ 9223372036854775807 < a1.size + a2.size := by omega
            have hBl := bl_length B
            clear HO HBl
            by_cases hr : B.size ≤ M
            · have hri : (B.size : Int) ≤ (M : Int) := by omega
              have ht0 : t = 0 := by have := HT.out; rw [if_neg (by omega)] at this; exact this
              subst ht0
              have HC : Hid (c0.begin (bl B) = ⟨M, bl B, true⟩) := Lib.hid (by unfold KM.begin; rw [if_neg (by rw [HM.out]; omega), HM.out])
              rw [HC.out] at HO2
              clear HC HT HM
              have hBi : (B.size : Int) = (a1.size : Int) + (a2.size : Int) := by omega
              go_wp2_with fail
              refine (capSpec.on_on HO2.out rfl).mono ?_
              rintro e w6 ⟨rfl, n6, rfl⟩
              go_wp2_with fail
              refine (capSpec.text_on (HO2.out.drewN capSpec n6) (str_bl B)).mono ?_
              rintro e w7 ⟨rfl, n7, rfl⟩
              have hBe : (B.toList == B.toList) = true := by simp
              go_wp2_with fail
              refine (capSpec.room_on (HO2.out.drewN capSpec (n6 + n7)) (r := (M : Int) - (B.size : Int)) (by show (M : Int) - ((bl B).length : Int) = _; rw [hBl])).mono ?_
              rintro e w8 ⟨rfl, n8, rfl⟩
              have hBB := (HO2.out.drewN capSpec (n6 + n7 + n8)).bel
              clear HO2
              go_wp2_with fail
              go_returns
              exact ⟨rfl, hBB⟩
            · have hri : ¬ (B.size : Int) ≤ (M : Int) := by omega
              have ht0 : t = 1 := by have := HT.out; rw [if_pos (by omega)] at this; exact this
              subst ht0
              have HC : Hid (c0.begin (bl B) = ⟨M, (bl B).take M, false⟩) := Lib.hid (by unfold KM.begin; rw [if_pos (by rw [HM.out]; omega), HM.out])
              rw [HC.out] at HO2
              clear HC HT HM
              have hMB : M ≤ B.size := by omega
              have hMBi : (M : Int) ≤ (B.size : Int) := by omega
              have hBi : (B.size : Int) = (a1.size : Int) + (a2.size : Int) := by omega
              have HX : Hid (strOfNums ((bl B).take M) = B.extract 0 M) := Lib.hid (by
                apply bl_inj
                rw [bl_str (fun x hx => bl_isB B x (List.mem_of_mem_take hx)), bl_extract B 0 M hMB, List.drop_zero, Nat.sub_zero])
              have HQ1 := Lib.hid (fun n => capSpec.on_on (HO2.out.drewN capSpec n) rfl)
              have HQ2 := Lib.hid (fun n => capSpec.text_on (HO2.out.drewN capSpec n) HX.out)
              have HQ3 := Lib.hid (fun n => capSpec.room_on (HO2.out.drewN capSpec n) (r := 0) (by show (M : Int) - (((bl B).take M).length : Int) = 0; rw [List.length_take, hBl]; omega))
              have hBe : ((B.extract 0 M).toList == (B.extract 0 M).toList) = true := by simp
              go_wp2_with fail
              go_quiet (first | (go_at_call 15; exact Calls.quiet_of (HQ1.out _)) | (go_at_call 16; exact Calls.quiet_of (HQ2.out _)) | (go_at_call 17; exact Calls.quiet_of (HQ3.out _)))
              have hBB := (HO2.out.drewN capSpec nq).bel
              clear HO2 HQ1 HQ2 HQ3
              go_wp2_with fail
              go_returns
              exact ⟨rfl, hBB⟩


/-! ### CaptureStops: the step from the walk to the statement -/
namespace captureStops
theorem own : ownKnob Try.prog.godebug = none := by kernel_rfl
set_option maxRecDepth 100000 in
theorem lifted (os : Os) (started : os.Started) (H : Type) (enc : TypeId × Value → H) :
    ReturnsInHanded {} Try.checked os 4 .any (Rows.captureStopsSpec.pre6 enc Try.prog Try.f4 Rows.captureStopsRow.domain false) (Rows.captureStopsSpec.post enc Try.prog Try.f4 false true false false) := by
  refine returnsInHanded_of_change (C := Try.checked) own started (by kernel_rfl) Try.func4
    (ChangeSpec.witness6 (enc := enc) (C := Try.checked) false ⟨#[], #[.int .i64 0, .string ByteArray.empty, .string ByteArray.empty], []⟩ 8 (by kernel_rfl) (by kernel_rfl) (by kernel_rfl) (by kernel_rfl)) ?_
  intro W base args ds gs before hval0 hW hcnd _
  have hval : ∀ (j : Nat) t v, Try.f4.params[j]? = some t → args[j]? = some v → Value.okWide Try.prog W .any base t v := hval0
  have hW' := hW
  obtain ⟨p, q, hA0, hV, rfl, hfz, hnd⟩ := hW
  have hA : DataW.TrodAll enc Try.prog W 0 (fun _ => true) true Try.f4.params.toList args.toList ds p := hA0
  rw [Try.params4] at hA hval
  obtain ⟨v0, vs0, d0, ds0, p0, q0, hargs, rfl, rfl, h0, r0⟩ := trodAll_cons hA
  obtain ⟨v1, vs1, d1, ds1, p1, q1, rfl, rfl, rfl, h1, r1⟩ := trodAll_cons r0
  obtain ⟨v2, vs2, d2, ds2, p2, q2, rfl, rfl, rfl, h2, r2⟩ := trodAll_cons r1
  obtain ⟨rfl, rfl, rfl⟩ := trodAll_nil r2
  obtain rfl : args = #[v0, v1, v2] := by cases args; simp_all
  obtain ⟨rfl, rfl⟩ := trodVars_none hV
  obtain ⟨a0, rfl, rfl, rfl, w0⟩ := open_int Try.underlying3 (hval 0 3 v0 rfl rfl) h0
  obtain ⟨a1, rfl, rfl, rfl, w1⟩ := open_string Try.underlying9 (hval 1 9 v1 rfl rfl) h1
  obtain ⟨a2, rfl, rfl, rfl, w2⟩ := open_string Try.underlying9 (hval 2 9 v2 rfl rfl) h2
  clear hA0 hval0
  simp only [List.append_nil] at hW'
  refine (walkCaptureStops a0 a1 a2 (bounds_i64 w0) w1 w2 W).mono fun e W' ⟨he, bel⟩ => ?_
  subst he
  exact ⟨_, rfl, _, _, _, [], [], [], hW', trodAll_mk1 (shut_bool Try.underlying4 _), (trodAll_cons_mk (shut_int Try.underlying3 w0) (trodAll_cons_mk (shut_string Try.underlying9 w1) (trodAll_cons_mk (shut_string Try.underlying9 w2) trodAll_mk0))), rfl, bel.frame _, fun h => by cases h⟩
theorem over : Rows.captureStopsRow.holds Try.pinned (OpenSpec.ofChange Rows.captureStopsSpec) :=
  OpenClaim.holds_of_wide 4 Try.f4 rfl rfl rfl rfl rfl rfl rfl ⟨rfl, rfl, rfl, rfl, rfl⟩ rfl rfl rfl rfl rfl (by kernel_rfl) Try.func4 (by kernel_rfl)
    (of_decide_eq_true (by kernel_rfl)) (by unfold Func.isWrapper; first | (rw [if_pos (by decide +kernel)]; kernel_rfl) | (rw [if_neg (by decide +kernel)]; exact ⟨rfl, rfl⟩))
    (fun os started H enc _ => lifted os started H enc)
/-- THE STATEMENT. -/
theorem proved : Rows.CaptureStopsSaid := over
end captureStops
end Go.Proofs.Ytemdeopghkcpbaa
