/- Of every three texts (of more than 200 bytes the law asks only for the fixed answers): the part's digest is that of its bytes, however often it is asked for. No condition but the form of the row. -/
import Derived.Test.YtfkfkoebplpooaaTapCode
import Derived.Test.YtfkfkoebplpooaaTapLoop
import Derived.Test.YtfkfkoebplpooaaRows
import Derived.WalkKit
import Derived.ProofKit
import Derived.OpenShut
import Derived.ShutString
import Derived.ChangeOld
import Derived.Below
namespace Go.Proofs.Ytfkfkoebplpooaa
open Go.ChangeShapes Go.WideShapes Go.ChangeAt Go.RowKit
open Go.ChangeMaps (open_string shut_string)
set_option linter.unusedVariables false
open Go.PlainAid in
set_option maxRecDepth 100000 in
set_option maxHeartbeats 16000000 in
theorem walkTapParts (a0 : ByteArray) (a1 : ByteArray) (a2 : ByteArray) (b0 : a0.size ≤ maxLen) (b1 : a1.size ≤ maxLen) (b2 : a2.size ≤ maxLen) (w : World) :
    Calls Try.prog 4 #[.string a0, .string a1, .string a2] w fun e w' => e = .returned (.bool true) ∧ Below w.heap.size w w' := by
  by_cases hl : a0.size ≤ 200 ∧ a1.size ≤ 200 ∧ a2.size ≤ 200
  · obtain ⟨l0, l1, l2⟩ := hl
    have l3 : ¬ 200 < (a0.size : Int) := by omega
    have l4 : ¬ 200 < (a1.size : Int) := by omega
    have l5 : ¬ 200 < (a2.size : Int) := by omega
    go_enter Try.func4, Try.ntmps4
    go_wp2_with fail
    refine (tapSpec.new_on (Below.refl _ _)).mono ?_
    rintro r w1 ⟨k, F1, rfl, h9, _, _⟩
    have HT := Lib.hid h9
    clear h9
    go_wp2_with fail
    refine (awake21_any tapSpec _).mono ?_
    rintro r w2 ⟨rfl, hb⟩
    replace HT := Lib.hid (HT.out.below tapSpec hb)
    clear hb
    obtain ⟨S0, hS0⟩ : ∃ S, TpS.new = S := ⟨_, rfl⟩
    have HS0 := Lib.hid hS0
    have HZ : Hid (S0.head.size ≤ 100000 ∧ S0.part.size ≤ 100000) := Lib.hid (by rw [← hS0]; exact ⟨by decide, by decide⟩)
    rw [hS0] at HT
    clear hS0
    go_wp2_with fail
    go_loopg [40] a0.size (fun gk iv wr => ∃ (i : Nat) (F : Nat → Prop), iv = .int .i64 (i : Int) ∧ i ≤ a0.size ∧ a0.size - i ≤ gk ∧ Hid (TOn TpAt w wr k F (S0.pushes (a0.extract 0 i))))
    case atStart => exact ⟨0, _, rfl, by omega, by omega, Lib.hid (by rw [ext_zero, TpS.pushes_nil]; exact HT.out)⟩
    case round =>
      clear HT
      obtain ⟨i, F, rfl, hi, hgk, HT⟩ := hrel
      by_cases hlt : i < a0.size
      · have hlt2 : (i : Int) < (a0.size : Int) := by omega
        have gj := get_bt a0 i hlt
        have q0 := bt_nonneg a0 i
        have q1 := bt_le a0 i
        have HN := Lib.hid (TpS.pushes_next S0 a0 i hlt)
        have HM := Lib.hid (TpS.pushes_room S0 a0 i HZ.out.1 HZ.out.2 (by omega))
        have HM2 := Lib.hid (TpS.pushes_room S0 a0 (i + 1) HZ.out.1 HZ.out.2 (by omega))
        generalize bt a0 i = b at *
        clear HS0
        go_wp2_with fail
        refine (tapSpec.push_on HT.out b ⟨q0, q1⟩ HM.out HN.out).mono ?_
        rintro r wu ⟨Fu, rfl, h9, _, _⟩
        replace HT := Lib.hid h9
        clear h9
        clear HN HM HM2 HZ
        go_wp2_with fail
        go_roundg (a0.size - (i + 1))
        case measure => omega
        case rel => exact ⟨i + 1, _, by simp, by omega, by omega, HT⟩
      · have hlt2 : ¬ (i : Int) < (a0.size : Int) := by omega
        obtain rfl : i = a0.size := by omega
        replace HT : Hid (TOn TpAt w wr k F (S0.pushes a0)) := Lib.hid (by have := HT.out; rw [ext_all] at this; exact this)
        rw [← HS0.out] at HT
        clear HZ HS0 hi hgk
        generalize wr = W at *
        have e0 : (a0.toList == a0.toList) = true := by simp
        go_wp2_with fail
        refine (tapSpec.head_on HT.out (by show (ByteArray.empty ++ a0).size ≤ _; rw [ByteArray.empty_append]; omega) (s' := ⟨.empty, .empty, false, false⟩) rfl (t := a0) (ByteArray.empty_append)).mono ?_
        rintro r w3 ⟨F3, rfl, h9, _, _⟩
        replace HT := Lib.hid h9
        clear h9
        go_wp2_with fail
        refine (tapSpec.start_on HT.out ⟨#[]⟩ (by decide) (s' := ⟨.empty, .empty, true, true⟩) rfl).mono ?_
        rintro r w4 ⟨F4, rfl, h9, _, _⟩
        replace HT := Lib.hid h9
        clear h9
        obtain ⟨S0, hS0⟩ : ∃ S, TpS.mk .empty .empty true true = S := ⟨_, rfl⟩
        have HS0 := Lib.hid hS0
        have HZ : Hid (S0.head.size ≤ 100000 ∧ S0.part.size ≤ 100000) := Lib.hid (by rw [← hS0]; exact ⟨by decide, by decide⟩)
        rw [hS0] at HT
        clear hS0
        go_wp2_with fail
        go_loopg [57] a1.size (fun gk iv wr => ∃ (i : Nat) (F : Nat → Prop), iv = .int .i64 (i : Int) ∧ i ≤ a1.size ∧ a1.size - i ≤ gk ∧ Hid (TOn TpAt w wr k F (S0.pushes (a1.extract 0 i))))
        case atStart => exact ⟨0, _, rfl, by omega, by omega, Lib.hid (by rw [ext_zero, TpS.pushes_nil]; exact HT.out)⟩
        case round =>
          clear HT
          obtain ⟨i, F, rfl, hi, hgk, HT⟩ := hrel
          by_cases hlt : i < a1.size
          · have hlt2 : (i : Int) < (a1.size : Int) := by omega
            have gj := get_bt a1 i hlt
            have q0 := bt_nonneg a1 i
            have q1 := bt_le a1 i
            have HN := Lib.hid (TpS.pushes_next S0 a1 i hlt)
            have HM := Lib.hid (TpS.pushes_room S0 a1 i HZ.out.1 HZ.out.2 (by omega))
            have HM2 := Lib.hid (TpS.pushes_room S0 a1 (i + 1) HZ.out.1 HZ.out.2 (by omega))
            generalize bt a1 i = b at *
            clear HS0
            go_wp2_with fail
            refine (tapSpec.push_on HT.out b ⟨q0, q1⟩ HM.out HN.out).mono ?_
            rintro r wu ⟨Fu, rfl, h9, _, _⟩
            replace HT := Lib.hid h9
            clear h9
            go_wp2_with fail
            refine (tapSpec.sum_on HT.out (by have := HM2.out.2; omega) rfl rfl).mono ?_
            rintro r wv ⟨Fv, rfl, h9, _, _⟩
            replace HT := Lib.hid h9
            clear h9
            clear HN HM HM2 HZ
            go_wp2_with fail
            go_roundg (a1.size - (i + 1))
            case measure => omega
            case rel => exact ⟨i + 1, _, by simp, by omega, by omega, HT⟩
          · have hlt2 : ¬ (i : Int) < (a1.size : Int) := by omega
            obtain rfl : i = a1.size := by omega
            replace HT : Hid (TOn TpAt w wr k F (S0.pushes a1)) := Lib.hid (by have := HT.out; rw [ext_all] at this; exact this)
            rw [← HS0.out] at HT
            clear HZ HS0 hi hgk
            generalize wr = W at *
            replace HT : Hid (TOn TpAt w W k F ⟨a1, a1, true, true⟩) := Lib.hid (by have := HT.out; rw [TpS.pushes_on] at this; exact this)
            obtain ⟨S, hS⟩ : ∃ S, shaB a1 = S := ⟨_, rfl⟩
            have HS := Lib.hid hS
            clear hS
            go_wp2_with fail
            refine (tapSpec.over_on HT.out (s' := ⟨a1, a1, true, false⟩) rfl).mono ?_
            rintro r w5 ⟨F5, rfl, h9, _, _⟩
            replace HT := Lib.hid h9
            clear h9
            go_wp2_with fail
            refine (tapSpec.sum_on HT.out (by show a1.size ≤ _; omega) (t := S) HS.out (b := true) rfl).mono ?_
            rintro r w6 ⟨F6, rfl, h9, _, _⟩
            replace HT := Lib.hid h9
            clear h9
            obtain ⟨S0, hS0⟩ : ∃ S, TpS.mk a1 a1 true false = S := ⟨_, rfl⟩
            have HS0 := Lib.hid hS0
            have HZ : Hid (S0.head.size ≤ 100000 ∧ S0.part.size ≤ 100000) := Lib.hid (by rw [← hS0]; exact ⟨by show a1.size ≤ _; omega, by show a1.size ≤ _; omega⟩)
            rw [hS0] at HT
            clear hS0
            go_wp2_with fail
            go_loopg [77] a2.size (fun gk iv wr => ∃ (i : Nat) (F : Nat → Prop), iv = .int .i64 (i : Int) ∧ i ≤ a2.size ∧ a2.size - i ≤ gk ∧ Hid (TOn TpAt w wr k F (S0.pushes (a2.extract 0 i))))
            case atStart => exact ⟨0, _, rfl, by omega, by omega, Lib.hid (by rw [ext_zero, TpS.pushes_nil]; exact HT.out)⟩
            case round =>
              clear HT
              obtain ⟨i, F, rfl, hi, hgk, HT⟩ := hrel
              by_cases hlt : i < a2.size
              · have hlt2 : (i : Int) < (a2.size : Int) := by omega
                have gj := get_bt a2 i hlt
                have q0 := bt_nonneg a2 i
                have q1 := bt_le a2 i
                have HN := Lib.hid (TpS.pushes_next S0 a2 i hlt)
                have HM := Lib.hid (TpS.pushes_room S0 a2 i HZ.out.1 HZ.out.2 (by omega))
                have HM2 := Lib.hid (TpS.pushes_room S0 a2 (i + 1) HZ.out.1 HZ.out.2 (by omega))
                generalize bt a2 i = b at *
                clear HS0
                go_wp2_with fail
                refine (tapSpec.push_on HT.out b ⟨q0, q1⟩ HM.out HN.out).mono ?_
                rintro r wu ⟨Fu, rfl, h9, _, _⟩
                replace HT := Lib.hid h9
                clear h9
                clear HN HM HM2 HZ
                go_wp2_with fail
                go_roundg (a2.size - (i + 1))
                case measure => omega
                case rel => exact ⟨i + 1, _, by simp, by omega, by omega, HT⟩
              · have hlt2 : ¬ (i : Int) < (a2.size : Int) := by omega
                obtain rfl : i = a2.size := by omega
                replace HT : Hid (TOn TpAt w wr k F (S0.pushes a2)) := Lib.hid (by have := HT.out; rw [ext_all] at this; exact this)
                rw [← HS0.out] at HT
                clear HZ HS0 hi hgk
                generalize wr = W at *
                replace HT : Hid (TOn TpAt w W k F ⟨a1 ++ a2, a1, true, false⟩) := HT
                have HSZ : Hid ((a1 ++ a2).size ≤ 500000) := Lib.hid (by rw [ByteArray.size_append]; omega)
                have hov : ¬ 9223372036854775807 < a1.size + a2.size := by omega
                have eS : (S.toList == S.toList) = true := by simp
                have eB : ((a1 ++ a2).toList == (a1 ++ a2).toList) = true := by simp
                have HR := Lib.hid (fun W => refSum_any a1 (by omega) W)
                rw [HS.out] at HR
                go_wp2_with fail
                refine (tapSpec.sum_on HT.out (by show a1.size ≤ _; omega) (t := S) HS.out (b := true) rfl).mono ?_
                rintro r w7 ⟨F7, rfl, h9, _, _⟩
                replace HT := Lib.hid h9
                clear h9
                go_wp2_with fail
                refine (HR.out _).mono ?_
                rintro r w8 ⟨rfl, hb⟩
                replace HT := Lib.hid (HT.out.below tapSpec hb)
                clear hb HR
                go_wp2_with fail
                refine (tapSpec.head_on HT.out HSZ.out rfl (t := a1 ++ a2) rfl).mono ?_
                rintro r w9 ⟨F9, rfl, h9, _, _⟩
                have hBB := h9.bel
                clear h9 HT HSZ
                go_wp2
                go_returns
                exact ⟨rfl, hBB⟩
  · have hcw : 200 < (a0.size : Int) ∨ (¬ 200 < (a0.size : Int) ∧ 200 < (a1.size : Int)) ∨ (¬ 200 < (a0.size : Int) ∧ ¬ 200 < (a1.size : Int) ∧ 200 < (a2.size : Int)) := by omega
    clear hl b0 b1 b2
    rcases hcw with l3 | ⟨l3, l4⟩ | ⟨l3, l4, l5⟩
    all_goals
      go_enter Try.func4, Try.ntmps4
      go_wp2_with fail
      refine (tapSpec.new_on (Below.refl _ _)).mono ?_
      rintro r w1 ⟨k, F1, rfl, _, hB1, _⟩
      go_wp2_with fail
      refine (awake21_any tapSpec _).mono ?_
      rintro r w2 ⟨rfl, hb⟩
      have hB2 := hB1.trans (hb.mono hB1.size)
      clear hb hB1
      go_wp2_with fail
      refine (awake21_any tapSpec _).mono ?_
      rintro r w3 ⟨rfl, hb⟩
      have hB3 := hB2.trans (hb.mono hB2.size)
      clear hb hB2
      go_wp2
      go_returns
      exact ⟨rfl, hB3⟩


/-! ### TapParts: the step from the walk to the statement -/
namespace tapParts
theorem own : ownKnob Try.prog.godebug = none := by kernel_rfl
set_option maxRecDepth 100000 in
theorem lifted (os : Os) (started : os.Started) (H : Type) (enc : TypeId × Value → H) :
    ReturnsInHanded {} Try.checked os 4 .any (Rows.tapPartsSpec.pre6 enc Try.prog Try.f4 Rows.tapPartsRow.domain false) (Rows.tapPartsSpec.post enc Try.prog Try.f4 false true false false) := by
  refine returnsInHanded_of_change (C := Try.checked) own started (by kernel_rfl) Try.func4
    (ChangeSpec.witness6 (enc := enc) (C := Try.checked) false ⟨#[], #[.string ByteArray.empty, .string ByteArray.empty, .string ByteArray.empty], []⟩ 8 (by kernel_rfl) (by kernel_rfl) (by kernel_rfl) (by kernel_rfl)) ?_
  intro W base args ds gs before hval0 hW hcnd _
  have hval : ∀ (j : Nat) t v, Try.f4.params[j]? = some t → args[j]? = some v → Value.okWide Try.prog W .any base t v := hval0
  have hW' := hW
  obtain ⟨p, q, hA0, hV, rfl, hfz, hnd⟩ := hW
  have hA : DataW.TrodAll enc Try.prog W 0 (fun _ => true) true Try.f4.params.toList args.toList ds p := hA0
  rw [Try.params4] at hA hval
  obtain ⟨v0, vs0, d0, ds0, p0, q0, hargs, rfl, rfl, h0, r0⟩ := trodAll_cons hA
  obtain ⟨v1, vs1, d1, ds1, p1, q1, rfl, rfl, rfl, h1, r1⟩ := trodAll_cons r0
  obtain ⟨v2, vs2, d2, ds2, p2, q2, rfl, rfl, rfl, h2, r2⟩ := trodAll_cons r1
  obtain ⟨rfl, rfl, rfl⟩ := trodAll_nil r2
  obtain rfl : args = #[v0, v1, v2] := by cases args; simp_all
  obtain ⟨rfl, rfl⟩ := trodVars_none hV
  obtain ⟨a0, rfl, rfl, rfl, w0⟩ := open_string Try.underlying9 (hval 0 9 v0 rfl rfl) h0
  obtain ⟨a1, rfl, rfl, rfl, w1⟩ := open_string Try.underlying9 (hval 1 9 v1 rfl rfl) h1
  obtain ⟨a2, rfl, rfl, rfl, w2⟩ := open_string Try.underlying9 (hval 2 9 v2 rfl rfl) h2
  clear hA0 hval0
  simp only [List.append_nil] at hW'
  refine (walkTapParts a0 a1 a2 w0 w1 w2 W).mono fun e W' ⟨he, bel⟩ => ?_
  subst he
  exact ⟨_, rfl, _, _, _, [], [], [], hW', trodAll_mk1 (shut_bool Try.underlying4 _), (trodAll_cons_mk (shut_string Try.underlying9 w0) (trodAll_cons_mk (shut_string Try.underlying9 w1) (trodAll_cons_mk (shut_string Try.underlying9 w2) trodAll_mk0))), rfl, bel.frame _, fun h => by cases h⟩
theorem over : Rows.tapPartsRow.holds Try.pinned (OpenSpec.ofChange Rows.tapPartsSpec) :=
  OpenClaim.holds_of_wide 4 Try.f4 rfl rfl rfl rfl rfl rfl rfl ⟨rfl, rfl, rfl, rfl, rfl⟩ rfl rfl rfl rfl rfl (by kernel_rfl) Try.func4 (by kernel_rfl)
    (of_decide_eq_true (by kernel_rfl)) (by unfold Func.isWrapper; first | (rw [if_pos (by decide +kernel)]; kernel_rfl) | (rw [if_neg (by decide +kernel)]; exact ⟨rfl, rfl⟩))
    (fun os started H enc _ => lifted os started H enc)
/-- THE STATEMENT. -/
theorem proved : Rows.TapPartsSaid := over
end tapParts
end Go.Proofs.Ytfkfkoebplpooaa
