/- Of every three texts (of more than 200 bytes the law asks only for the fixed answers): a part that begins with bytes, and one to which these come, have one digest. No condition but the form of the row. -/
import Derived.Test.YtfkfkoebplpooaaTapCode
import Derived.Test.YtfkfkoebplpooaaTapLoop
import Derived.Test.YtfkfkoebplpooaaRows
import Derived.WalkKit
import Derived.ProofKit
import Derived.OpenShut
import Derived.ShutString
import Derived.ChangeOld
import Derived.Below
namespace Go.Proofs.Ytfkfkoebplpooaa
open Go.ChangeShapes Go.WideShapes Go.ChangeAt Go.RowKit
open Go.ChangeMaps (open_string shut_string)
set_option linter.unusedVariables false
open Go.PlainAid in
set_option maxRecDepth 100000 in
set_option maxHeartbeats 16000000 in
theorem walkTapHeads (a0 : ByteArray) (a1 : ByteArray) (a2 : ByteArray) (b0 : a0.size ≤ maxLen) (b1 : a1.size ≤ maxLen) (b2 : a2.size ≤ maxLen) (w : World) :
    Calls Try.prog 5 #[.string a0, .string a1, .string a2] w fun e w' => e = .returned (.bool true) ∧ Below w.heap.size w w' := by
  by_cases hl : a0.size ≤ 200 ∧ a1.size ≤ 200 ∧ a2.size ≤ 200
  · obtain ⟨l0, l1, l2⟩ := hl
    have l3 : ¬ 200 < (a0.size : Int) := by omega
    have l4 : ¬ 200 < (a1.size : Int) := by omega
    have l5 : ¬ 200 < (a2.size : Int) := by omega
    go_enter Try.func5, Try.ntmps5
    go_wp2_with fail
    refine (tapSpec.new_on (Below.refl _ _)).mono ?_
    rintro r w1 ⟨k, FA, rfl, h9, hB1, _⟩
    have HT1 := Lib.hid h9
    clear h9
    go_wp2_with fail
    refine (tapSpec.new_on (a := w) hB1).mono ?_
    rintro r w2 ⟨kb, FB, rfl, h9, hb, hf⟩
    have HT := Lib.hid (TTwo.mk_new tapSpec HT1.out h9 hb hf)
    clear h9 hb hf HT1 hB1
    go_wp2_with fail
    refine (awake21_any tapSpec _).mono ?_
    rintro r w3 ⟨rfl, hb⟩
    replace HT := Lib.hid (HT.out.below tapSpec hb)
    clear hb
    go_wp2_with fail
    refine (tapSpec.start_on HT.out.one a2 (by omega) (s' := ⟨.empty, a2, true, true⟩) rfl).mono ?_
    rintro r w4 ⟨F4, rfl, h9, h8, h7⟩
    replace HT := Lib.hid (HT.out.first tapSpec h9 h8 h7)
    clear h9 h8 h7
    go_wp2_with fail
    refine (tapSpec.start_on HT.out.one a0 (by omega) (s' := ⟨.empty, a0, true, true⟩) rfl).mono ?_
    rintro r w5 ⟨F5, rfl, h9, h8, h7⟩
    replace HT := Lib.hid (HT.out.first tapSpec h9 h8 h7)
    clear h9 h8 h7
    go_wp2_with fail
    refine (tapSpec.start_on HT.out.two ⟨#[]⟩ (by decide) (s' := ⟨.empty, .empty, true, true⟩) rfl).mono ?_
    rintro r w6 ⟨F6, rfl, h9, h8, h7⟩
    replace HT := Lib.hid (HT.out.second tapSpec h9 h8 h7)
    clear h9 h8 h7
    go_wp2_with fail
    go_loopg [53] a0.size (fun gk iv wr => ∃ (i : Nat) (F : Nat → Prop), iv = .int .i64 (i : Int) ∧ i ≤ a0.size ∧ a0.size - i ≤ gk ∧ Hid (TTwo TpAt w wr k F5 ⟨.empty, a0, true, true⟩ kb F ((TpS.mk .empty .empty true true).pushes (a0.extract 0 i))))
    case atStart => exact ⟨0, _, rfl, by omega, by omega, Lib.hid (by rw [ext_zero, TpS.pushes_nil]; exact HT.out)⟩
    case round =>
      clear HT
      obtain ⟨i, F, rfl, hi, hgk, HT⟩ := hrel
      by_cases hlt : i < a0.size
      · have hlt2 : (i : Int) < (a0.size : Int) := by omega
        have gj := get_bt a0 i hlt
        have q0 := bt_nonneg a0 i
        have q1 := bt_le a0 i
        have HN := Lib.hid (TpS.pushes_next (TpS.mk .empty .empty true true) a0 i hlt)
        have HM := Lib.hid (TpS.pushes_room (TpS.mk .empty .empty true true) a0 i (by decide) (by decide) (by omega))
        generalize bt a0 i = b at *
        go_wp2_with fail
        refine (tapSpec.push_on HT.out.two b ⟨q0, q1⟩ HM.out HN.out).mono ?_
        rintro r wu ⟨Fu, rfl, h9, h8, h7⟩
        replace HT := Lib.hid (HT.out.second tapSpec h9 h8 h7)
        clear h9 h8 h7
        clear HN HM
        go_wp2_with fail
        go_roundg (a0.size - (i + 1))
        case measure => omega
        case rel => exact ⟨i + 1, _, by simp, by omega, by omega, HT⟩
      · have hlt2 : ¬ (i : Int) < (a0.size : Int) := by omega
        obtain rfl : i = a0.size := by omega
        replace HT : Hid (TTwo TpAt w wr k F5 ⟨.empty, a0, true, true⟩ kb F ⟨a0, a0, true, true⟩) := Lib.hid (by have := HT.out; rw [ext_all, TpS.pushes_on] at this; exact this)
        clear hi hgk
        generalize wr = W at *
        go_wp2_with fail
        go_loopg [64] a1.size (fun gk iv wr => ∃ (i : Nat) (F G : Nat → Prop), iv = .int .i64 (i : Int) ∧ i ≤ a1.size ∧ a1.size - i ≤ gk ∧ Hid (TTwo TpAt w wr k F ((TpS.mk .empty a0 true true).pushes (a1.extract 0 i)) kb G ((TpS.mk a0 a0 true true).pushes (a1.extract 0 i))))
        case atStart => exact ⟨0, _, _, rfl, by omega, by omega, Lib.hid (by rw [ext_zero, TpS.pushes_nil, TpS.pushes_nil]; exact HT.out)⟩
        case round =>
          clear HT
          obtain ⟨i, F, G, rfl, hi, hgk, HT⟩ := hrel
          by_cases hlt : i < a1.size
          · have hlt2 : (i : Int) < (a1.size : Int) := by omega
            have gj := get_bt a1 i hlt
            have q0 := bt_nonneg a1 i
            have q1 := bt_le a1 i
            have HN := Lib.hid (TpS.pushes_next (TpS.mk .empty a0 true true) a1 i hlt)
            have HM := Lib.hid (TpS.pushes_room (TpS.mk .empty a0 true true) a1 i (by show ByteArray.empty.size ≤ _; decide) (by show a0.size ≤ _; omega) (by omega))
            have HN2 := Lib.hid (TpS.pushes_next (TpS.mk a0 a0 true true) a1 i hlt)
            have HM2 := Lib.hid (TpS.pushes_room (TpS.mk a0 a0 true true) a1 i (by show a0.size ≤ _; omega) (by show a0.size ≤ _; omega) (by omega))
            generalize bt a1 i = b at *
            go_wp2_with fail
            refine (tapSpec.push_on HT.out.one b ⟨q0, q1⟩ HM.out HN.out).mono ?_
            rintro r wu ⟨Fu, rfl, h9, h8, h7⟩
            replace HT := Lib.hid (HT.out.first tapSpec h9 h8 h7)
            clear h9 h8 h7
            go_wp2_with fail
            refine (tapSpec.push_on HT.out.two b ⟨q0, q1⟩ HM2.out HN2.out).mono ?_
            rintro r wv ⟨Fv, rfl, h9, h8, h7⟩
            replace HT := Lib.hid (HT.out.second tapSpec h9 h8 h7)
            clear h9 h8 h7
            clear HN HM HN2 HM2
            go_wp2_with fail
            go_roundg (a1.size - (i + 1))
            case measure => omega
            case rel => exact ⟨i + 1, _, _, by simp, by omega, by omega, HT⟩
          · have hlt2 : ¬ (i : Int) < (a1.size : Int) := by omega
            obtain rfl : i = a1.size := by omega
            replace HT : Hid (TTwo TpAt w wr k F ⟨a1, a0 ++ a1, true, true⟩ kb G ⟨a0 ++ a1, a0 ++ a1, true, true⟩) := Lib.hid (by have := HT.out; rw [ext_all, TpS.pushes_on2] at this; exact this)
            clear hi hgk
            generalize wr = X at *
            have hov : ¬ 9223372036854775807 < a0.size + a1.size := by omega
            have hz : (a0 ++ a1).size ≤ 400 := by rw [ByteArray.size_append]; omega
            have HR := Lib.hid (fun W => refSum_any (a0 ++ a1) (by omega) W)
            obtain ⟨S, hS⟩ : ∃ S, shaB (a0 ++ a1) = S := ⟨_, rfl⟩
            rw [hS] at HR
            have HS := Lib.hid hS
            clear hS
            have eS : (S.toList == S.toList) = true := by simp
            have eA : (a1.toList == a1.toList) = true := by simp
            have eB : ((a0 ++ a1).toList == (a0 ++ a1).toList) = true := by simp
            go_wp2_with fail
            refine (tapSpec.sum_on HT.out.one (by show (a0 ++ a1).size ≤ _; omega) (t := S) HS.out (b := true) rfl).mono ?_
            rintro r w7 ⟨F7, rfl, h9, h8, h7⟩
            replace HT := Lib.hid (HT.out.first tapSpec h9 h8 h7)
            clear h9 h8 h7
            go_wp2_with fail
            refine (tapSpec.sum_on HT.out.two (by show (a0 ++ a1).size ≤ _; omega) (t := S) HS.out (b := true) rfl).mono ?_
            rintro r w8 ⟨F8, rfl, h9, h8, h7⟩
            replace HT := Lib.hid (HT.out.second tapSpec h9 h8 h7)
            clear h9 h8 h7
            go_wp2_with fail
            refine (HR.out _).mono ?_
            rintro r w9 ⟨rfl, hb⟩
            replace HT := Lib.hid (HT.out.below tapSpec hb)
            clear hb HR
            go_wp2_with fail
            refine (tapSpec.head_on HT.out.one (by show a1.size ≤ _; omega) rfl (t := a1) rfl).mono ?_
            rintro r wa ⟨Fa, rfl, h9, h8, h7⟩
            replace HT := Lib.hid (HT.out.first tapSpec h9 h8 h7)
            clear h9 h8 h7
            go_wp2_with fail
            refine (tapSpec.head_on HT.out.two (by show (a0 ++ a1).size ≤ _; omega) rfl (t := a0 ++ a1) rfl).mono ?_
            rintro r wb ⟨Fb, rfl, h9, _, _⟩
            have hBB := h9.bel
            clear h9 HT
            go_wp2
            go_returns
            exact ⟨rfl, hBB⟩
  · have hcw : 200 < (a0.size : Int) ∨ (¬ 200 < (a0.size : Int) ∧ 200 < (a1.size : Int)) ∨ (¬ 200 < (a0.size : Int) ∧ ¬ 200 < (a1.size : Int) ∧ 200 < (a2.size : Int)) := by omega
    clear hl b0 b1 b2
    rcases hcw with l3 | ⟨l3, l4⟩ | ⟨l3, l4, l5⟩
    all_goals
      go_enter Try.func5, Try.ntmps5
      go_wp2_with fail
      refine (tapSpec.new_on (Below.refl _ _)).mono ?_
      rintro r w1 ⟨k, F1, rfl, _, hB1, _⟩
      go_wp2_with fail
      refine (tapSpec.new_on (Below.refl _ _)).mono ?_
      rintro r w0 ⟨k0, F0, rfl, _, hb, _⟩
      have hB0 := hB1.trans (hb.mono hB1.size)
      clear hb hB1
      go_wp2_with fail
      refine (awake21_any tapSpec _).mono ?_
      rintro r w2 ⟨rfl, hb⟩
      have hB2 := hB0.trans (hb.mono hB0.size)
      clear hb hB0
      go_wp2_with fail
      refine (awake21_any tapSpec _).mono ?_
      rintro r w3 ⟨rfl, hb⟩
      have hB3 := hB2.trans (hb.mono hB2.size)
      clear hb hB2
      go_wp2
      go_returns
      exact ⟨rfl, hB3⟩


/-! ### TapHeads: the step from the walk to the statement -/
namespace tapHeads
theorem own : ownKnob Try.prog.godebug = none := by kernel_rfl
set_option maxRecDepth 100000 in
theorem lifted (os : Os) (started : os.Started) (H : Type) (enc : TypeId × Value → H) :
    ReturnsInHanded {} Try.checked os 5 .any (Rows.tapHeadsSpec.pre6 enc Try.prog Try.f5 Rows.tapHeadsRow.domain false) (Rows.tapHeadsSpec.post enc Try.prog Try.f5 false true false false) := by
  refine returnsInHanded_of_change (C := Try.checked) own started (by kernel_rfl) Try.func5
    (ChangeSpec.witness6 (enc := enc) (C := Try.checked) false ⟨#[], #[.string ByteArray.empty, .string ByteArray.empty, .string ByteArray.empty], []⟩ 8 (by kernel_rfl) (by kernel_rfl) (by kernel_rfl) (by kernel_rfl)) ?_
  intro W base args ds gs before hval0 hW hcnd _
  have hval : ∀ (j : Nat) t v, Try.f5.params[j]? = some t → args[j]? = some v → Value.okWide Try.prog W .any base t v := hval0
  have hW' := hW
  obtain ⟨p, q, hA0, hV, rfl, hfz, hnd⟩ := hW
  have hA : DataW.TrodAll enc Try.prog W 0 (fun _ => true) true Try.f5.params.toList args.toList ds p := hA0
  rw [Try.params5] at hA hval
  obtain ⟨v0, vs0, d0, ds0, p0, q0, hargs, rfl, rfl, h0, r0⟩ := trodAll_cons hA
  obtain ⟨v1, vs1, d1, ds1, p1, q1, rfl, rfl, rfl, h1, r1⟩ := trodAll_cons r0
  obtain ⟨v2, vs2, d2, ds2, p2, q2, rfl, rfl, rfl, h2, r2⟩ := trodAll_cons r1
  obtain ⟨rfl, rfl, rfl⟩ := trodAll_nil r2
  obtain rfl : args = #[v0, v1, v2] := by cases args; simp_all
  obtain ⟨rfl, rfl⟩ := trodVars_none hV
  obtain ⟨a0, rfl, rfl, rfl, w0⟩ := open_string Try.underlying9 (hval 0 9 v0 rfl rfl) h0
  obtain ⟨a1, rfl, rfl, rfl, w1⟩ := open_string Try.underlying9 (hval 1 9 v1 rfl rfl) h1
  obtain ⟨a2, rfl, rfl, rfl, w2⟩ := open_string Try.underlying9 (hval 2 9 v2 rfl rfl) h2
  clear hA0 hval0
  simp only [List.append_nil] at hW'
  refine (walkTapHeads a0 a1 a2 w0 w1 w2 W).mono fun e W' ⟨he, bel⟩ => ?_
  subst he
  exact ⟨_, rfl, _, _, _, [], [], [], hW', trodAll_mk1 (shut_bool Try.underlying4 _), (trodAll_cons_mk (shut_string Try.underlying9 w0) (trodAll_cons_mk (shut_string Try.underlying9 w1) (trodAll_cons_mk (shut_string Try.underlying9 w2) trodAll_mk0))), rfl, bel.frame _, fun h => by cases h⟩
theorem over : Rows.tapHeadsRow.holds Try.pinned (OpenSpec.ofChange Rows.tapHeadsSpec) :=
  OpenClaim.holds_of_wide 5 Try.f5 rfl rfl rfl rfl rfl rfl rfl ⟨rfl, rfl, rfl, rfl, rfl⟩ rfl rfl rfl rfl rfl (by kernel_rfl) Try.func5 (by kernel_rfl)
    (of_decide_eq_true (by kernel_rfl)) (by unfold Func.isWrapper; first | (rw [if_pos (by decide +kernel)]; kernel_rfl) | (rw [if_neg (by decide +kernel)]; exact ⟨rfl, rfl⟩))
    (fun os started H enc _ => lifted os started H enc)
/-- THE STATEMENT. -/
theorem proved : Rows.TapHeadsSaid := over
end tapHeads
end Go.Proofs.Ytfkfkoebplpooaa
