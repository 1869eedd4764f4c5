/- Of every bytes (of more than 300 the law asks only for the fixed answers): with the beginning, or one by one behind it, they are kept alike; what comes behind the end is not; another beginning begins anew. No condition but the form of the row. -/
import Derived.Test.YtemdeopghkcpbaaCapPair
import Derived.Test.YtemdeopghkcpbaaRows
import Derived.WalkKit
import Derived.ProofKit
import Derived.OpenShut
import Derived.ShutString
import Derived.ChangeOld
import Derived.Below
namespace Go.Proofs.Ytemdeopghkcpbaa
open Go.ChangeShapes Go.WideShapes Go.ChangeAt Go.RowKit
open Go.ChangeMaps (open_string shut_string)
set_option linter.unusedVariables false
open Go.PlainAid in
set_option maxRecDepth 100000 in
set_option maxHeartbeats 8000000 in
theorem walkCaptureParts (a0 : ByteArray) (a1 : ByteArray) (a2 : ByteArray) (b0 : a0.size ≤ maxLen) (b1 : a1.size ≤ maxLen) (b2 : a2.size ≤ maxLen) (w : World) :
    Calls Try.prog 5 #[.string a0, .string a1, .string a2] w fun e w' => e = .returned (.bool true) ∧ Below w.heap.size w w' := by
  have ha9 : (a0.size : Int) ≤ 9223372036854775807 := by unfold maxLen at b0; omega
  have hb9 : (a1.size : Int) ≤ 9223372036854775807 := by unfold maxLen at b1; omega
  have hc9 : (a2.size : Int) ≤ 9223372036854775807 := by unfold maxLen at b2; omega
  by_cases hl : (300 : Int) < (a0.size : Int)
  · go_enter Try.func5, Try.ntmps5
    go_wp2_with fail
    refine (capSpec.new_on 1000 (by unfold InI; decide) (Below.refl w.heap.size w)).mono ?_
    rintro e w1 ⟨k, F, rfl, h1, _, _⟩
    have e0 : KM.new 1000 = ⟨1000, [], false⟩ := rfl
    rw [e0] at h1
    have H1 := Lib.hid h1
    clear h1
    go_wp2_with fail
    refine (capSpec.new_on 1000 (by unfold InI; decide) H1.out.bel).mono ?_
    rintro e w2 ⟨g, G, rfl, h2, hb, hG⟩
    rw [e0] at h2
    have H2 := Lib.hid (KPair.new H1.out h2 hb hG)
    clear h2 hb hG H1 e0
    go_wp2_with fail
    refine (awake17_any _).mono ?_
    rintro e w3 ⟨rfl, hb⟩
    have H3 := Lib.hid (H2.out.below hb)
    clear hb H2
    go_wp2_with fail
    refine (awake17_any _).mono ?_
    rintro e w4 ⟨rfl, hb⟩
    have hB4 := (H3.out.below hb).x.bel
    clear hb H3
    go_wp2
    go_returns
    exact ⟨rfl, hB4⟩
  · by_cases hm : (300 : Int) < (a1.size : Int)
    · go_enter Try.func5, Try.ntmps5
      go_wp2_with fail
      refine (capSpec.new_on 1000 (by unfold InI; decide) (Below.refl w.heap.size w)).mono ?_
      rintro e w1 ⟨k, F, rfl, h1, _, _⟩
      have e0 : KM.new 1000 = ⟨1000, [], false⟩ := rfl
      rw [e0] at h1
      have H1 := Lib.hid h1
      clear h1
      go_wp2_with fail
      refine (capSpec.new_on 1000 (by unfold InI; decide) H1.out.bel).mono ?_
      rintro e w2 ⟨g, G, rfl, h2, hb, hG⟩
      rw [e0] at h2
      have H2 := Lib.hid (KPair.new H1.out h2 hb hG)
      clear h2 hb hG H1 e0
      go_wp2_with fail
      refine (awake17_any _).mono ?_
      rintro e w3 ⟨rfl, hb⟩
      have H3 := Lib.hid (H2.out.below hb)
      clear hb H2
      go_wp2_with fail
      refine (awake17_any _).mono ?_
      rintro e w4 ⟨rfl, hb⟩
      have hB4 := (H3.out.below hb).x.bel
      clear hb H3
      go_wp2
      go_returns
      exact ⟨rfl, hB4⟩
    · by_cases hk : (300 : Int) < (a2.size : Int)
      · go_enter Try.func5, Try.ntmps5
        go_wp2_with fail
        refine (capSpec.new_on 1000 (by unfold InI; decide) (Below.refl w.heap.size w)).mono ?_
        rintro e w1 ⟨k, F, rfl, h1, _, _⟩
        have e0 : KM.new 1000 = ⟨1000, [], false⟩ := rfl
        rw [e0] at h1
        have H1 := Lib.hid h1
        clear h1
        go_wp2_with fail
        refine (capSpec.new_on 1000 (by unfold InI; decide) H1.out.bel).mono ?_
        rintro e w2 ⟨g, G, rfl, h2, hb, hG⟩
        rw [e0] at h2
        have H2 := Lib.hid (KPair.new H1.out h2 hb hG)
        clear h2 hb hG H1 e0
        go_wp2_with fail
        refine (awake17_any _).mono ?_
        rintro e w3 ⟨rfl, hb⟩
        have H3 := Lib.hid (H2.out.below hb)
        clear hb H2
        go_wp2_with fail
        refine (awake17_any _).mono ?_
        rintro e w4 ⟨rfl, hb⟩
        have hB4 := (H3.out.below hb).x.bel
        clear hb H3
        go_wp2
        go_returns
        exact ⟨rfl, hB4⟩
      · have h1 : a0.size ≤ 300 := by omega
        have h2 : a1.size ≤ 300 := by omega
        have h3 : a2.size ≤ 300 := by omega
        have hl0 := bl_length a0
        have hl1 := bl_length a1
        have hl2 := bl_length a2
        have hov : ¬ 9223372036854775807 < a0.size + a1.size := by omega
        have hABs : (a0 ++ a1).size = a0.size + a1.size := ByteArray.size_append
        have HAB : Hid (bl (a0 ++ a1) = bl a0 ++ bl a1) := Lib.hid (bl_append a0 a1)
        go_enter Try.func5, Try.ntmps5
        go_wp2_with fail
        refine (capSpec.new_on 1000 (by unfold InI; decide) (Below.refl w.heap.size w)).mono ?_
        rintro e w1 ⟨k, F, rfl, h1, _, _⟩
        have e0 : KM.new 1000 = ⟨1000, [], false⟩ := rfl
        rw [e0] at h1
        have H1 := Lib.hid h1
        clear h1
        go_wp2_with fail
        refine (capSpec.new_on 1000 (by unfold InI; decide) H1.out.bel).mono ?_
        rintro e w2 ⟨g, G, rfl, h2, hb, hG⟩
        rw [e0] at h2
        have H2 := Lib.hid (KPair.new H1.out h2 hb hG)
        clear h2 hb hG H1 e0
        go_wp2_with fail
        refine (awake17_any _).mono ?_
        rintro e w3 ⟨rfl, hb⟩
        have H3 := Lib.hid (H2.out.below hb)
        clear hb H2
        have C1 : Hid ((KM.mk 1000 [] false).begin (bl (a0 ++ a1)) = ⟨1000, bl (a0 ++ a1), true⟩ ∧ (KM.mk 1000 [] false).beginE (bl (a0 ++ a1)) = 0) := Lib.hid ⟨by unfold KM.begin; rw [if_neg (by show ¬ 1000 < (bl (a0 ++ a1)).length; rw [bl_length]; omega)], by unfold KM.beginE; rw [if_neg (by show ¬ 1000 < (bl (a0 ++ a1)).length; rw [bl_length]; omega)]⟩
        have C2 : Hid ((KM.mk 1000 [] false).begin (bl a0) = ⟨1000, bl a0, true⟩ ∧ (KM.mk 1000 [] false).beginE (bl a0) = 0) := Lib.hid ⟨by unfold KM.begin; rw [if_neg (by show ¬ 1000 < (bl a0).length; omega)], by unfold KM.beginE; rw [if_neg (by show ¬ 1000 < (bl a0).length; omega)]⟩
        obtain ⟨AB, hAB⟩ : ∃ AB, a0 ++ a1 = AB := ⟨_, rfl⟩
        rw [hAB] at hABs HAB C1
        have HABe := Lib.hid hAB
        clear hAB
        go_wp2_with fail
        first | rw [HABe.out] | skip
        refine (H3.out.beginX AB (by omega) C1.out.1 C1.out.2).mono ?_
        rintro e w4 ⟨F4, rfl, h4⟩
        have H4 := Lib.hid h4
        clear h4 H3 C1
        go_wp2_with fail
        refine (H4.out.beginY a0 (by omega) C2.out.1 C2.out.2).mono ?_
        rintro e w5 ⟨G5, rfl, h5⟩
        have H5 := Lib.hid h5
        clear h5 H4 C2
        go_wp2_with fail
        go_loopg [50] a1.size (fun gk jv wr => ∃ (j : Nat) (F G : Nat → Prop), jv = .int .i64 (j : Int) ∧ j ≤ a1.size ∧ a1.size - j ≤ gk ∧ Hid (KPair w wr k F ⟨1000, bl AB, true⟩ g G ⟨1000, bl a0 ++ (bl a1).take j, true⟩))
        case atStart => exact ⟨0, F4, G5, rfl, by omega, by omega, by rw [List.take_zero, List.append_nil]; exact H5⟩
        case round =>
          clear H5
          obtain ⟨j, F, G, rfl, hj, hgk, HO⟩ := hrel
          by_cases hlt : j < a1.size
          · have hlt2 : (j : Int) < (a1.size : Int) := by omega
            have gj := get_bt a1 j hlt
            have q0 := bt_nonneg a1 j
            have q1 := bt_le a1 j
            have hn : ¬ 1000 ≤ (bl a0 ++ (bl a1).take j).length := by rw [List.length_append, List.length_take, hl0, hl1]; omega
            have HP : Hid ((KM.mk 1000 (bl a0 ++ (bl a1).take j) true).push (bt a1 j) = ⟨1000, bl a0 ++ (bl a1).take (j + 1), true⟩ ∧ (KM.mk 1000 (bl a0 ++ (bl a1).take j) true).pushE = 0) := Lib.hid ⟨by
              rw [KM.push_on _ rfl hn]
              show KM.mk 1000 (bl a0 ++ (bl a1).take j ++ [bt a1 j]) true = _
              rw [List.append_assoc, List.take_add_one, bl_at a1 j hlt]; rfl, KM.pushE_on hn⟩
            clear hn
            generalize bt a1 j = b at *
            go_wp2_with fail
            refine (HO.out.pushY b ⟨q0, q1⟩ HP.out.1 HP.out.2).mono ?_
            rintro e w6 ⟨G6, rfl, h6⟩
            have H6 := Lib.hid h6
            clear h6 HO HP
            go_wp2_with fail
            go_roundg (a1.size - (j + 1))
            case measure => omega
            case rel => exact ⟨j + 1, F, G6, by simp, by omega, by omega, H6⟩
          · have hlt2 : ¬ (j : Int) < (a1.size : Int) := by omega
            have HO2 : Hid (KPair w wr k F ⟨1000, bl AB, true⟩ g G ⟨1000, bl AB, true⟩) := Lib.hid (by have := HO.out; rw [List.take_of_length_le (by rw [hl1]; omega), ← HAB.out] at this; exact this)
            clear HO
            go_wp2_with fail
            refine (HO2.out.finX rfl).mono ?_
            rintro e w7 ⟨F7, rfl, h7⟩
            have H7 : Hid (KPair w w7 k F7 ⟨1000, bl AB, false⟩ g G ⟨1000, bl AB, true⟩) := Lib.hid h7
            clear h7 HO2
            go_wp2_with fail
            refine (H7.out.finY rfl).mono ?_
            rintro e w8 ⟨G8, rfl, h8⟩
            have H8 : Hid (KPair w w8 k F7 ⟨1000, bl AB, false⟩ g G8 ⟨1000, bl AB, false⟩) := Lib.hid h8
            clear h8 H7
            go_wp2_with fail
            go_loopg [65] a2.size (fun gk jv wr => ∃ (j : Nat) (F G : Nat → Prop), jv = .int .i64 (j : Int) ∧ j ≤ a2.size ∧ a2.size - j ≤ gk ∧ Hid (KPair w wr k F ⟨1000, bl AB, false⟩ g G ⟨1000, bl AB, false⟩))
            case atStart => exact ⟨0, F7, G8, rfl, by omega, by omega, H8⟩
            case round =>
              clear H8
              obtain ⟨i, F, G, rfl, hi, hgk2, HO⟩ := hrel
              by_cases hlt : i < a2.size
              · have hlt3 : (i : Int) < (a2.size : Int) := by omega
                have gj := get_bt a2 i hlt
                have q0 := bt_nonneg a2 i
                have q1 := bt_le a2 i
                generalize bt a2 i = b at *
                go_wp2_with fail
                refine (HO.out.pushX b ⟨q0, q1⟩ (KM.push_off b rfl) (KM.pushE_off rfl)).mono ?_
                rintro e w9 ⟨F9, rfl, h9⟩
                have H9 := Lib.hid h9
                clear h9 HO
                go_wp2_with fail
                go_roundg (a2.size - (i + 1))
                case measure => omega
                case rel => exact ⟨i + 1, F9, G, by simp, by omega, by omega, H9⟩
              · have hlt3 : ¬ (i : Int) < (a2.size : Int) := by omega
                have hBe : (AB.toList == (a0 ++ a1).toList) = true := by rw [HABe.out]; simp
                have hCe : (a2.toList == a2.toList) = true := by simp
                go_wp2_with fail
                refine (capSpec.text_on HO.out.x (str_bl AB)).mono ?_
                rintro e w10 ⟨rfl, n10, rfl⟩
                go_wp2_with fail
                refine (capSpec.text_on (HO.out.drewN n10).y (str_bl AB)).mono ?_
                rintro e w11 ⟨rfl, n11, hw11⟩
                have H11 : Hid (KPair w w11 k F ⟨1000, bl AB, false⟩ g G ⟨1000, bl AB, false⟩) := Lib.hid (by rw [hw11]; exact (HO.out.drewN n10).drewN n11)
                clear hw11 HO
                go_wp2_with fail
                refine (capSpec.on_on H11.out.x rfl).mono ?_
                rintro e w12 ⟨rfl, n12, hw12⟩
                have H12 : Hid (KPair w w12 k F ⟨1000, bl AB, false⟩ g G ⟨1000, bl AB, false⟩) := Lib.hid (by rw [hw12]; exact H11.out.drewN n12)
                clear hw12 H11
                have C3 : Hid ((KM.mk 1000 (bl AB) false).begin (bl a2) = ⟨1000, bl a2, true⟩ ∧ (KM.mk 1000 (bl AB) false).beginE (bl a2) = 0) := Lib.hid ⟨by unfold KM.begin; rw [if_neg (by show ¬ 1000 < (bl a2).length; omega)], by unfold KM.beginE; rw [if_neg (by show ¬ 1000 < (bl a2).length; omega)]⟩
                go_wp2_with fail
                refine (H12.out.beginX a2 (by omega) C3.out.1 C3.out.2).mono ?_
                rintro e w13 ⟨F13, rfl, h13⟩
                have H13 := Lib.hid h13
                clear h13 H12 C3
                go_wp2_with fail
                refine (capSpec.text_on H13.out.x (str_bl a2)).mono ?_
                rintro e w14 ⟨rfl, n14, hw14⟩
                have H14 : Hid (KPair w w14 k F13 ⟨1000, bl a2, true⟩ g G ⟨1000, bl AB, false⟩) := Lib.hid (by rw [hw14]; exact H13.out.drewN n14)
                clear hw14 H13
                go_wp2_with fail
                refine (capSpec.on_on H14.out.x rfl).mono ?_
                rintro e w15 ⟨rfl, n15, hw15⟩
                have H15 : Hid (KPair w w15 k F13 ⟨1000, bl a2, true⟩ g G ⟨1000, bl AB, false⟩) := Lib.hid (by rw [hw15]; exact H14.out.drewN n15)
                clear hw15 H14
                go_wp2_with fail
                refine (capSpec.text_on H15.out.y (str_bl AB)).mono ?_
                rintro e w16 ⟨rfl, n16, hw16⟩
                have hBB : Below w.heap.size w w16 := by rw [hw16]; exact (H15.out.drewN n16).x.bel
                clear hw16 H15
                go_wp2_with fail
                go_wp2_with fail
                go_returns
                exact ⟨rfl, hBB⟩


/-! ### CaptureParts: the step from the walk to the statement -/
namespace captureParts
theorem own : ownKnob Try.prog.godebug = none := by kernel_rfl
set_option maxRecDepth 100000 in
theorem lifted (os : Os) (started : os.Started) (H : Type) (enc : TypeId × Value → H) :
    ReturnsInHanded {} Try.checked os 5 .any (Rows.capturePartsSpec.pre6 enc Try.prog Try.f5 Rows.capturePartsRow.domain false) (Rows.capturePartsSpec.post enc Try.prog Try.f5 false true false false) := by
  refine returnsInHanded_of_change (C := Try.checked) own started (by kernel_rfl) Try.func5
    (ChangeSpec.witness6 (enc := enc) (C := Try.checked) false ⟨#[], #[.string ByteArray.empty, .string ByteArray.empty, .string ByteArray.empty], []⟩ 8 (by kernel_rfl) (by kernel_rfl) (by kernel_rfl) (by kernel_rfl)) ?_
  intro W base args ds gs before hval0 hW hcnd _
  have hval : ∀ (j : Nat) t v, Try.f5.params[j]? = some t → args[j]? = some v → Value.okWide Try.prog W .any base t v := hval0
  have hW' := hW
  obtain ⟨p, q, hA0, hV, rfl, hfz, hnd⟩ := hW
  have hA : DataW.TrodAll enc Try.prog W 0 (fun _ => true) true Try.f5.params.toList args.toList ds p := hA0
  rw [Try.params5] at hA hval
  obtain ⟨v0, vs0, d0, ds0, p0, q0, hargs, rfl, rfl, h0, r0⟩ := trodAll_cons hA
  obtain ⟨v1, vs1, d1, ds1, p1, q1, rfl, rfl, rfl, h1, r1⟩ := trodAll_cons r0
  obtain ⟨v2, vs2, d2, ds2, p2, q2, rfl, rfl, rfl, h2, r2⟩ := trodAll_cons r1
  obtain ⟨rfl, rfl, rfl⟩ := trodAll_nil r2
  obtain rfl : args = #[v0, v1, v2] := by cases args; simp_all
  obtain ⟨rfl, rfl⟩ := trodVars_none hV
  obtain ⟨a0, rfl, rfl, rfl, w0⟩ := open_string Try.underlying9 (hval 0 9 v0 rfl rfl) h0
  obtain ⟨a1, rfl, rfl, rfl, w1⟩ := open_string Try.underlying9 (hval 1 9 v1 rfl rfl) h1
  obtain ⟨a2, rfl, rfl, rfl, w2⟩ := open_string Try.underlying9 (hval 2 9 v2 rfl rfl) h2
  clear hA0 hval0
  simp only [List.append_nil] at hW'
  refine (walkCaptureParts a0 a1 a2 w0 w1 w2 W).mono fun e W' ⟨he, bel⟩ => ?_
  subst he
  exact ⟨_, rfl, _, _, _, [], [], [], hW', trodAll_mk1 (shut_bool Try.underlying4 _), (trodAll_cons_mk (shut_string Try.underlying9 w0) (trodAll_cons_mk (shut_string Try.underlying9 w1) (trodAll_cons_mk (shut_string Try.underlying9 w2) trodAll_mk0))), rfl, bel.frame _, fun h => by cases h⟩
theorem over : Rows.capturePartsRow.holds Try.pinned (OpenSpec.ofChange Rows.capturePartsSpec) :=
  OpenClaim.holds_of_wide 5 Try.f5 rfl rfl rfl rfl rfl rfl rfl ⟨rfl, rfl, rfl, rfl, rfl⟩ rfl rfl rfl rfl rfl (by kernel_rfl) Try.func5 (by kernel_rfl)
    (of_decide_eq_true (by kernel_rfl)) (by unfold Func.isWrapper; first | (rw [if_pos (by decide +kernel)]; kernel_rfl) | (rw [if_neg (by decide +kernel)]; exact ⟨rfl, rfl⟩))
    (fun os started H enc _ => lifted os started H enc)
/-- THE STATEMENT. -/
theorem proved : Rows.CapturePartsSaid := over
end captureParts
end Go.Proofs.Ytemdeopghkcpbaa
