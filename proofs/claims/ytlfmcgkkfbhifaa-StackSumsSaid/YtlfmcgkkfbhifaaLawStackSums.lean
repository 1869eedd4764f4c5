/- Of every number and parts: of an element of so many bytes, in whatever parts they come, alone or within others, just as many come till it can be left (of others than 0 to 2000, and of more than 300 parts, the law asks only for the fixed answers). No condition but the form of the row. -/
import Derived.Test.YtlfmcgkkfbhifaaStackAwake
import Derived.Test.YtlfmcgkkfbhifaaStackLaw
import Derived.Test.YtlfmcgkkfbhifaaRows
import Derived.WalkKit
import Derived.ProofKit
import Derived.OpenShut
import Derived.ShutString
import Derived.ChangeOld
import Derived.Below
import Derived.Carry
namespace Go.Proofs.Ytlfmcgkkfbhifaa
open Go.ChangeShapes Go.WideShapes Go.ChangeAt Go.RowKit
open Go.ChangeMaps (open_string shut_string)
set_option linter.unusedVariables false
set_option maxRecDepth 100000 in
set_option maxHeartbeats 4000000 in
theorem walkStackSums (a0 : Int) (o1 : Option Addr) (c1 : Nat) (a1 : List Int) (b0 : -9223372036854775808 ≤ a0 ∧ a0 ≤ 9223372036854775807) (lc1 : a1.length ≤ c1) (cm1 : c1 ≤ maxLen) (el1 : ∀ x ∈ a1, inK .i64 x) (w : World) (ca1 : Came w o1 (ivs .i64 a1)) :
    Calls Try.prog 4 #[.int .i64 a0, .slice o1 a1.length c1] w fun e w' => e = .returned (.bool true) ∧ Below w.heap.size w w' := by
  by_cases hin : 0 ≤ a0 ∧ a0 ≤ 2000 ∧ a1.length ≤ 300
  · obtain ⟨g1, g2, g3⟩ := hin
    obtain ⟨n, rfl⟩ := Int.eq_ofNat_of_zero_le g1
    have g4 : (a1.length : Int) ≤ 300 := by omega
    have HC := Lib.hid ca1
    have HEL := Lib.hid el1
    clear ca1 el1 lc1 cm1
    go_enter Try.func4, Try.ntmps4
    go_wp2_with fail
    refine (stSpec.new_on 2 (by unfold InI; decide) (Below.refl w.heap.size w)).mono ?_
    rintro e w1 ⟨k, F, rfl, h1, _, _⟩
    have H1 := Lib.hid (show StOn StAt w w1 k F ⟨2, []⟩ from h1)
    clear h1
    go_wp2_with fail
    refine (awake08_any _).mono ?_
    rintro e w2 ⟨rfl, hb⟩
    have H2 := Lib.hid (H1.out.step stSpec hb)
    clear hb H1
    go_wp2_with fail
    refine (stSpec.enter_on _ H2.out (by unfold InI; omega) (sum_first g1).1 (sum_first g1).2).mono ?_
    rintro e w3 ⟨rfl, h3, _⟩
    have H3 := Lib.hid h3
    clear h3 H2
    go_wp2
    go_loopg [6, 35] a1.length (fun gk cv jv wr => ∃ j cm : Nat, cv = .int .i64 (cm : Int) ∧ jv = .int .i64 (j : Int) ∧ j ≤ a1.length ∧ a1.length - j ≤ gk ∧ cm ≤ n ∧ Hid (StOn StAt w wr k F ⟨2, [(n : Int) - (cm : Int)]⟩))
    case atStart => exact ⟨0, 0, rfl, rfl, by omega, by omega, by omega, by simpa using H3⟩
    case round =>
      obtain ⟨j, cm, rfl, rfl, hj, hgk, hcm, HS⟩ := hrel
      clear H3
      by_cases hlt : j < a1.length
      · have hlt2 : (j : Int) < (a1.length : Int) := by omega
        obtain ⟨ad, ho, _, hcell⟩ := (HC.out.below HS.out.bel).first (by simp [ivs]; omega)
        subst ho
        have hp := HEL.out a1[j] (List.getElem_mem hlt)
        have hc := hcell j (.int .i64 a1[j]) (by simp [ivs, hlt])
        generalize a1[j] = p at *
        have hp : InI p := hp
        obtain ⟨hpa, hpb⟩ := hp
        clear hcell
        by_cases hp0 : p < 0
        · by_cases hy : cm = n
          · have HS0 : Hid (StOn StAt w wr k F ⟨2, [0]⟩) := Lib.hid (by have := HS.out; rw [show (n : Int) - (cm : Int) = 0 by omega] at this; exact this)
            go_wp2_with fail
            refine (stSpec.take_on HS0.out (sum_none 2 []).1 (sum_none 2 []).2.1).mono ?_
            rintro e w4 ⟨rfl, h4, _⟩
            have H4 : Hid (StOn StAt w w4 k F ⟨2, [(n : Int) - (cm : Int)]⟩) := Lib.hid (by rw [show (n : Int) - (cm : Int) = 0 by omega]; exact h4)
            clear h4 HS HS0 hc
            go_wp2
            go_roundg (a1.length - (j + 1))
            case measure => omega
            case rel => exact ⟨j + 1, cm, by rw [hy], by simp, by omega, by omega, hcm, H4⟩
          · have hz := sum_take (m := 2) (x := (n : Int) - (cm : Int)) (l := []) (by omega)
            go_wp2_with fail
            refine (stSpec.take_on HS.out hz.1 hz.2).mono ?_
            rintro e w4 ⟨rfl, h4, _⟩
            have H4 : Hid (StOn StAt w w4 k F ⟨2, [(n : Int) - ((cm + 1 : Nat) : Int)]⟩) := Lib.hid (by rw [show (n : Int) - ((cm + 1 : Nat) : Int) = (n : Int) - (cm : Int) - 1 by omega]; exact h4)
            clear h4 HS hc hz
            go_wp2
            go_roundg (a1.length - (j + 1))
            case measure => omega
            case rel => exact ⟨j + 1, cm + 1, by simp, by simp, by omega, by omega, by omega, H4⟩
        · obtain ⟨q, rfl⟩ := Int.eq_ofNat_of_zero_le (show 0 ≤ p by omega)
          by_cases hfar : (n : Int) - (cm : Int) < (q : Int)
          · have hz := sum_far (p := (q : Int)) (y := (n : Int) - (cm : Int)) (by omega) (by omega) hfar
            go_wp2_with fail
            refine (stSpec.enter_on _ HS.out ⟨hpa, hpb⟩ hz.1 hz.2).mono ?_
            rintro e w4 ⟨rfl, h4, _⟩
            have H4 := Lib.hid h4
            clear h4 HS hc hz
            go_wp2
            go_roundg (a1.length - (j + 1))
            case measure => omega
            case rel => exact ⟨j + 1, cm, rfl, by simp, by omega, by omega, hcm, H4⟩
          · have hz := sum_in (p := (q : Int)) (y := (n : Int) - (cm : Int)) (by omega) (by omega)
            go_wp2_with fail
            refine (stSpec.enter_on _ HS.out ⟨hpa, hpb⟩ hz.1 hz.2).mono ?_
            rintro e w4 ⟨rfl, h4, _⟩
            have H4 := Lib.hid h4
            clear h4 HS hc hz
            go_wp2
            go_loopg [6, 56] q (fun gi cv iv wr => ∃ i : Nat, cv = .int .i64 ((cm + i : Nat) : Int) ∧ iv = .int .i64 (i : Int) ∧ i ≤ q ∧ q - i ≤ gi ∧ Hid (StOn StAt w wr k F ⟨2, [(q : Int) - (i : Int), (n : Int) - (cm : Int) - (q : Int)]⟩))
            case atStart => exact ⟨0, rfl, rfl, by omega, by omega, by simpa using H4⟩
            case round =>
              obtain ⟨i, rfl, rfl, hi, hgi, HI⟩ := hrel
              clear H4
              by_cases hiq : i < q
              · have hiq2 : (i : Int) < (q : Int) := by omega
                have hz := sum_take (m := 2) (x := (q : Int) - (i : Int)) (l := [(n : Int) - (cm : Int) - (q : Int)]) (by omega)
                go_wp2_with fail
                refine (stSpec.take_on HI.out hz.1 hz.2).mono ?_
                rintro e w5 ⟨rfl, h5, _⟩
                have H5 : Hid (StOn StAt w w5 k F ⟨2, [(q : Int) - ((i + 1 : Nat) : Int), (n : Int) - (cm : Int) - (q : Int)]⟩) := Lib.hid (by rw [show (q : Int) - ((i + 1 : Nat) : Int) = (q : Int) - (i : Int) - 1 by omega]; exact h5)
                clear h5 HI hz
                go_wp2
                go_roundg (q - (i + 1))
                case measure => omega
                case rel => exact ⟨i + 1, by simp; omega, by simp, by omega, by omega, H5⟩
              · have hiq3 : i = q := by omega
                have hiq2 : ¬ (i : Int) < (q : Int) := by omega
                have HI0 : Hid (StOn StAt w wr k F ⟨2, [0, (n : Int) - (cm : Int) - (q : Int)]⟩) := Lib.hid (by have := HI.out; rw [show (q : Int) - (i : Int) = 0 by omega] at this; exact this)
                have hz := sum_none 2 [(n : Int) - (cm : Int) - (q : Int)]
                obtain ⟨z1, z2, z3, z4⟩ := hz
                go_wp2_with fail
                refine (stSpec.take_on HI0.out z1 z2).mono ?_
                rintro e w5 ⟨rfl, h5, _⟩
                go_wp2_with fail
                refine (stSpec.leave_on h5 z3 z4).mono ?_
                rintro e w6 ⟨rfl, h6, _⟩
                have H6 : Hid (StOn StAt w w6 k F ⟨2, [(n : Int) - ((cm + i : Nat) : Int)]⟩) := Lib.hid (by rw [show (n : Int) - ((cm + i : Nat) : Int) = (n : Int) - (cm : Int) - (q : Int) by omega]; exact h6)
                clear h5 h6 HI HI0 z1 z2 z3 z4
                go_wp2
                go_roundg (a1.length - (j + 1))
                case measure => omega
                case rel => exact ⟨j + 1, cm + i, by simp <;> omega, by simp, by omega, by omega, by omega, H6⟩
      · have hlt2 : ¬ (j : Int) < (a1.length : Int) := by omega
        go_wp2_with fail
        refine (stSpec.left_on HS.out (d := (n : Int) - (cm : Int)) rfl).mono ?_
        rintro e w4 ⟨rfl, h4, _⟩
        go_wp2_with fail
        refine (stSpec.depth_on h4 (d := 1) rfl).mono ?_
        rintro e w5 ⟨rfl, h5, _⟩
        go_wp2_with fail
        refine (stSpec.leave_on h5 (sum_leave 2 _ []) rfl).mono ?_
        rintro e w6 ⟨rfl, h6, _⟩
        have hB := h6.bel
        have hcmn : (cm : Int) ≤ (n : Int) := by omega
        have hbq : (decide ((n : Int) - (cm : Int) = 0) != ((cm : Int) == (n : Int))) = false := by
          by_cases hq : cm = n
          · subst hq; simp
          · have h1 : ¬ (n : Int) - (cm : Int) = 0 := by omega
            have h2 : ¬ (cm : Int) = (n : Int) := by omega
            simp [h1]; omega
        have hbq2 : (!(decide ((n : Int) - (cm : Int) = 0) == ((cm : Int) == (n : Int)))) = false := hbq
        clear h4 h5 h6 HS hbq
        go_wp2
        all_goals
          first
            | (go_ret; exact ⟨rfl, hB⟩)
            | (exfalso; rename_i hc; rw [hbq2] at hc; cases hc)
  · have hw : a0 < 0 ∨ (0 ≤ a0 ∧ 2000 < a0) ∨ (0 ≤ a0 ∧ a0 ≤ 2000 ∧ (300 : Int) < a1.length) := by omega
    clear hin el1 ca1
    rcases hw with h | ⟨h, h2⟩ | ⟨h, h2, h3⟩
    all_goals
      go_enter Try.func4, Try.ntmps4
      go_wp2_with fail
      refine (stSpec.new_on 2 (by unfold InI; decide) (Below.refl w.heap.size w)).mono ?_
      rintro e w1 ⟨k, F, rfl, h1, _, _⟩
      have H1 := Lib.hid (show StOn StAt w w1 k F ⟨2, []⟩ from h1)
      clear h1
      go_wp2_with fail
      refine (awake08_any _).mono ?_
      rintro e w2 ⟨rfl, hb⟩
      have H2 := Lib.hid (H1.out.step stSpec hb)
      clear hb H1
      go_wp2_with fail
      refine (awake08_any _).mono ?_
      rintro e w3 ⟨rfl, hb⟩
      have H3 := Lib.hid (H2.out.step stSpec hb)
      go_wp2
      go_returns
      exact ⟨rfl, H3.out.bel⟩


/-! ### StackSums: the step from the walk to the statement -/
namespace stackSums
theorem own : ownKnob Try.prog.godebug = none := by kernel_rfl
theorem laidOut : laidOutB Try.prog = true := by kernel_rfl
set_option maxRecDepth 100000 in
theorem lifted (os : Os) (started : os.Started) (H : Type) (enc : TypeId × Value → H) :
    ReturnsInHanded {} Try.checked os 4 .any (Rows.stackSumsSpec.pre6 enc Try.prog Try.f4 Rows.stackSumsRow.domain false) (Rows.stackSumsSpec.post enc Try.prog Try.f4 false true false false) := by
  refine returnsInHanded_of_change (C := Try.checked) own started (by kernel_rfl) Try.func4
    (ChangeSpec.witness6 (enc := enc) (C := Try.checked) false ⟨#[], #[.int .i64 0, .slice none 0 0], []⟩ 8 (by kernel_rfl) (by kernel_rfl) (by kernel_rfl) (by kernel_rfl)) ?_
  intro W base args ds gs before hval0 hW hcnd _
  have hval : ∀ (j : Nat) t v, Try.f4.params[j]? = some t → args[j]? = some v → Value.okWide Try.prog W .any base t v := hval0
  have hW' := hW
  obtain ⟨p, q, hA0, hV, rfl, hfz, hnd⟩ := hW
  have hA : DataW.TrodAll enc Try.prog W 0 (fun _ => true) true Try.f4.params.toList args.toList ds p := hA0
  rw [Try.params4] at hA hval
  obtain ⟨v0, vs0, d0, ds0, p0, q0, hargs, rfl, rfl, h0, r0⟩ := trodAll_cons hA
  obtain ⟨v1, vs1, d1, ds1, p1, q1, rfl, rfl, rfl, h1, r1⟩ := trodAll_cons r0
  obtain ⟨rfl, rfl, rfl⟩ := trodAll_nil r1
  obtain rfl : args = #[v0, v1] := by cases args; simp_all
  obtain ⟨rfl, rfl⟩ := trodVars_none hV
  obtain ⟨a0, rfl, rfl, rfl, w0⟩ := open_int Try.underlying3 (hval 0 3 v0 rfl rfl) h0
  obtain ⟨o1, len1, c1, rfl⟩ := okWide_slice Try.underlying36 (hval 1 36 v1 rfl rfl)
  have k1 := h1
  have lt1 : ∀ x ∈ p1, x.block < W.heap.size := by obtain ⟨m, hm⟩ := k1; exact DataW.trod_lt m _ _ _ hm
  obtain ⟨a1, rfl, lc1, cm1, ca1, el1⟩ := (came_ints Try.underlying36 Try.underlying3 (by kernel_rfl) h1)
  clear hA0 hval0
  refine (walkStackSums a0 o1 c1 a1 (bounds_i64 w0) lc1 cm1 el1 W ca1).mono fun e W' ⟨he, bel⟩ => ?_
  subst he
  exact ⟨_, rfl, _, _, _, [], _, [], hW', trodAll_mk1 (shut_bool Try.underlying4 _), (trodAll_cons_mk (shut_int Try.underlying3 w0) (trodAll_cons_mk (Below.trod laidOut (by kernel_rfl) (of_decide_eq_true (by kernel_rfl)) k1 bel lt1) trodAll_mk0)), rfl, bel.frame _, fun h => by cases h⟩
theorem over : Rows.stackSumsRow.holds Try.pinned (OpenSpec.ofChange Rows.stackSumsSpec) :=
  OpenClaim.holds_of_wide 4 Try.f4 rfl rfl rfl rfl rfl rfl rfl ⟨rfl, rfl, rfl, rfl, rfl⟩ rfl rfl rfl rfl rfl (by kernel_rfl) Try.func4 (by kernel_rfl)
    (of_decide_eq_true (by kernel_rfl)) (by unfold Func.isWrapper; first | (rw [if_pos (by decide +kernel)]; kernel_rfl) | (rw [if_neg (by decide +kernel)]; exact ⟨rfl, rfl⟩))
    (fun os started H enc _ => lifted os started H enc)
/-- THE STATEMENT. -/
theorem proved : Rows.StackSumsSaid := over
end stackSums
end Go.Proofs.Ytlfmcgkkfbhifaa
