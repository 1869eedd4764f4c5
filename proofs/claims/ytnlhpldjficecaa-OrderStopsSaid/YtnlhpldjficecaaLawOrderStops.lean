/- Of every list of elements and number (of more than 100 elements, or of more than 300 bytes, the law asks only for the fixed answers): the first element that comes ahead of the one before it is told at its end, and one that is too long at its first byte too many. No condition but the form of the row. -/
import Derived.Test.YtnlhpldjficecaaOrdAwake
import Derived.Test.YtnlhpldjficecaaRefOrd2
import Derived.Test.YtnlhpldjficecaaRows
import Derived.WalkKit
import Derived.ProofKit
import Derived.OpenShut
import Derived.ShutString
import Derived.ChangeOld
import Derived.Below
import Derived.Carry
namespace Go.Proofs.Ytnlhpldjficecaa
open Go.ChangeShapes Go.WideShapes Go.ChangeAt Go.RowKit
open Go.ChangeMaps (open_string shut_string)
set_option linter.unusedVariables false
open Go.PlainAid in
set_option maxRecDepth 100000 in
set_option maxHeartbeats 8000000 in
theorem walkOrderStops (o0 : Option Addr) (c0 : Nat) (a0 : List ByteArray) (a1 : Int) (lc0 : a0.length ≤ c0) (cm0 : c0 ≤ maxLen) (el0 : ∀ x ∈ a0, x.size ≤ maxLen) (b1 : -9223372036854775808 ≤ a1 ∧ a1 ≤ 9223372036854775807) (w : World) (ca0 : Came w o0 (svs a0)) :
    Calls Try.prog 6 #[.slice o0 a0.length c0, .int .i64 a1] w fun e w' => e = .returned (.bool true) ∧ Below w.heap.size w w' := by
  have HG := Lib.hid (fun W (h : Came W o0 (svs a0)) => refGreat_any o0 c0 a0 lc0 cm0 W h el0)
  have HCa := Lib.hid ca0
  clear ca0
  by_cases hg : grL a0 = true
  · rw [hg] at HG
    clear el0 hg
    go_enter Try.func6, Try.ntmps6
    go_wp2_with fail
    refine (awake16_any _).mono ?_
    rintro e w1 ⟨rfl, hB1⟩
    have HC1 := Lib.hid (HCa.out.below hB1)
    have HB1 := Lib.hid hB1
    go_wp2_with fail
    refine (HG.out _ HC1.out).mono ?_
    rintro e w2 ⟨rfl, rfl⟩
    go_wp2_with fail
    refine (awake16_any _).mono ?_
    rintro e w3 ⟨rfl, hb⟩
    have hB3 := HB1.out.trans (hb.mono hB1.size)
    clear hb hB1 HC1 HB1
    go_wp2
    go_returns
    exact ⟨rfl, hB3⟩
  · have hgf : grL a0 = false := by simpa using hg
    obtain ⟨hl100, hl300⟩ := grL_false hgf
    rw [hgf] at HG
    have HL3 : Hid (∀ x ∈ a0, x.size ≤ 300) := Lib.hid hl300
    have hn9 : (a0.length : Int) ≤ 9223372036854775807 := by omega
    clear el0 hg hgf hl300
    by_cases hm : a1 < 0
    · go_enter Try.func6, Try.ntmps6
      go_wp2_with fail
      refine (awake16_any _).mono ?_
      rintro e w1 ⟨rfl, hB1⟩
      have HC1 := Lib.hid (HCa.out.below hB1)
      have HB1 := Lib.hid hB1
      go_wp2_with fail
      refine (HG.out _ HC1.out).mono ?_
      rintro e w2 ⟨rfl, rfl⟩
      go_wp2_with fail
      refine (awake16_any _).mono ?_
      rintro e w3 ⟨rfl, hb⟩
      have hB3 := HB1.out.trans (hb.mono hB1.size)
      clear hb hB1 HC1 HB1
      go_wp2
      go_returns
      exact ⟨rfl, hB3⟩
    · by_cases hm3 : 300 < a1
      · go_enter Try.func6, Try.ntmps6
        go_wp2_with fail
        refine (awake16_any _).mono ?_
        rintro e w1 ⟨rfl, hB1⟩
        have HC1 := Lib.hid (HCa.out.below hB1)
        have HB1 := Lib.hid hB1
        go_wp2_with fail
        refine (HG.out _ HC1.out).mono ?_
        rintro e w2 ⟨rfl, rfl⟩
        go_wp2_with fail
        refine (awake16_any _).mono ?_
        rintro e w3 ⟨rfl, hb⟩
        have hB3 := HB1.out.trans (hb.mono hB1.size)
        clear hb hB1 HC1 HB1
        go_wp2
        go_returns
        exact ⟨rfl, hB3⟩
      · obtain ⟨M, hM⟩ : ∃ M : Nat, a1 = (M : Int) := ⟨a1.toNat, by omega⟩
        subst hM
        have hM3 : M ≤ 300 := by omega
        have e0 : OM.new (M : Int) = ⟨M, ahd a0 0, [], 0, 0⟩ := by
          unfold OM.new
          rw [show (min (max (M : Int) 0) 65536).toNat = M by omega]
          rfl
        go_enter Try.func6, Try.ntmps6
        go_wp2_with fail
        refine (awake16_any _).mono ?_
        rintro e w1 ⟨rfl, hB1⟩
        have HC1 := Lib.hid (HCa.out.below hB1)
        have HB1 := Lib.hid hB1
        go_wp2_with fail
        refine (HG.out _ HC1.out).mono ?_
        rintro e w2 ⟨rfl, rfl⟩
        have HB2 := Lib.hid hB1
        have hw2 := hB1.size
        clear hB1 HG
        go_wp2_with fail
        refine (soSpec.new_on (M : Int) b1 (Below.refl w2.heap.size w2)).mono ?_
        rintro e w9 ⟨k, F, rfl, h9, _, _⟩
        rw [e0] at h9
        have HO9 := Lib.hid h9
        clear h9 e0
        go_wp2_with fail
        go_loopg [6, 31] a0.length (fun gk ov iv wr => ∃ (i n : Nat) (F : Nat → Prop) (prev last : List Int) (e : Int), ov = .int .i64 e ∧ iv = .int .i64 (i : Int) ∧ i ≤ a0.length ∧ a0.length - i ≤ gk ∧ n ≤ i ∧ (e = 0 ∨ e = 9 ∨ e = 11) ∧ Hid (e = 0 → prev = ahd a0 i ∧ last = []) ∧ Hid (SOn SoAt w2 wr k F ⟨M, prev, last, n, e⟩))
        case atStart => exact ⟨0, 0, F, ahd a0 0, [], 0, rfl, rfl, by omega, by omega, by omega, .inl rfl, Lib.hid (fun _ => ⟨rfl, rfl⟩), HO9⟩
        case round =>
          clear HO9
          obtain ⟨i, n, F, prev, last, e, rfl, rfl, hi, hgk, hni, he, HE, HO⟩ := hrel
          by_cases hlt : i < a0.length
          · have hlt2 : (i : Int) < (a0.length : Int) := by omega
            obtain ⟨ad, rfl, hx⟩ := came_str (HC1.out.below HO.out.bel) hlt
            have hxs : a0[i].size ≤ 300 := HL3.out _ (List.getElem_mem hlt)
            have hci : i < c0 := by omega
            have HNx : Hid (ahd a0 (i + 1) = bl a0[i]) := Lib.hid (ahd_succ hlt)
            have hxi : a0[i] = a0[i] := rfl
            have HXi : Hid (∃ x, a0[i] = x) := Lib.hid ⟨_, rfl⟩
            obtain ⟨x, hxx⟩ := HXi.out
            rw [hxx] at hx hxs HNx
            have HXX := Lib.hid hxx
            clear hxi HXi hxx
            have hx9 : (x.size : Int) ≤ 9223372036854775807 := by omega
            obtain ⟨W1, rfl⟩ : ∃ W1, W1 = wr := ⟨_, rfl⟩
            go_wp2_with fail
            go_loopg [6, 38] x.size (fun gk2 ov jv wr2 => ∃ (j : Nat) (F : Nat → Prop) (prev last : List Int) (e : Int), ov = .int .i64 e ∧ jv = .int .i64 (j : Int) ∧ j ≤ x.size ∧ x.size - j ≤ gk2 ∧ (e = 0 ∨ e = 9 ∨ e = 11) ∧ Hid (e = 0 → prev = ahd a0 i ∧ last = (bl x).take j ∧ j ≤ M) ∧ Hid (SOn SoAt w2 wr2 k F ⟨M, prev, last, n, e⟩))
            case atStart => exact ⟨0, F, prev, last, e, rfl, rfl, by omega, by omega, he, Lib.hid (fun h => ⟨(HE.out h).1, by rw [(HE.out h).2, List.take_zero], Nat.zero_le _⟩), HO⟩
            case round =>
              clear HO HE he
              obtain ⟨j, F, prev, last, e, rfl, rfl, hj, hgk2, he, HE, HO⟩ := hrel
              by_cases hlj : j < x.size
              · have hlj2 : (j : Int) < (x.size : Int) := by omega
                have gj := get_bt x j hlj
                have b0' := bt_nonneg x j
                have b1' := bt_le x j
                have HBA : Hid ((bl x)[j]? = some (bt x j)) := Lib.hid (bl_at x j hlj)
                generalize bt x j = b at *
                by_cases he0 : e = 0
                · subst he0
                  obtain ⟨hE1, hE2, hE3⟩ := HE.out rfl
                  have HE1 := Lib.hid hE1
                  have HE2 := Lib.hid hE2
                  clear hE1 hE2
                  by_cases hjM : j = M
                  · have hjm : ((j : Int) == (M : Int)) = true := by simp; omega
                    have HP : Hid ((OM.mk M prev last n 0).push b = ⟨M, prev, last, n, 11⟩) := Lib.hid (OM.push_over b rfl (by show M < last.length + 1; rw [HE2.out, List.length_take, bl_length]; omega))
                    clear hjM
                    go_wp2_with fail
                    refine (soSpec.push_on HO.out b ⟨b0', b1'⟩ (by show n ≤ 1000000; omega) HP.out).mono ?_
                    rintro r w11 ⟨F', rfl, h11, _, _⟩
                    have HO2 := Lib.hid h11
                    clear h11 HO HP
                    go_wp2_with fail
                    go_roundg (x.size - (j + 1))
                    case measure => omega
                    case rel => exact ⟨j + 1, F', prev, last, 11, rfl, by simp, by omega, by omega, .inr (.inr rfl), Lib.hid (fun h => by cases h), HO2⟩
                  · have hjm : ((j : Int) == (M : Int)) = false := by simp; omega
                    have HP : Hid ((OM.mk M prev last n 0).push b = ⟨M, prev, (bl x).take (j + 1), n, 0⟩) := Lib.hid (by
                      rw [OM.push_on b rfl (by show ¬ M < last.length + 1; rw [HE2.out, List.length_take, bl_length]; omega)]
                      show OM.mk M prev (last ++ [b]) n 0 = _
                      rw [HE2.out, List.take_add_one, HBA.out]; rfl)
                    have hjM2 : j + 1 ≤ M := by omega
                    clear hjM
                    go_wp2_with fail
                    refine (soSpec.push_on HO.out b ⟨b0', b1'⟩ (by show n ≤ 1000000; omega) HP.out).mono ?_
                    rintro r w11 ⟨F', rfl, h11, _, _⟩
                    have HO2 := Lib.hid h11
                    clear h11 HO HP
                    go_wp2_with fail
                    go_roundg (x.size - (j + 1))
                    case measure => omega
                    case rel => exact ⟨j + 1, F', prev, _, 0, rfl, by simp, by omega, by omega, .inl rfl, Lib.hid (fun _ => ⟨HE1.out, rfl, hjM2⟩), HO2⟩
                · have heb : (e == 0) = false := by simpa using he0
                  have HP : Hid ((OM.mk M prev last n e).push b = ⟨M, prev, last, n, e⟩) := Lib.hid (OM.push_err b he0)
                  go_wp2_with fail
                  refine (soSpec.push_on HO.out b ⟨b0', b1'⟩ (by show n ≤ 1000000; omega) HP.out).mono ?_
                  rintro r w11 ⟨F', rfl, h11, _, _⟩
                  have HO2 := Lib.hid h11
                  have hee : (e != e) = false := by simp
                  clear h11 HO HP
                  go_wp2_with fail
                  go_roundg (x.size - (j + 1))
                  case measure => omega
                  case rel => exact ⟨j + 1, F', prev, last, e, rfl, by simp, by omega, by omega, he, Lib.hid (fun h => absurd h he0), HO2⟩
              · have hlj2 : ¬ (j : Int) < (x.size : Int) := by omega
                have HTk : Hid ((bl x).take j = bl x) := Lib.hid (List.take_of_length_le (by rw [bl_length]; omega))
                by_cases he0 : e = 0
                · subst he0
                  obtain ⟨hE1, hE2, hE3⟩ := HE.out rfl
                  have HE1 := Lib.hid hE1
                  have HE2 : Hid (last = bl x) := Lib.hid (by rw [hE2, HTk.out])
                  clear hE1 hE2 HE HTk
                  cases i with
                  | zero =>
                    have HP : Hid ((OM.mk M prev last n 0).fin = ⟨M, bl x, [], n + 1, 0⟩) := Lib.hid (by
                      rw [OM.fin_on rfl (by show ¬ 0 < cmpL prev last; rw [HE1.out, HE2.out]; exact cmpL_none_ahead (bl_isB x))]
                      show OM.mk M last [] (n + 1) 0 = _
                      rw [HE2.out])
                    go_wp2_with fail
                    refine (soSpec.fin_on HO.out (by show n ≤ 1000000; omega) HP.out).mono ?_
                    rintro r w12 ⟨F', rfl, h12, _, _⟩
                    have HO4 := Lib.hid h12
                    clear h12 HO HP
                    go_wp2_with fail
                    go_roundg (a0.length - (0 + 1))
                    case measure => omega
                    case rel => exact ⟨0 + 1, n + 1, F', bl x, [], 0, rfl, by simp, by omega, by omega, by omega, .inl rfl, Lib.hid (fun _ => ⟨HNx.out.symm, rfl⟩), HO4⟩
                  | succ i =>
                    have hlt' : i < a0.length := by omega
                    obtain ⟨ad', had, hy⟩ := came_str (HC1.out.below HO.out.bel) hlt'
                    injection had with had
                    subst had
                    have HYe : Hid (ahd a0 (i + 1) = bl a0[i]) := Lib.hid (ahd_succ hlt')
                    have hys : a0[i].size ≤ 300 := HL3.out _ (List.getElem_mem hlt')
                    generalize a0[i] = y at *
                    have HQ : Hid (∀ W, Calls Try.prog 10 #[.string y, .string x] W fun e w' => e = .returned (.int .i64 (cmpL (bl y) (bl x))) ∧ w' = W) := Lib.hid (fun W => refCompare_any y x (by omega) (by omega) W)
                    have hi0 : (0 : Int) < (i : Int) + 1 := by omega
                    have hi1 : (i : Int) + 1 - 1 = (i : Int) := by omega
                    have hic : i < c0 := by omega
                    by_cases hq : 0 < cmpL (bl y) (bl x)
                    · have HP : Hid ((OM.mk M prev last n 0).fin = ⟨M, prev, last, n, 9⟩) := Lib.hid (OM.fin_over rfl (by show 0 < cmpL prev last; rw [HE1.out, HE2.out, HYe.out]; exact hq))
                      have hd : decide (0 < cmpL (bl y) (bl x)) = true := decide_eq_true hq
                      generalize cmpL (bl y) (bl x) = R at *
                      go_wp2_with fail
                      refine (HQ.out _).mono ?_
                      rintro e w13 ⟨rfl, rfl⟩
                      go_wp2_with fail
                      refine (soSpec.fin_on HO.out (by show n ≤ 1000000; omega) HP.out).mono ?_
                      rintro r w12 ⟨F', rfl, h12, _, _⟩
                      have HO4 := Lib.hid h12
                      clear h12 HO HP
                      go_wp2_with fail
                      go_roundg (a0.length - (i + 1 + 1))
                      case measure => omega
                      case rel => exact ⟨i + 1 + 1, n, F', prev, last, 9, rfl, by simp, by omega, by omega, by omega, .inr (.inl rfl), Lib.hid (fun h => by cases h), HO4⟩
                    · have HP : Hid ((OM.mk M prev last n 0).fin = ⟨M, bl x, [], n + 1, 0⟩) := Lib.hid (by
                        rw [OM.fin_on rfl (by show ¬ 0 < cmpL prev last; rw [HE1.out, HE2.out, HYe.out]; exact hq)]
                        show OM.mk M last [] (n + 1) 0 = _
                        rw [HE2.out])
                      have hd : decide (0 < cmpL (bl y) (bl x)) = false := decide_eq_false hq
                      generalize cmpL (bl y) (bl x) = R at *
                      go_wp2_with fail
                      refine (HQ.out _).mono ?_
                      rintro e w13 ⟨rfl, rfl⟩
                      go_wp2_with fail
                      refine (soSpec.fin_on HO.out (by show n ≤ 1000000; omega) HP.out).mono ?_
                      rintro r w12 ⟨F', rfl, h12, _, _⟩
                      have HO4 := Lib.hid h12
                      clear h12 HO HP
                      go_wp2_with fail
                      go_roundg (a0.length - (i + 1 + 1))
                      case measure => omega
                      case rel => exact ⟨i + 1 + 1, n + 1, F', bl x, [], 0, rfl, by simp, by omega, by omega, by omega, .inl rfl, Lib.hid (fun _ => ⟨HNx.out.symm, rfl⟩), HO4⟩
                · have heb : (e == 0) = false := by simpa using he0
                  have HP : Hid ((OM.mk M prev last n e).fin = ⟨M, prev, last, n, e⟩) := Lib.hid (OM.fin_err he0)
                  go_wp2_with fail
                  refine (soSpec.fin_on HO.out (by show n ≤ 1000000; omega) HP.out).mono ?_
                  rintro r w12 ⟨F', rfl, h12, _, _⟩
                  have HO4 := Lib.hid h12
                  have hee : (e != e) = false := by simp
                  clear h12 HO HP
                  go_wp2_with fail
                  go_roundg (a0.length - (i + 1))
                  case measure => omega
                  case rel => exact ⟨i + 1, n, F', prev, last, e, rfl, by simp, by omega, by omega, by omega, he, Lib.hid (fun h => absurd h he0), HO4⟩
          · have hlt2 : ¬ (i : Int) < (a0.length : Int) := by omega
            have hB := HB2.out.trans (HO.out.bel.mono hw2)
            clear HO HB2 HC1 HCa
            go_wp2
            go_returns
            exact ⟨rfl, hB⟩


/-! ### OrderStops: the step from the walk to the statement -/
namespace orderStops
theorem own : ownKnob Try.prog.godebug = none := by kernel_rfl
theorem laidOut : laidOutB Try.prog = true := by kernel_rfl
set_option maxRecDepth 100000 in
theorem lifted (os : Os) (started : os.Started) (H : Type) (enc : TypeId × Value → H) :
    ReturnsInHanded {} Try.checked os 6 .any (Rows.orderStopsSpec.pre6 enc Try.prog Try.f6 Rows.orderStopsRow.domain false) (Rows.orderStopsSpec.post enc Try.prog Try.f6 false true false false) := by
  refine returnsInHanded_of_change (C := Try.checked) own started (by kernel_rfl) Try.func6
    (ChangeSpec.witness6 (enc := enc) (C := Try.checked) false ⟨#[], #[.slice none 0 0, .int .i64 0], []⟩ 8 (by kernel_rfl) (by kernel_rfl) (by kernel_rfl) (by kernel_rfl)) ?_
  intro W base args ds gs before hval0 hW hcnd _
  have hval : ∀ (j : Nat) t v, Try.f6.params[j]? = some t → args[j]? = some v → Value.okWide Try.prog W .any base t v := hval0
  have hW' := hW
  obtain ⟨p, q, hA0, hV, rfl, hfz, hnd⟩ := hW
  have hA : DataW.TrodAll enc Try.prog W 0 (fun _ => true) true Try.f6.params.toList args.toList ds p := hA0
  rw [Try.params6] at hA hval
  obtain ⟨v0, vs0, d0, ds0, p0, q0, hargs, rfl, rfl, h0, r0⟩ := trodAll_cons hA
  obtain ⟨v1, vs1, d1, ds1, p1, q1, rfl, rfl, rfl, h1, r1⟩ := trodAll_cons r0
  obtain ⟨rfl, rfl, rfl⟩ := trodAll_nil r1
  obtain rfl : args = #[v0, v1] := by cases args; simp_all
  obtain ⟨rfl, rfl⟩ := trodVars_none hV
  obtain ⟨o0, len0, c0, rfl⟩ := okWide_slice Try.underlying38 (hval 0 38 v0 rfl rfl)
  have k0 := h0
  have lt0 : ∀ x ∈ p0, x.block < W.heap.size := by obtain ⟨m, hm⟩ := k0; exact DataW.trod_lt m _ _ _ hm
  obtain ⟨a0, rfl, lc0, cm0, ca0, el0⟩ := (came_strs Try.underlying38 Try.underlying9 (by kernel_rfl) h0)
  obtain ⟨a1, rfl, rfl, rfl, w1⟩ := open_int Try.underlying3 (hval 1 3 v1 rfl rfl) h1
  clear hA0 hval0
  refine (walkOrderStops o0 c0 a0 a1 lc0 cm0 el0 (bounds_i64 w1) W ca0).mono fun e W' ⟨he, bel⟩ => ?_
  subst he
  exact ⟨_, rfl, _, _, _, [], _, [], hW', trodAll_mk1 (shut_bool Try.underlying4 _), (trodAll_cons_mk (Below.trod laidOut (by kernel_rfl) (of_decide_eq_true (by kernel_rfl)) k0 bel lt0) (trodAll_cons_mk (shut_int Try.underlying3 w1) trodAll_mk0)), rfl, bel.frame _, fun h => by cases h⟩
theorem over : Rows.orderStopsRow.holds Try.pinned (OpenSpec.ofChange Rows.orderStopsSpec) :=
  OpenClaim.holds_of_wide 6 Try.f6 rfl rfl rfl rfl rfl rfl rfl ⟨rfl, rfl, rfl, rfl, rfl⟩ rfl rfl rfl rfl rfl (by kernel_rfl) Try.func6 (by kernel_rfl)
    (of_decide_eq_true (by kernel_rfl)) (by unfold Func.isWrapper; first | (rw [if_pos (by decide +kernel)]; kernel_rfl) | (rw [if_neg (by decide +kernel)]; exact ⟨rfl, rfl⟩))
    (fun os started H enc _ => lifted os started H enc)
/-- THE STATEMENT. -/
theorem proved : Rows.OrderStopsSaid := over
end orderStops
end Go.Proofs.Ytnlhpldjficecaa
