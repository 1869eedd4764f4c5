/- Of every list of elements (of more than 100 elements, or of more than 300 bytes, the law asks only for the fixed answers): Sort gives the elements as the reference does, leaves those handed in as they are, and pushed so they are in order. No condition but the form of the row. -/
import Derived.Test.YtnlhpldjficecaaOrdAwake
import Derived.Test.YtnlhpldjficecaaOrdSortAsc
import Derived.Test.YtnlhpldjficecaaRows
import Derived.WalkKit
import Derived.ProofKit
import Derived.OpenShut
import Derived.ShutString
import Derived.ChangeOld
import Derived.Below
import Derived.Carry
namespace Go.Proofs.Ytnlhpldjficecaa
open Go.ChangeShapes Go.WideShapes Go.ChangeAt Go.RowKit
open Go.ChangeMaps (open_string shut_string)
set_option linter.unusedVariables false
open Go.PlainAid in
set_option maxRecDepth 100000 in
set_option maxHeartbeats 8000000 in
theorem walkOrderSorts (o0 : Option Addr) (c0 : Nat) (a0 : List ByteArray) (lc0 : a0.length ≤ c0) (cm0 : c0 ≤ maxLen) (el0 : ∀ x ∈ a0, x.size ≤ maxLen) (w : World) (ca0 : Came w o0 (svs a0)) :
    Calls Try.prog 5 #[.slice o0 a0.length c0] w fun e w' => e = .returned (.bool true) ∧ Below w.heap.size w w' := by
  by_cases hg : grL a0 = true
  · have HG := Lib.hid (fun W (h : Came W o0 (svs a0)) => refGreat_any o0 c0 a0 lc0 cm0 W h el0)
    rw [hg] at HG
    have HCa := Lib.hid ca0
    clear ca0 el0
    go_enter Try.func5, Try.ntmps5
    go_wp2_with fail
    refine (awake16_any _).mono ?_
    rintro e w1 ⟨rfl, hB1⟩
    have HC1 := Lib.hid (HCa.out.below hB1)
    go_wp2_with fail
    refine (HG.out _ HC1.out).mono ?_
    rintro e w2 ⟨rfl, rfl⟩
    go_wp2_with fail
    refine (awake16_any _).mono ?_
    rintro e w3 ⟨rfl, hb⟩
    have hB3 := hB1.trans (hb.mono hB1.size)
    clear hb hB1 HC1
    go_wp2
    go_returns
    exact ⟨rfl, hB3⟩
  · have hgf : grL a0 = false := by simpa using hg
    obtain ⟨hl100, hl300⟩ := grL_false hgf
    have HG := Lib.hid (fun W (h : Came W o0 (svs a0)) => refGreat_any o0 c0 a0 lc0 cm0 W h el0)
    rw [hgf] at HG
    have HCa := Lib.hid ca0
    have hn9 : (a0.length : Int) ≤ 9223372036854775807 := by omega
    have HL3 : Hid (∀ x ∈ a0, x.size ≤ 300) := Lib.hid hl300
    have hl9 : ([] : List ByteArray).length + a0.length ≤ 1000000000000 := by rw [List.length_nil]; omega
    clear ca0 el0 hg hgf hl300
    go_enter Try.func5, Try.ntmps5
    go_wp2_with fail
    refine (awake16_any _).mono ?_
    rintro e w1 ⟨rfl, hB1⟩
    have HC1 := Lib.hid (HCa.out.below hB1)
    have HB1 := Lib.hid hB1
    go_wp2_with fail
    refine (HG.out _ HC1.out).mono ?_
    rintro e w2 ⟨rfl, rfl⟩
    have HEm : Hid (Sl (w2.alloc (.cells #[] 9)) 9 (.slice (some ⟨w2.heap.size, 0, none⟩) 0 0) (svs []) w2.heap.size) := Lib.hid (sl_new_strs w2 [] (Nat.zero_le _))
    have HC2 : Hid (Came (w2.alloc (.cells #[] 9)) o0 (svs a0)) := Lib.hid (HC1.out.alloc _)
    have hw1 := hB1.size
    clear hB1 HG
    go_wp2_with (at_builtin; refine wpList_append_strs rfl (.tmp 16) (.tmp 17) rfl (l := []) (g := w2.heap.size) rfl HEm.out o0 a0.length c0 a0 rfl rfl HC2.out hl9 ?_)
    intro v3 w3 g3 hs3 hg3 hgr3
    have hs3 : Sl w3 9 v3 (svs a0) g3 := hs3
    obtain ⟨c3, rfl, hc3, hcm3⟩ := hs3.open (n := a0.length) (svs_length a0)
    have hb3 : Below w2.heap.size w2 w3 := Below.grown ((Below.refl _ _).alloc (Nat.le_refl _) _) hgr3 (by simp) (by intro q hq; injection hq with hq; omega)
    have HB3 := Lib.hid (HB1.out.trans (hb3.mono hw1))
    have HC3 := Lib.hid (HC1.out.below hb3)
    have HO3 := Lib.hid (Came.sl hs3)
    have hw3 : w.heap.size ≤ w3.heap.size := Nat.le_trans hw1 hb3.size
    clear hs3 hg3 hgr3 hb3 HEm HC2 HC1 HB1 hw1
    have hl1k : ∀ x ∈ a0, x.size ≤ 1000 := fun x hx => by have := HL3.out x hx; omega
    have HL1k := Lib.hid hl1k
    go_wp2_with fail
    refine (ordSort_any ⟨g3, 0, none⟩ c3 a0 hc3 hcm3 (by omega) hl1k w3 HO3.out).mono ?_
    rintro e w4 ⟨g4, c4, rfl, hc4, hcm4, hC4, hb4⟩
    have HB4 := Lib.hid (HB3.out.trans (hb4.mono hw3))
    have HC4 := Lib.hid (HC3.out.below (hb4.mono (Nat.le_refl _)))
    have HO4 := Lib.hid (HO3.out.below hb4)
    have HG4 := Lib.hid hC4
    have hw4 : w.heap.size ≤ w4.heap.size := Nat.le_trans hw3 hb4.size
    clear hC4 hb4 HB3 HC3 HO3 hw3 hl1k
    go_wp2_with fail
    refine (refSortS_any o0 c0 a0 lc0 cm0 (by omega) w4 HC4.out (fun x hx => by have := HL3.out x hx; omega)).mono ?_
    rintro e w5 ⟨v5, g5, rfl, hs5, hg5, hb5⟩
    obtain ⟨S, hS⟩ : ∃ S, sortS a0 = S := ⟨_, rfl⟩
    have hSl : S.length = a0.length := by rw [← hS, sortS_len]
    have HSm : Hid (∀ x ∈ S, x.size ≤ 300) := Lib.hid (fun x hx => HL3.out x ((sortS_mem a0 x).1 (by rw [hS]; exact hx)))
    have HSa : Hid (∀ i (hi : i + 1 < S.length), cmpL (bl S[i]) (bl S[i + 1]) ≤ 0) := Lib.hid (by subst hS; exact fun i hi => sorted_asc HL1k.out i hi)
    rw [hS] at hs5 HG4
    obtain ⟨c5, rfl, hc5, hcm5⟩ := hs5.open (n := a0.length) (by rw [svs_length]; exact hSl)
    have HS5 := Lib.hid (Came.sl hs5)
    have HB5 := Lib.hid (HB4.out.trans (hb5.mono hw4))
    have HC5 := Lib.hid (HC4.out.below (hb5.mono (Nat.le_refl _)))
    have HO5 := Lib.hid (HO4.out.below (hb5.mono (Nat.le_refl _)))
    have HG5 := Lib.hid (HG4.out.below (hb5.mono (Nat.le_refl _)))
    have hw5 : w.heap.size ≤ w5.heap.size := Nat.le_trans hw4 hb5.size
    clear hs5 hb5 HB4 HC4 HO4 HG4 hw4 hS HL1k hg5
    have HA1 : Hid (Calls Try.prog 20 #[.slice (some ⟨g4, 0, none⟩) a0.length c4, .slice (some ⟨g5, 0, none⟩) a0.length c5] w5 fun e w' => e = .returned (.bool true) ∧ ∃ n, w' = w5.drewN n) := Lib.hid (by
      have := refSameS_any (some ⟨g4, 0, none⟩) (some ⟨g5, 0, none⟩) c4 c5 S (by omega) hcm4 (by omega) hcm5 w5 HG5.out HS5.out
      rw [hSl] at this; exact this)
    go_wp2_with fail
    refine HA1.out.mono ?_
    rintro e w6 ⟨rfl, n6, rfl⟩
    have HA2 := Lib.hid (refSameS_any (some ⟨g3, 0, none⟩) o0 c3 c0 a0 hc3 hcm3 lc0 cm0 (w5.drewN n6) (HO5.out.below (drawn_below _ _)) (HC5.out.below (drawn_below _ _)))
    go_wp2_with fail
    refine HA2.out.mono ?_
    rintro e w7 ⟨rfl, n7, rfl⟩
    have HB7 := Lib.hid (HB5.out.trans (((drawn_below w5 n6).trans ((drawn_below (w5.drewN n6) n7).mono (Nat.le_refl _))).mono hw5))
    have HG7 : Hid (Came ((w5.drewN n6).drewN n7) (some ⟨g4, 0, none⟩) (svs S)) := Lib.hid ((HG5.out.below (drawn_below _ _)).below (drawn_below _ _))
    have hw7 : w.heap.size ≤ ((w5.drewN n6).drewN n7).heap.size := hw5
    clear HA1 HA2 HB5 HC5 HO5 HG5 HS5 HCa HL3 hw5
    generalize (w5.drewN n6).drewN n7 = w8 at *
    go_wp2_with fail
    refine (soSpec.new_on 300 (by unfold InI; decide) (Below.refl w8.heap.size w8)).mono ?_
    rintro e w9 ⟨k, F, rfl, h9, _, _⟩
    have e0 : OM.new 300 = ⟨300, ahd S 0, [], 0, 0⟩ := rfl
    rw [e0] at h9
    have HO9 := Lib.hid h9
    clear h9 e0
    go_wp2_with fail
    go_loopg [37] a0.length (fun gk iv wr => ∃ (i : Nat) (F : Nat → Prop), iv = .int .i64 (i : Int) ∧ i ≤ a0.length ∧ a0.length - i ≤ gk ∧ Hid (SOn SoAt w8 wr k F ⟨300, ahd S i, [], i, 0⟩))
    case atStart => exact ⟨0, F, rfl, by omega, by omega, HO9⟩
    case round =>
      clear HO9
      obtain ⟨i, F, rfl, hi, hgk, HO⟩ := hrel
      by_cases hlt : i < a0.length
      · have hlt2 : (i : Int) < (a0.length : Int) := by omega
        have hlS : i < S.length := by omega
        obtain ⟨ad, had, hx⟩ := came_str (HG7.out.below HO.out.bel) hlS
        injection had with had
        subst had
        have hxs : S[i].size ≤ 300 := HSm.out _ (List.getElem_mem hlS)
        have hx4 : wr.cell? ⟨g4, i, none⟩ = some (.string S[i]) := by rw [addr_at, Nat.zero_add] at hx; exact hx
        have hci : i < c4 := by omega
        have HNo : Hid (¬ 0 < cmpL (ahd S i) (bl S[i])) := Lib.hid (by
          cases i with
          | zero => exact cmpL_none_ahead (bl_isB _)
          | succ i => rw [ahd_succ (by omega)]; have := HSa.out i hlS; omega)
        have HNx : Hid (ahd S (i + 1) = bl S[i]) := Lib.hid (ahd_succ hlS)
        clear hx
        generalize S[i] = x at *
        have hx9 : (x.size : Int) ≤ 9223372036854775807 := by omega
        obtain ⟨W1, rfl⟩ : ∃ W1, W1 = wr := ⟨_, rfl⟩
        go_wp2_with fail
        go_loopg [43] x.size (fun gk2 jv wr2 => ∃ (j : Nat) (F : Nat → Prop), jv = .int .i64 (j : Int) ∧ j ≤ x.size ∧ x.size - j ≤ gk2 ∧ Hid (SOn SoAt w8 wr2 k F ⟨300, ahd S i, (bl x).take j, i, 0⟩))
        case atStart => exact ⟨0, F, rfl, by omega, by omega, by rw [List.take_zero]; exact HO⟩
        case round =>
          clear HO
          obtain ⟨j, F, rfl, hj, hgk2, HO⟩ := hrel
          by_cases hlj : j < x.size
          · have hlj2 : (j : Int) < (x.size : Int) := by omega
            have gj := get_bt x j hlj
            have b0 := bt_nonneg x j
            have b1 := bt_le x j
            have hp : (OM.mk 300 (ahd S i) ((bl x).take j) i 0).push (bt x j) = ⟨300, ahd S i, (bl x).take (j + 1), i, 0⟩ := by
              rw [OM.push_on _ rfl (by show ¬ 300 < ((bl x).take j).length + 1; rw [List.length_take, bl_length]; omega)]
              show OM.mk 300 (ahd S i) ((bl x).take j ++ [bt x j]) i 0 = _
              rw [List.take_add_one, bl_at x j hlj]; rfl
            have HP := Lib.hid hp
            clear hp
            generalize bt x j = b at *
            go_wp2_with fail
            refine (soSpec.push_on HO.out b ⟨b0, b1⟩ (by show i ≤ 1000000; omega) HP.out).mono ?_
            rintro r w11 ⟨F', rfl, h11, _, _⟩
            have HO2 := Lib.hid h11
            clear h11 HO HP
            go_wp2_with fail
            go_roundg (x.size - (j + 1))
            case measure => omega
            case rel => exact ⟨j + 1, F', by simp, by omega, by omega, HO2⟩
          · have hlj2 : ¬ (j : Int) < (x.size : Int) := by omega
            have HO3 : Hid (SOn SoAt w8 wr k F ⟨300, ahd S i, bl x, i, 0⟩) := Lib.hid (by have := HO.out; rw [List.take_of_length_le (by rw [bl_length]; omega)] at this; exact this)
            clear HO
            have hf : (OM.mk 300 (ahd S i) (bl x) i 0).fin = ⟨300, ahd S (i + 1), [], i + 1, 0⟩ := by rw [HNx.out]; exact OM.fin_on rfl (by have := HNo.out; show ¬ 0 < cmpL (ahd S i) (bl x); omega)
            have HF := Lib.hid hf
            clear hf
            go_wp2_with fail
            refine (soSpec.fin_on HO3.out (by show i ≤ 1000000; omega) HF.out).mono ?_
            rintro r w12 ⟨F', rfl, h12, _, _⟩
            have HO4 := Lib.hid h12
            clear h12 HO3 HF
            go_wp2_with fail
            go_roundg (a0.length - (i + 1))
            case measure => omega
            case rel => exact ⟨i + 1, F', by simp, by omega, by omega, HO4⟩
      · have hlt2 : ¬ (i : Int) < (a0.length : Int) := by omega
        have hB := HB7.out.trans (HO.out.bel.mono hw7)
        clear HO HSm HSa HG7 HB7
        go_wp2
        go_returns
        exact ⟨rfl, hB⟩


/-! ### OrderSorts: the step from the walk to the statement -/
namespace orderSorts
theorem own : ownKnob Try.prog.godebug = none := by kernel_rfl
theorem laidOut : laidOutB Try.prog = true := by kernel_rfl
set_option maxRecDepth 100000 in
theorem lifted (os : Os) (started : os.Started) (H : Type) (enc : TypeId × Value → H) :
    ReturnsInHanded {} Try.checked os 5 .any (Rows.orderSortsSpec.pre6 enc Try.prog Try.f5 Rows.orderSortsRow.domain false) (Rows.orderSortsSpec.post enc Try.prog Try.f5 false true false false) := by
  refine returnsInHanded_of_change (C := Try.checked) own started (by kernel_rfl) Try.func5
    (ChangeSpec.witness6 (enc := enc) (C := Try.checked) false ⟨#[], #[.slice none 0 0], []⟩ 8 (by kernel_rfl) (by kernel_rfl) (by kernel_rfl) (by kernel_rfl)) ?_
  intro W base args ds gs before hval0 hW hcnd _
  have hval : ∀ (j : Nat) t v, Try.f5.params[j]? = some t → args[j]? = some v → Value.okWide Try.prog W .any base t v := hval0
  have hW' := hW
  obtain ⟨p, q, hA0, hV, rfl, hfz, hnd⟩ := hW
  have hA : DataW.TrodAll enc Try.prog W 0 (fun _ => true) true Try.f5.params.toList args.toList ds p := hA0
  rw [Try.params5] at hA hval
  obtain ⟨v0, vs0, d0, ds0, p0, q0, hargs, rfl, rfl, h0, r0⟩ := trodAll_cons hA
  obtain ⟨rfl, rfl, rfl⟩ := trodAll_nil r0
  obtain rfl : args = #[v0] := by cases args; simp_all
  obtain ⟨rfl, rfl⟩ := trodVars_none hV
  obtain ⟨o0, len0, c0, rfl⟩ := okWide_slice Try.underlying38 (hval 0 38 v0 rfl rfl)
  have k0 := h0
  have lt0 : ∀ x ∈ p0, x.block < W.heap.size := by obtain ⟨m, hm⟩ := k0; exact DataW.trod_lt m _ _ _ hm
  obtain ⟨a0, rfl, lc0, cm0, ca0, el0⟩ := (came_strs Try.underlying38 Try.underlying9 (by kernel_rfl) h0)
  clear hA0 hval0
  refine (walkOrderSorts o0 c0 a0 lc0 cm0 el0 W ca0).mono fun e W' ⟨he, bel⟩ => ?_
  subst he
  exact ⟨_, rfl, _, _, _, [], _, [], hW', trodAll_mk1 (shut_bool Try.underlying4 _), (trodAll_cons_mk (Below.trod laidOut (by kernel_rfl) (of_decide_eq_true (by kernel_rfl)) k0 bel lt0) trodAll_mk0), rfl, bel.frame _, fun h => by cases h⟩
theorem over : Rows.orderSortsRow.holds Try.pinned (OpenSpec.ofChange Rows.orderSortsSpec) :=
  OpenClaim.holds_of_wide 5 Try.f5 rfl rfl rfl rfl rfl rfl rfl ⟨rfl, rfl, rfl, rfl, rfl⟩ rfl rfl rfl rfl rfl (by kernel_rfl) Try.func5 (by kernel_rfl)
    (of_decide_eq_true (by kernel_rfl)) (by unfold Func.isWrapper; first | (rw [if_pos (by decide +kernel)]; kernel_rfl) | (rw [if_neg (by decide +kernel)]; exact ⟨rfl, rfl⟩))
    (fun os started H enc _ => lifted os started H enc)
/-- THE STATEMENT. -/
theorem proved : Rows.OrderSortsSaid := over
end orderSorts
end Go.Proofs.Ytnlhpldjficecaa
