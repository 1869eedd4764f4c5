/- Of every text, tag and content (of more than 100 bytes the law asks only for the fixed answers): Put's tag and content are the date's, and Get's date is the reference's, just of what is right. No condition but the form of the row, and that the library's tables read as their initialisers lay them (the card ties that to the program). -/
import Derived.Test.YthjncfpgmfbehaaDoorWhenAwake
import Derived.Test.YthjncfpgmfbehaaDoorLaid
import Derived.Test.YthjncfpgmfbehaaDoorRows
import Derived.WalkKit
import Derived.ProofKit
import Derived.OpenShut
import Derived.ShutString
import Derived.ChangeOld
import Derived.Below
namespace Go.Proofs.YthjncfpgmfbehaaDoor
open Go.ChangeShapes Go.WideShapes Go.ChangeAt Go.RowKit
open Go.ChangeMaps (open_string shut_string)
set_option linter.unusedVariables false
open Go.PlainAid in
set_option maxRecDepth 100000 in
set_option maxHeartbeats 4000000 in
theorem walkWhenPuts (a0 : ByteArray) (a1 : Int) (a2 : ByteArray) (b0 : a0.size ≤ maxLen) (b1 : -9223372036854775808 ≤ a1 ∧ a1 ≤ 9223372036854775807) (b2 : a2.size ≤ maxLen) (w : World) (hTab : Tab w) :
    Calls Tryd.prog 4 #[.string a0, .int .i64 a1, .string a2] w fun e w' => e = .returned (.bool true) ∧ Below w.heap.size w w' := by
  have hb9 : (a0.size : Int) ≤ 9223372036854775807 := by unfold maxLen at b0; omega
  have hc9 : (a2.size : Int) ≤ 9223372036854775807 := by unfold maxLen at b2; omega
  by_cases hl : (100 : Int) < (a0.size : Int)
  · go_enter Tryd.func4, Tryd.ntmps4
    go_wp2_with fail
    refine (awake13_any _ hTab).mono ?_
    rintro e w1 ⟨rfl, hB1⟩
    go_wp2_with fail
    refine (awake13_any _ (hTab.on hB1)).mono ?_
    rintro e w2 ⟨rfl, hb⟩
    have hB2 := hB1.trans (hb.mono hB1.size)
    clear hb hB1
    go_wp2
    go_returns
    exact ⟨rfl, hB2⟩
  · by_cases hm : (100 : Int) < (a2.size : Int)
    · go_enter Tryd.func4, Tryd.ntmps4
      go_wp2_with fail
      refine (awake13_any _ hTab).mono ?_
      rintro e w1 ⟨rfl, hB1⟩
      go_wp2_with fail
      refine (awake13_any _ (hTab.on hB1)).mono ?_
      rintro e w2 ⟨rfl, hb⟩
      have hB2 := hB1.trans (hb.mono hB1.size)
      clear hb hB1
      go_wp2
      go_returns
      exact ⟨rfl, hB2⟩
    · have hl2 : a0.size ≤ 1000000 := by omega
      have hm2 : a2.size ≤ 1000000 := by omega
      have HD := Lib.hid (refDate_any a0 hl2)
      have HR := Lib.hid (refRightW_any a1 a2 hm2)
      by_cases hd : dateP (bl a0)
      · have h14 : a0.size = 14 := by rw [← bl_length]; exact hd.1
        have l1 := less_1950 a0 hd
        have l2 := less_2050d a0 hd
        rw [decide_eq_true hd] at HD
        by_cases y1 : yr (bl a0) < 1950
        · have hok : wOk a0 = false := decide_eq_false (fun h => by have := h.2; omega)
          have HP := Lib.hid (whenPut_no hl2 hok)
          rw [decide_eq_true y1] at l1
          clear hd hok l2 y1
          by_cases hr : rightP a1 (bl a2)
          · obtain ⟨_, _, _, q1, q2, q3⟩ := w_got hr
            have HG := Lib.hid (whenGet_yes hm2 hr)
            have HF := Lib.hid (refFull_any a1 a2 hm2 (by omega) (fun e => by have := q3 e; omega))
            rw [decide_eq_true hr] at HR
            generalize fullS a1 a2 = f at *
            clear hr q1 q2 q3
            go_enter Tryd.func4, Tryd.ntmps4
            go_wp2_with fail
            refine (awake13_any _ hTab).mono ?_
            rintro e w1 ⟨rfl, hB1⟩
            go_wp2_with fail
            refine (HP.out _ (hTab.on hB1)).mono ?_
            rintro e w2 ⟨rfl, hb⟩
            have hB2 := hB1.trans (hb.mono hB1.size)
            clear hb hB1
            go_wp2_with fail
            refine (HG.out _ (hTab.on hB2)).mono ?_
            rintro e w3 ⟨rfl, hb⟩
            have hB3 := hB2.trans (hb.mono hB2.size)
            clear hb hB2
            go_wp2_with fail
            refine (HD.out _).mono ?_
            rintro e w' ⟨rfl, rfl⟩
            go_wp2_with fail
            refine (HR.out _).mono ?_
            rintro e w' ⟨rfl, rfl⟩
            go_wp2_with fail
            refine (HF.out _).mono ?_
            rintro e w' ⟨rfl, rfl⟩
            go_wp2
            go_returns
            exact ⟨rfl, hB3⟩
          · have HG := Lib.hid (whenGet_no hm2 hr)
            rw [decide_eq_false hr] at HR
            clear hr
            go_enter Tryd.func4, Tryd.ntmps4
            go_wp2_with fail
            refine (awake13_any _ hTab).mono ?_
            rintro e w1 ⟨rfl, hB1⟩
            go_wp2_with fail
            refine (HP.out _ (hTab.on hB1)).mono ?_
            rintro e w2 ⟨rfl, hb⟩
            have hB2 := hB1.trans (hb.mono hB1.size)
            clear hb hB1
            go_wp2_with fail
            refine (HG.out _ (hTab.on hB2)).mono ?_
            rintro e w3 ⟨rfl, hb⟩
            have hB3 := hB2.trans (hb.mono hB2.size)
            clear hb hB2
            go_wp2_with fail
            refine (HD.out _).mono ?_
            rintro e w' ⟨rfl, rfl⟩
            go_wp2_with fail
            refine (HR.out _).mono ?_
            rintro e w' ⟨rfl, rfl⟩
            go_wp2
            go_returns
            exact ⟨rfl, hB3⟩
        · have hok : wOk a0 = true := decide_eq_true ⟨hd, by omega⟩
          rw [decide_eq_false y1] at l1
          by_cases y2 : yr (bl a0) < 2050
          · have hT : wTag a0 = 23 := if_pos y2
            have hC : wC a0 = a0.extract 2 a0.size ++ ⟨#[90]⟩ := by unfold wC; rw [if_pos y2, h14]
            have HP := Lib.hid (whenPut_yes hl2 hok)
            rw [hT, hC] at HP
            have hmx : ¬ 9223372036854775807 < (a0.extract 2 a0.size).size + (⟨#[90]⟩ : ByteArray).size := by rw [ByteArray.size_extract, show (⟨#[90]⟩ : ByteArray).size = 1 from rfl]; omega
            have h2i : (2 : Int) ≤ (a0.size : Int) := by omega
            rw [decide_eq_true y2] at l2
            clear hd hok y1 y2 hT hC
            by_cases hr : rightP a1 (bl a2)
            · obtain ⟨_, _, _, q1, q2, q3⟩ := w_got hr
              have HG := Lib.hid (whenGet_yes hm2 hr)
              have HF := Lib.hid (refFull_any a1 a2 hm2 (by omega) (fun e => by have := q3 e; omega))
              rw [decide_eq_true hr] at HR
              generalize fullS a1 a2 = f at *
              clear hr q1 q2 q3
              go_enter Tryd.func4, Tryd.ntmps4
              go_wp2_with fail
              refine (awake13_any _ hTab).mono ?_
              rintro e w1 ⟨rfl, hB1⟩
              go_wp2_with fail
              refine (HP.out _ (hTab.on hB1)).mono ?_
              rintro e w2 ⟨rfl, hb⟩
              have hB2 := hB1.trans (hb.mono hB1.size)
              clear hb hB1
              go_wp2_with fail
              refine (HG.out _ (hTab.on hB2)).mono ?_
              rintro e w3 ⟨rfl, hb⟩
              have hB3 := hB2.trans (hb.mono hB2.size)
              clear hb hB2
              go_wp2_with fail
              refine (HD.out _).mono ?_
              rintro e w' ⟨rfl, rfl⟩
              go_wp2_with fail
              refine (HR.out _).mono ?_
              rintro e w' ⟨rfl, rfl⟩
              go_wp2_with fail
              refine (HF.out _).mono ?_
              rintro e w' ⟨rfl, rfl⟩
              go_wp2
              go_returns
              exact ⟨rfl, hB3⟩
            · have HG := Lib.hid (whenGet_no hm2 hr)
              rw [decide_eq_false hr] at HR
              clear hr
              go_enter Tryd.func4, Tryd.ntmps4
              go_wp2_with fail
              refine (awake13_any _ hTab).mono ?_
              rintro e w1 ⟨rfl, hB1⟩
              go_wp2_with fail
              refine (HP.out _ (hTab.on hB1)).mono ?_
              rintro e w2 ⟨rfl, hb⟩
              have hB2 := hB1.trans (hb.mono hB1.size)
              clear hb hB1
              go_wp2_with fail
              refine (HG.out _ (hTab.on hB2)).mono ?_
              rintro e w3 ⟨rfl, hb⟩
              have hB3 := hB2.trans (hb.mono hB2.size)
              clear hb hB2
              go_wp2_with fail
              refine (HD.out _).mono ?_
              rintro e w' ⟨rfl, rfl⟩
              go_wp2_with fail
              refine (HR.out _).mono ?_
              rintro e w' ⟨rfl, rfl⟩
              go_wp2
              go_returns
              exact ⟨rfl, hB3⟩
          · have hT : wTag a0 = 24 := if_neg y2
            have hC : wC a0 = a0 ++ ⟨#[90]⟩ := by unfold wC; rw [if_neg y2]
            have HP := Lib.hid (whenPut_yes hl2 hok)
            rw [hT, hC] at HP
            have hmx : ¬ 9223372036854775807 < a0.size + (⟨#[90]⟩ : ByteArray).size := by rw [show (⟨#[90]⟩ : ByteArray).size = 1 from rfl]; omega
            rw [decide_eq_false y2] at l2
            clear hd hok y1 y2 hT hC
            by_cases hr : rightP a1 (bl a2)
            · obtain ⟨_, _, _, q1, q2, q3⟩ := w_got hr
              have HG := Lib.hid (whenGet_yes hm2 hr)
              have HF := Lib.hid (refFull_any a1 a2 hm2 (by omega) (fun e => by have := q3 e; omega))
              rw [decide_eq_true hr] at HR
              generalize fullS a1 a2 = f at *
              clear hr q1 q2 q3
              go_enter Tryd.func4, Tryd.ntmps4
              go_wp2_with fail
              refine (awake13_any _ hTab).mono ?_
              rintro e w1 ⟨rfl, hB1⟩
              go_wp2_with fail
              refine (HP.out _ (hTab.on hB1)).mono ?_
              rintro e w2 ⟨rfl, hb⟩
              have hB2 := hB1.trans (hb.mono hB1.size)
              clear hb hB1
              go_wp2_with fail
              refine (HG.out _ (hTab.on hB2)).mono ?_
              rintro e w3 ⟨rfl, hb⟩
              have hB3 := hB2.trans (hb.mono hB2.size)
              clear hb hB2
              go_wp2_with fail
              refine (HD.out _).mono ?_
              rintro e w' ⟨rfl, rfl⟩
              go_wp2_with fail
              refine (HR.out _).mono ?_
              rintro e w' ⟨rfl, rfl⟩
              go_wp2_with fail
              refine (HF.out _).mono ?_
              rintro e w' ⟨rfl, rfl⟩
              go_wp2
              go_returns
              exact ⟨rfl, hB3⟩
            · have HG := Lib.hid (whenGet_no hm2 hr)
              rw [decide_eq_false hr] at HR
              clear hr
              go_enter Tryd.func4, Tryd.ntmps4
              go_wp2_with fail
              refine (awake13_any _ hTab).mono ?_
              rintro e w1 ⟨rfl, hB1⟩
              go_wp2_with fail
              refine (HP.out _ (hTab.on hB1)).mono ?_
              rintro e w2 ⟨rfl, hb⟩
              have hB2 := hB1.trans (hb.mono hB1.size)
              clear hb hB1
              go_wp2_with fail
              refine (HG.out _ (hTab.on hB2)).mono ?_
              rintro e w3 ⟨rfl, hb⟩
              have hB3 := hB2.trans (hb.mono hB2.size)
              clear hb hB2
              go_wp2_with fail
              refine (HD.out _).mono ?_
              rintro e w' ⟨rfl, rfl⟩
              go_wp2_with fail
              refine (HR.out _).mono ?_
              rintro e w' ⟨rfl, rfl⟩
              go_wp2
              go_returns
              exact ⟨rfl, hB3⟩
      · have hok : wOk a0 = false := decide_eq_false (fun h => hd h.1)
        have HP := Lib.hid (whenPut_no hl2 hok)
        rw [decide_eq_false hd] at HD
        clear hd hok
        by_cases hr : rightP a1 (bl a2)
        · obtain ⟨_, _, _, q1, q2, q3⟩ := w_got hr
          have HG := Lib.hid (whenGet_yes hm2 hr)
          have HF := Lib.hid (refFull_any a1 a2 hm2 (by omega) (fun e => by have := q3 e; omega))
          rw [decide_eq_true hr] at HR
          generalize fullS a1 a2 = f at *
          clear hr q1 q2 q3
          go_enter Tryd.func4, Tryd.ntmps4
          go_wp2_with fail
          refine (awake13_any _ hTab).mono ?_
          rintro e w1 ⟨rfl, hB1⟩
          go_wp2_with fail
          refine (HP.out _ (hTab.on hB1)).mono ?_
          rintro e w2 ⟨rfl, hb⟩
          have hB2 := hB1.trans (hb.mono hB1.size)
          clear hb hB1
          go_wp2_with fail
          refine (HG.out _ (hTab.on hB2)).mono ?_
          rintro e w3 ⟨rfl, hb⟩
          have hB3 := hB2.trans (hb.mono hB2.size)
          clear hb hB2
          go_wp2_with fail
          refine (HD.out _).mono ?_
          rintro e w' ⟨rfl, rfl⟩
          go_wp2_with fail
          refine (HR.out _).mono ?_
          rintro e w' ⟨rfl, rfl⟩
          go_wp2_with fail
          refine (HF.out _).mono ?_
          rintro e w' ⟨rfl, rfl⟩
          go_wp2
          go_returns
          exact ⟨rfl, hB3⟩
        · have HG := Lib.hid (whenGet_no hm2 hr)
          rw [decide_eq_false hr] at HR
          clear hr
          go_enter Tryd.func4, Tryd.ntmps4
          go_wp2_with fail
          refine (awake13_any _ hTab).mono ?_
          rintro e w1 ⟨rfl, hB1⟩
          go_wp2_with fail
          refine (HP.out _ (hTab.on hB1)).mono ?_
          rintro e w2 ⟨rfl, hb⟩
          have hB2 := hB1.trans (hb.mono hB1.size)
          clear hb hB1
          go_wp2_with fail
          refine (HG.out _ (hTab.on hB2)).mono ?_
          rintro e w3 ⟨rfl, hb⟩
          have hB3 := hB2.trans (hb.mono hB2.size)
          clear hb hB2
          go_wp2_with fail
          refine (HD.out _).mono ?_
          rintro e w' ⟨rfl, rfl⟩
          go_wp2_with fail
          refine (HR.out _).mono ?_
          rintro e w' ⟨rfl, rfl⟩
          go_wp2
          go_returns
          exact ⟨rfl, hB3⟩


/-! ### WhenPuts: the step from the walk to the statement -/
namespace whenPuts
theorem own : ownKnob Tryd.prog.godebug = none := by kernel_rfl
set_option maxRecDepth 100000 in
theorem laid_met (os : Os) : laidMet Tryd.prog Rows.whenPutsRow.laid ((laidWorld os).forCall (fun _ _ => 0) ⟨#[], #[.string ByteArray.empty, .int .i64 0, .string ByteArray.empty], []⟩).memory :=
  laidMet_of_run' 8 (by kernel_rfl) (by kernel_rfl)
theorem reads (os : Os) {H : Type} (enc : TypeId × Value → H) : ∃ places, DataW.whole enc Tryd.prog ((laidWorld os).forCall (fun _ _ => 0) ⟨#[], #[.string ByteArray.empty, .int .i64 0, .string ByteArray.empty], []⟩).memory Tryd.f4.params.toList Rows.whenPutsSpec.vars false #[.string ByteArray.empty, .int .i64 0, .string ByteArray.empty].toList 8 = some ([.lit (.string []), .lit (.int .i64 0), .lit (.string [])], [], places) :=
  ⟨[], by kernel_rfl⟩
set_option maxRecDepth 100000 in
theorem lifted (os : Os) (started : os.Started) (H : Type) (enc : TypeId × Value → H) (F : Stop.Interp) :
    ReturnsInHanded {} Tryd.checked os 4 .any ((OpenSpec.ofChange Rows.whenPutsSpec).preRow enc Tryd.prog Tryd.f4 Rows.whenPutsRow.domain false Rows.whenPutsRow.laid) (((OpenSpec.ofChange Rows.whenPutsSpec).at F).post enc Tryd.prog Tryd.f4 false true false false) := by
  obtain ⟨places, hx⟩ := reads os enc
  refine returnsInHanded_of_row (C := Tryd.checked) (s := OpenSpec.ofChange Rows.whenPutsSpec) own started (by kernel_rfl) Tryd.func4
    (witness_row_at (enc := enc) (C := Tryd.checked) false (laidWorld os) #[.string ByteArray.empty, .int .i64 0, .string ByteArray.empty] rfl (by kernel_rfl) (by kernel_rfl) (by kernel_rfl)
      (OpenSpec.preRow_of_cond 8 hx (by kernel_rfl) (fun k hk => by cases hk) (by kernel_rfl) (laid_met os))) ?_
  intro W base args ds gs before hval0 hW _ _ _ hL _ _
  have hval : ∀ (j : Nat) t v, Tryd.f4.params[j]? = some t → args[j]? = some v → Value.okWide Tryd.prog W .any base t v := hval0
  have hW' := hW
  obtain ⟨p, q, hA0, hV, rfl, hfz, hnd⟩ := hW
  have hA : DataW.TrodAll enc Tryd.prog W 0 (fun _ => true) true Tryd.f4.params.toList args.toList ds p := hA0
  rw [Tryd.params4] at hA hval
  obtain ⟨v0, vs0, d0, ds0, p0, q0, hargs, rfl, rfl, h0, r0⟩ := trodAll_cons hA
  obtain ⟨v1, vs1, d1, ds1, p1, q1, rfl, rfl, rfl, h1, r1⟩ := trodAll_cons r0
  obtain ⟨v2, vs2, d2, ds2, p2, q2, rfl, rfl, rfl, h2, r2⟩ := trodAll_cons r1
  obtain ⟨rfl, rfl, rfl⟩ := trodAll_nil r2
  obtain rfl : args = #[v0, v1, v2] := by cases args; simp_all
  obtain ⟨rfl, rfl⟩ := trodVars_none hV
  obtain ⟨a0, rfl, rfl, rfl, w0⟩ := open_string Tryd.underlying9 (hval 0 9 v0 rfl rfl) h0
  obtain ⟨a1, rfl, rfl, rfl, w1⟩ := open_int Tryd.underlying3 (hval 1 3 v1 rfl rfl) h1
  obtain ⟨a2, rfl, rfl, rfl, w2⟩ := open_string Tryd.underlying9 (hval 2 9 v2 rfl rfl) h2
  clear hA0 hval0
  simp only [List.append_nil] at hW'
  refine (walkWhenPuts a0 a1 a2 w0 (bounds_i64 w1) w2 W (tabOf hL)).mono fun e W' ⟨he, bel⟩ => ?_
  subst he
  exact ⟨_, rfl, _, _, _, [], [], [], hW', trodAll_mk1 (shut_bool Tryd.underlying4 _), (trodAll_cons_mk (shut_string Tryd.underlying9 w0) (trodAll_cons_mk (shut_int Tryd.underlying3 w1) (trodAll_cons_mk (shut_string Tryd.underlying9 w2) trodAll_mk0))), rfl, bel.frame _, fun h => by cases h⟩
theorem said : Rows.WhenPutsSaid :=
  OpenClaim.holds_of_cond 4 Tryd.f4 rfl rfl rfl rfl rfl rfl rfl ⟨rfl, rfl, rfl, rfl, rfl⟩ rfl rfl rfl rfl rfl (by kernel_rfl) Tryd.func4 (by kernel_rfl)
    (of_decide_eq_true (by kernel_rfl)) (by unfold Func.isWrapper; first | (rw [if_pos (by decide +kernel)]; kernel_rfl) | (rw [if_neg (by decide +kernel)]; exact ⟨rfl, rfl⟩))
    (fun os started H enc _ F => by rw [OpenClaim.pre_eq_preRow]; exact lifted os started H enc F)
theorem noStandIns : (#[9, 3, 9].all fun t => !Tryd.prog.wantsStandIn t) = true := by kernel_rfl
theorem plain (f : FuncId) (fn : Func) (hf : Tryd.pinned.checked.prog.funcNamed "gantlet/gantletlaw13.WhenPuts" = some f) (hfn : Tryd.pinned.checked.prog.funcs[f]? = some fn) :
    false = Tryd.pinned.checked.prog.looks [] ∧ ∀ (j : Nat) t, fn.params[j]? = some t → Tryd.pinned.checked.prog.wantsStandIn t = false := by
  obtain rfl : f = 4 := Option.some.inj ((show Tryd.prog.funcNamed "gantlet/gantletlaw13.WhenPuts" = some 4 by kernel_rfl).symm.trans hf) |>.symm
  obtain rfl : fn = Tryd.f4 := (Option.some.inj (Tryd.func4.symm.trans hfn)).symm
  refine ⟨by kernel_rfl, fun j t ht => ?_⟩
  rw [Tryd.params4] at ht
  have h := Array.all_eq_true_iff_forall_mem.1 noStandIns t (Array.mem_of_getElem? ht)
  show Tryd.prog.wantsStandIn t = false
  simpa using h
/-- THE STATEMENT: the card, whose list of variables is tied to the program. -/
theorem proved : Rows.WhenPutsCardSaid :=
  Claim7.holds_tied_plain_at .later [] _ _ _ _ said (fun _ h => by cases h) (by kernel_rfl) (fun _ h => by cases h) whenPuts_row_tie rfl ⟨rfl, rfl⟩ (by kernel_rfl) rfl plain (by kernel_rfl)
end whenPuts
end Go.Proofs.YthjncfpgmfbehaaDoor
