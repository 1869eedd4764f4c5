/- Of every year, month and text: the days are the reference's, and a date's day is one of its month's. No condition but the form of the row, and that the library's tables read as their initialisers lay them (the card ties that to the program). -/
import Derived.Test.YthjncfpgmfbehaaDoorWhenAwake
import Derived.Test.YthjncfpgmfbehaaDoorLaid
import Derived.Test.YthjncfpgmfbehaaDoorRows
import Derived.WalkKit
import Derived.ProofKit
import Derived.OpenShut
import Derived.ShutString
import Derived.ChangeOld
import Derived.Below
namespace Go.Proofs.YthjncfpgmfbehaaDoor
open Go.ChangeShapes Go.WideShapes Go.ChangeAt Go.RowKit
open Go.ChangeMaps (open_string shut_string)
set_option linter.unusedVariables false
open Go.PlainAid in
set_option maxRecDepth 100000 in
set_option maxHeartbeats 4000000 in
theorem walkWhenDays (a0 : Int) (a1 : Int) (a2 : ByteArray) (b0 : -9223372036854775808 ≤ a0 ∧ a0 ≤ 9223372036854775807) (b1 : -9223372036854775808 ≤ a1 ∧ a1 ≤ 9223372036854775807) (b2 : a2.size ≤ maxLen) (w : World) (hTab : Tab w) :
    Calls Tryd.prog 7 #[.int .i64 a0, .int .i64 a1, .string a2] w fun e w' => e = .returned (.bool true) ∧ Below w.heap.size w w' := by
  have hb9 : (a2.size : Int) ≤ 9223372036854775807 := by unfold maxLen at b2; omega
  have HDY := Lib.hid (whenDays_any a0 a1 b0 b1)
  have HRD := Lib.hid (refDays_any a0 a1 b0)
  generalize dysI a0 a1 = n at *
  by_cases hl : (100 : Int) < (a2.size : Int)
  · clear b2
    go_enter Tryd.func7, Tryd.ntmps7
    go_wp2_with fail
    refine (awake13_any _ hTab).mono ?_
    rintro e w1 ⟨rfl, hB1⟩
    go_wp2_with fail
    refine (HDY.out _).mono ?_
    rintro e w2 ⟨rfl, hb⟩
    have hB2 := hB1.trans (hb.mono hB1.size)
    clear hb hB1
    go_wp2_with fail
    refine (HRD.out _).mono ?_
    rintro e w' ⟨rfl, rfl⟩
    go_wp2
    go_returns
    exact ⟨rfl, hB2⟩
  · have hl2 : a2.size ≤ 1000000 := by omega
    cases hok : wOk a2
    · have HP := Lib.hid (whenPut_no hl2 hok)
      clear hok b2
      go_enter Tryd.func7, Tryd.ntmps7
      go_wp2_with fail
      refine (awake13_any _ hTab).mono ?_
      rintro e w1 ⟨rfl, hB1⟩
      go_wp2_with fail
      refine (HDY.out _).mono ?_
      rintro e w2 ⟨rfl, hb⟩
      have hB2 := hB1.trans (hb.mono hB1.size)
      clear hb hB1
      go_wp2_with fail
      refine (HRD.out _).mono ?_
      rintro e w' ⟨rfl, rfl⟩
      go_wp2_with fail
      refine (HP.out _ (hTab.on hB2)).mono ?_
      rintro e w3 ⟨rfl, hb⟩
      have hB3 := hB2.trans (hb.mono hB2.size)
      clear hb hB2
      go_wp2
      go_returns
      exact ⟨rfl, hB3⟩
    · have h14 := wOk_size hok
      have HP := Lib.hid (whenPut_yes hl2 hok)
      have hdd := date_digits (wOk_iff.1 hok).1
      obtain ⟨e1, e2⟩ := w_day hok
      rw [yr_is] at e2
      unfold n2 at e1 e2
      have h14i : (a2.size : Int) = 14 := by omega
      have hn0 : 0 < a2.size := by omega
      have gx0 := get_bt a2 0 hn0
      have dd0 := hdd 0 (by decide)
      have hn1 : 1 < a2.size := by omega
      have gx1 := get_bt a2 1 hn1
      have dd1 := hdd 1 (by decide)
      have hn2 : 2 < a2.size := by omega
      have gx2 := get_bt a2 2 hn2
      have dd2 := hdd 2 (by decide)
      have hn3 : 3 < a2.size := by omega
      have gx3 := get_bt a2 3 hn3
      have dd3 := hdd 3 (by decide)
      have hn4 : 4 < a2.size := by omega
      have gx4 := get_bt a2 4 hn4
      have dd4 := hdd 4 (by decide)
      have hn5 : 5 < a2.size := by omega
      have gx5 := get_bt a2 5 hn5
      have dd5 := hdd 5 (by decide)
      have hn6 : 6 < a2.size := by omega
      have gx6 := get_bt a2 6 hn6
      have dd6 := hdd 6 (by decide)
      have hn7 : 7 < a2.size := by omega
      have gx7 := get_bt a2 7 hn7
      have dd7 := hdd 7 (by decide)
      simp only [← bt_g, Nat.reduceAdd] at dd0 dd1 dd2 dd3 dd4 dd5 dd6 dd7 e1 e2
      unfold isD at dd0 dd1 dd2 dd3 dd4 dd5 dd6 dd7
      generalize wTag a2 = tg at *
      generalize wC a2 = ct at *
      obtain ⟨x0, hx0⟩ : ∃ x, bt a2 0 = x := ⟨_, rfl⟩
      obtain ⟨x1, hx1⟩ : ∃ x, bt a2 1 = x := ⟨_, rfl⟩
      obtain ⟨x2, hx2⟩ : ∃ x, bt a2 2 = x := ⟨_, rfl⟩
      obtain ⟨x3, hx3⟩ : ∃ x, bt a2 3 = x := ⟨_, rfl⟩
      obtain ⟨x4, hx4⟩ : ∃ x, bt a2 4 = x := ⟨_, rfl⟩
      obtain ⟨x5, hx5⟩ : ∃ x, bt a2 5 = x := ⟨_, rfl⟩
      obtain ⟨x6, hx6⟩ : ∃ x, bt a2 6 = x := ⟨_, rfl⟩
      obtain ⟨x7, hx7⟩ : ∃ x, bt a2 7 = x := ⟨_, rfl⟩
      rw [hx0] at gx0 dd0
      rw [hx1] at gx1 dd1
      rw [hx2] at gx2 dd2
      rw [hx3] at gx3 dd3
      rw [hx4] at gx4 dd4
      rw [hx5] at gx5 dd5
      rw [hx6] at gx6 dd6
      rw [hx7] at gx7 dd7
      rw [hx6, hx7] at e1 e2
      rw [hx0, hx1, hx2, hx3, hx4, hx5] at e2
      obtain ⟨lo0, hi0⟩ := dd0
      obtain ⟨lo1, hi1⟩ := dd1
      obtain ⟨lo2, hi2⟩ := dd2
      obtain ⟨lo3, hi3⟩ := dd3
      obtain ⟨lo4, hi4⟩ := dd4
      obtain ⟨lo5, hi5⟩ := dd5
      obtain ⟨lo6, hi6⟩ := dd6
      obtain ⟨lo7, hi7⟩ := dd7
      have HD2 := Lib.hid (whenDays_any (1000 * (x0 - 48) + 100 * (x1 - 48) + 10 * (x2 - 48) + (x3 - 48)) (10 * (x4 - 48) + (x5 - 48)) (by omega) (by omega))
      generalize dysI (1000 * (x0 - 48) + 100 * (x1 - 48) + 10 * (x2 - 48) + (x3 - 48)) (10 * (x4 - 48) + (x5 - 48)) = D at *
      have hm0 : (x0 - 48) % 256 = x0 - 48 := by omega
      have hw0 : IntKind.i64.wrap (x0 - 48) = x0 - 48 := by rw [IntKind.wrap_i64]; omega
      have hm1 : (x1 - 48) % 256 = x1 - 48 := by omega
      have hw1 : IntKind.i64.wrap (x1 - 48) = x1 - 48 := by rw [IntKind.wrap_i64]; omega
      have hm2 : (x2 - 48) % 256 = x2 - 48 := by omega
      have hw2 : IntKind.i64.wrap (x2 - 48) = x2 - 48 := by rw [IntKind.wrap_i64]; omega
      have hm3 : (x3 - 48) % 256 = x3 - 48 := by omega
      have hw3 : IntKind.i64.wrap (x3 - 48) = x3 - 48 := by rw [IntKind.wrap_i64]; omega
      have hm4 : (x4 - 48) % 256 = x4 - 48 := by omega
      have hw4 : IntKind.i64.wrap (x4 - 48) = x4 - 48 := by rw [IntKind.wrap_i64]; omega
      have hm5 : (x5 - 48) % 256 = x5 - 48 := by omega
      have hw5 : IntKind.i64.wrap (x5 - 48) = x5 - 48 := by rw [IntKind.wrap_i64]; omega
      have hm6 : (x6 - 48) % 256 = x6 - 48 := by omega
      have hw6 : IntKind.i64.wrap (x6 - 48) = x6 - 48 := by rw [IntKind.wrap_i64]; omega
      have hm7 : (x7 - 48) % 256 = x7 - 48 := by omega
      have hw7 : IntKind.i64.wrap (x7 - 48) = x7 - 48 := by rw [IntKind.wrap_i64]; omega
      clear hok hdd hx0 hx1 hx2 hx3 hx4 hx5 hx6 hx7 b2
      go_enter Tryd.func7, Tryd.ntmps7
      go_wp2_with fail
      refine (awake13_any _ hTab).mono ?_
      rintro e w1 ⟨rfl, hB1⟩
      go_wp2_with fail
      refine (HDY.out _).mono ?_
      rintro e w2 ⟨rfl, hb⟩
      have hB2 := hB1.trans (hb.mono hB1.size)
      clear hb hB1
      go_wp2_with fail
      refine (HRD.out _).mono ?_
      rintro e w' ⟨rfl, rfl⟩
      go_wp2_with fail
      refine (HP.out _ (hTab.on hB2)).mono ?_
      rintro e w3 ⟨rfl, hb⟩
      have hB3 := hB2.trans (hb.mono hB2.size)
      clear hb hB2
      go_wp2_with fail
      go_quiet (fail)
      go_wp2_with fail
      go_quiet (fail)
      go_wp2_with fail
      go_quiet (fail)
      go_wp2_with fail
      refine (HD2.out _).mono ?_
      rintro e w4 ⟨rfl, hb⟩
      go_wp2
      go_returns
      exact ⟨rfl, (below_drawn hB3 _).trans (hb.mono hB3.size)⟩


/-! ### WhenDays: the step from the walk to the statement -/
namespace whenDays
theorem own : ownKnob Tryd.prog.godebug = none := by kernel_rfl
set_option maxRecDepth 100000 in
theorem laid_met (os : Os) : laidMet Tryd.prog Rows.whenDaysRow.laid ((laidWorld os).forCall (fun _ _ => 0) ⟨#[], #[.int .i64 0, .int .i64 0, .string ByteArray.empty], []⟩).memory :=
  laidMet_of_run' 8 (by kernel_rfl) (by kernel_rfl)
theorem reads (os : Os) {H : Type} (enc : TypeId × Value → H) : ∃ places, DataW.whole enc Tryd.prog ((laidWorld os).forCall (fun _ _ => 0) ⟨#[], #[.int .i64 0, .int .i64 0, .string ByteArray.empty], []⟩).memory Tryd.f7.params.toList Rows.whenDaysSpec.vars false #[.int .i64 0, .int .i64 0, .string ByteArray.empty].toList 8 = some ([.lit (.int .i64 0), .lit (.int .i64 0), .lit (.string [])], [], places) :=
  ⟨[], by kernel_rfl⟩
set_option maxRecDepth 100000 in
theorem lifted (os : Os) (started : os.Started) (H : Type) (enc : TypeId × Value → H) (F : Stop.Interp) :
    ReturnsInHanded {} Tryd.checked os 7 .any ((OpenSpec.ofChange Rows.whenDaysSpec).preRow enc Tryd.prog Tryd.f7 Rows.whenDaysRow.domain false Rows.whenDaysRow.laid) (((OpenSpec.ofChange Rows.whenDaysSpec).at F).post enc Tryd.prog Tryd.f7 false true false false) := by
  obtain ⟨places, hx⟩ := reads os enc
  refine returnsInHanded_of_row (C := Tryd.checked) (s := OpenSpec.ofChange Rows.whenDaysSpec) own started (by kernel_rfl) Tryd.func7
    (witness_row_at (enc := enc) (C := Tryd.checked) false (laidWorld os) #[.int .i64 0, .int .i64 0, .string ByteArray.empty] rfl (by kernel_rfl) (by kernel_rfl) (by kernel_rfl)
      (OpenSpec.preRow_of_cond 8 hx (by kernel_rfl) (fun k hk => by cases hk) (by kernel_rfl) (laid_met os))) ?_
  intro W base args ds gs before hval0 hW _ _ _ hL _ _
  have hval : ∀ (j : Nat) t v, Tryd.f7.params[j]? = some t → args[j]? = some v → Value.okWide Tryd.prog W .any base t v := hval0
  have hW' := hW
  obtain ⟨p, q, hA0, hV, rfl, hfz, hnd⟩ := hW
  have hA : DataW.TrodAll enc Tryd.prog W 0 (fun _ => true) true Tryd.f7.params.toList args.toList ds p := hA0
  rw [Tryd.params7] at hA hval
  obtain ⟨v0, vs0, d0, ds0, p0, q0, hargs, rfl, rfl, h0, r0⟩ := trodAll_cons hA
  obtain ⟨v1, vs1, d1, ds1, p1, q1, rfl, rfl, rfl, h1, r1⟩ := trodAll_cons r0
  obtain ⟨v2, vs2, d2, ds2, p2, q2, rfl, rfl, rfl, h2, r2⟩ := trodAll_cons r1
  obtain ⟨rfl, rfl, rfl⟩ := trodAll_nil r2
  obtain rfl : args = #[v0, v1, v2] := by cases args; simp_all
  obtain ⟨rfl, rfl⟩ := trodVars_none hV
  obtain ⟨a0, rfl, rfl, rfl, w0⟩ := open_int Tryd.underlying3 (hval 0 3 v0 rfl rfl) h0
  obtain ⟨a1, rfl, rfl, rfl, w1⟩ := open_int Tryd.underlying3 (hval 1 3 v1 rfl rfl) h1
  obtain ⟨a2, rfl, rfl, rfl, w2⟩ := open_string Tryd.underlying9 (hval 2 9 v2 rfl rfl) h2
  clear hA0 hval0
  simp only [List.append_nil] at hW'
  refine (walkWhenDays a0 a1 a2 (bounds_i64 w0) (bounds_i64 w1) w2 W (tabOf hL)).mono fun e W' ⟨he, bel⟩ => ?_
  subst he
  exact ⟨_, rfl, _, _, _, [], [], [], hW', trodAll_mk1 (shut_bool Tryd.underlying4 _), (trodAll_cons_mk (shut_int Tryd.underlying3 w0) (trodAll_cons_mk (shut_int Tryd.underlying3 w1) (trodAll_cons_mk (shut_string Tryd.underlying9 w2) trodAll_mk0))), rfl, bel.frame _, fun h => by cases h⟩
theorem said : Rows.WhenDaysSaid :=
  OpenClaim.holds_of_cond 7 Tryd.f7 rfl rfl rfl rfl rfl rfl rfl ⟨rfl, rfl, rfl, rfl, rfl⟩ rfl rfl rfl rfl rfl (by kernel_rfl) Tryd.func7 (by kernel_rfl)
    (of_decide_eq_true (by kernel_rfl)) (by unfold Func.isWrapper; first | (rw [if_pos (by decide +kernel)]; kernel_rfl) | (rw [if_neg (by decide +kernel)]; exact ⟨rfl, rfl⟩))
    (fun os started H enc _ F => by rw [OpenClaim.pre_eq_preRow]; exact lifted os started H enc F)
theorem noStandIns : (#[3, 3, 9].all fun t => !Tryd.prog.wantsStandIn t) = true := by kernel_rfl
theorem plain (f : FuncId) (fn : Func) (hf : Tryd.pinned.checked.prog.funcNamed "gantlet/gantletlaw13.WhenDays" = some f) (hfn : Tryd.pinned.checked.prog.funcs[f]? = some fn) :
    false = Tryd.pinned.checked.prog.looks [] ∧ ∀ (j : Nat) t, fn.params[j]? = some t → Tryd.pinned.checked.prog.wantsStandIn t = false := by
  obtain rfl : f = 7 := Option.some.inj ((show Tryd.prog.funcNamed "gantlet/gantletlaw13.WhenDays" = some 7 by kernel_rfl).symm.trans hf) |>.symm
  obtain rfl : fn = Tryd.f7 := (Option.some.inj (Tryd.func7.symm.trans hfn)).symm
  refine ⟨by kernel_rfl, fun j t ht => ?_⟩
  rw [Tryd.params7] at ht
  have h := Array.all_eq_true_iff_forall_mem.1 noStandIns t (Array.mem_of_getElem? ht)
  show Tryd.prog.wantsStandIn t = false
  simpa using h
/-- THE STATEMENT: the card, whose list of variables is tied to the program. -/
theorem proved : Rows.WhenDaysCardSaid :=
  Claim7.holds_tied_plain_at .later [] _ _ _ _ said (fun _ h => by cases h) (by kernel_rfl) (fun _ h => by cases h) whenDays_row_tie rfl ⟨rfl, rfl⟩ (by kernel_rfl) rfl plain (by kernel_rfl)
end whenDays
end Go.Proofs.YthjncfpgmfbehaaDoor
