/- Of every tag, length and content (of more than 20 bytes, or more than so many, the law asks only for the fixed answers): Start and Push tell the byte that the reference tells. No condition but the form of the row, and that the library's tables read as their initialisers lay them (the card ties that to the program). -/
import Derived.Test.YthjncfpgmfbehaaDoorWhenAwake
import Derived.Test.YthjncfpgmfbehaaDoorLaid
import Derived.Test.YthjncfpgmfbehaaDoorWhenChk
import Derived.Test.YthjncfpgmfbehaaDoorRows
import Derived.WalkKit
import Derived.ProofKit
import Derived.OpenShut
import Derived.ShutString
import Derived.ChangeOld
import Derived.Below
namespace Go.Proofs.YthjncfpgmfbehaaDoor
open Go.ChangeShapes Go.WideShapes Go.ChangeAt Go.RowKit
open Go.ChangeMaps (open_string shut_string)
set_option linter.unusedVariables false
open Go.PlainAid in
set_option maxRecDepth 100000 in
set_option maxHeartbeats 4000000 in
theorem walkWhenChecks (a0 : Int) (a1 : Int) (a2 : ByteArray) (b0 : -9223372036854775808 ≤ a0 ∧ a0 ≤ 9223372036854775807) (b1 : -9223372036854775808 ≤ a1 ∧ a1 ≤ 9223372036854775807) (b2 : a2.size ≤ maxLen) (w : World) (hTab : Tab w) :
    Calls Tryd.prog 3 #[.int .i64 a0, .int .i64 a1, .string a2] w fun e w' => e = .returned (.bool true) ∧ Below w.heap.size w w' := by
  have hb9 : (a2.size : Int) ≤ 9223372036854775807 := by unfold maxLen at b2; omega
  by_cases hl : (20 : Int) < (a2.size : Int)
  · clear b2
    go_enter Tryd.func3, Tryd.ntmps3
    go_wp2_with fail
    refine (awake13_any _ hTab).mono ?_
    rintro e w1 ⟨rfl, hB1⟩
    go_wp2_with fail
    refine (awake13_any _ (hTab.on hB1)).mono ?_
    rintro e w2 ⟨rfl, hb⟩
    have hB2 := hB1.trans (hb.mono hB1.size)
    clear hb hB1
    go_wp2
    go_returns
    exact ⟨rfl, hB2⟩
  · by_cases hm : max a1 0 < (a2.size : Int)
    · clear b2
      go_enter Tryd.func3, Tryd.ntmps3
      go_wp2_with fail
      refine (awake13_any _ hTab).mono ?_
      rintro e w1 ⟨rfl, hB1⟩
      go_wp2_with fail
      refine (awake13_any _ (hTab.on hB1)).mono ?_
      rintro e w2 ⟨rfl, hb⟩
      have hB2 := hB1.trans (hb.mono hB1.size)
      clear hb hB1
      go_wp2
      go_returns
      exact ⟨rfl, hB2⟩
    · have hl2 : (a2.size : Int) ≤ 20 := by omega
      have H0 := Lib.hid (refWhenWrong_any a0 a1 a2 (by omega))
      by_cases hn : typ a0 a1
      · have H1 := Lib.hid (wStart_is a0 a1 (S := wSt a0 []) (ok := true) (by rw [w_start, if_pos hn]))
        have hmx : ((bl a2).length : Int) ≤ a1 := by rw [bl_length]; rcases hn with ⟨_, h⟩ | ⟨_, h⟩ <;> omega
        have hz : whW a0 a1 (bl a2) ≠ 0 := fun e => (wh_zero a0 a1 (bl a2)).1 e hn
        have hR := wh_range a0 a1 (bl a2)
        have HST := Lib.hid (fun (i : Nat) (hi : i < (bl a2).length) (hc : canP a0 a1 ((bl a2).take i)) h => chk_step hc hi hmx h)
        have HOK := Lib.hid (fun (i : Nat) (hc : canP a0 a1 ((bl a2).take i)) => wSt_ok hc)
        have HC0 : Hid (canP a0 a1 ((bl a2).take 0)) := Lib.hid (by rw [List.take_zero]; exact can_nil.2 hn)
        have HT0 : Hid ((bl a2).take 0 = []) := Lib.hid List.take_zero
        have HGB := Lib.hid (get_bt a2)
        have HX0 := Lib.hid (bt_nonneg a2)
        have HX1 := Lib.hid (bt_le a2)
        have HBL := Lib.hid (fun (i : Nat) (hi : i < (bl a2).length) => bl_get a2 i hi)
        have HSZ := Lib.hid (bl_length a2)
        generalize whW a0 a1 (bl a2) = at_ at *
        have hat0 : (at_ != 0) = true := by simpa using hz
        have hR2 : ¬ (0 ≤ at_ ∧ at_ ≤ 0) := by omega
        obtain ⟨⟨p0, l0, v0, y0, m0⟩, hS0⟩ : ∃ S : WS, wSt a0 [] = S := ⟨_, rfl⟩
        rw [hS0] at H1
        have HS0 := Lib.hid hS0
        clear b2 hR hn hz hmx hS0
        go_enter Tryd.func3, Tryd.ntmps3
        go_wp2_with fail
        refine (awake13_any _ hTab).mono ?_
        rintro e w1 ⟨rfl, hB1⟩
        go_wp2_with fail
        refine (H0.out _).mono ?_
        rintro e w2 ⟨rfl, hb⟩
        have hB2 := hB1.trans (hb.mono hB1.size)
        clear hb hB1
        go_wp2_with fail
        refine (H1.out _).mono ?_
        rintro e w3 ⟨rfl, hb⟩
        have hB3 := hB2.trans (hb.mono hB2.size)
        clear hb hB2
        go_wp2
        go_loopw [9, 42] (fun ov iv wr => ∃ (i : Nat) (ok : Bool) (p l v y m : Int), ov = .bool ok ∧ iv = .int .i64 (i : Int) ∧ i ≤ a2.size ∧ Hid (Row wr w3.heap.size 26 (wC5 p l v y m)) ∧ Hid (Below w.heap.size w wr) ∧ Hid (ok = true → (⟨p, l, v, y, m⟩ : WS) = wSt a0 ((bl a2).take i) ∧ canP a0 a1 ((bl a2).take i) ∧ ¬ (0 ≤ at_ ∧ at_ ≤ (i : Int)))) (fun _ iv _ => a2.size - (intOf iv).toNat)
        case atStart => exact ⟨0, true, p0, l0, v0, y0, m0, rfl, rfl, by omega, Lib.hid (Row.new w3 26 (wC5 _ _ _ _ _)), Lib.hid (hB3.alloc hB3.size _), Lib.hid (fun _ => ⟨by rw [HT0.out, HS0.out], HC0.out, hR2⟩)⟩
        case round =>
          obtain ⟨i, ok, p, l, v, y, m, rfl, rfl, hi, HRo, HB, HT⟩ := hrel
          by_cases hlt : i < a2.size
          · have hlti : (i : Int) < (a2.size : Int) := by omega
            cases ok
            · go_wp2
              go_returns
              exact ⟨rfl, HB.out⟩
            · have hbt := HGB.out i hlt
              have hx0 := HX0.out i
              have hx1 := HX1.out i
              obtain ⟨t1, t2, t3⟩ := HT.out rfl
              have hll : i < (bl a2).length := by rw [HSZ.out]; exact hlt
              obtain ⟨hs1, hs2⟩ := HST.out i hll t2 t3
              have hok := HOK.out i t2
              rw [HBL.out i hll] at hs1 hs2
              rw [← t1] at hs1 hs2 hok
              obtain ⟨z, hz⟩ : ∃ z, bt a2 i = z := ⟨_, rfl⟩
              rw [hz] at hbt hx0 hx1 hs1 hs2
              have h0 : wr.cell? ⟨w3.heap.size, 0, none⟩ = some (.int .u8 p) := HRo.out.cell 0
              have h1 : wr.cell? ⟨w3.heap.size, 1, none⟩ = some (.int .i64 l) := HRo.out.cell 1
              have h2 : wr.cell? ⟨w3.heap.size, 2, none⟩ = some (.int .i64 v) := HRo.out.cell 2
              have h3 : wr.cell? ⟨w3.heap.size, 3, none⟩ = some (.int .i64 y) := HRo.out.cell 3
              have h4 : wr.cell? ⟨w3.heap.size, 4, none⟩ = some (.int .i64 m) := HRo.out.cell 4
              have f0 := HRo.out.frozen 0
              have f1 := HRo.out.frozen 1
              have f2 := HRo.out.frozen 2
              have f3 := HRo.out.frozen 3
              have f4 := HRo.out.frozen 4
              have hls := HRo.out.lt
              by_cases hat3 : at_ = (i : Int) + 1
              · have HP := Lib.hid (wPush_is p l v y m z hok ⟨hx0, hx1⟩ (hs1 hat3))
                have hb : (at_ != (i : Int) + 1) = false := by simpa using hat3
                clear hat3 t1 t2 t3 hs1 hs2 hz hok HT HST HOK HC0 HT0 HS0 hR2
                go_wp2
                go_region_with (go_at_call 12; refine (HP.out _).mono ?_; rintro e w5 ⟨rfl, hb5⟩; obtain ⟨hc0, hf0, hc1, hf1, hc2, hf2, hc3, hf3, hc4, hf4⟩ := wst_kept hb5 HRo.out rfl)
                all_goals
                  have HR5 := Lib.hid (row5 (row_kept hb5 HRo.out rfl) (.int .u8 0) (.int .i64 0) (.int .i64 0) (.int .i64 0) (.int .i64 0))
                  have HB5 := Lib.hid (below5 (below_kept hb5 HB.out rfl rfl rfl rfl) hB3.size (.int .u8 0) (.int .i64 0) (.int .i64 0) (.int .i64 0) (.int .i64 0))
                  clear hb5 hc0 hf0 hc1 hf1 hc2 hf2 hc3 hf3 hc4 hf4 h0 h1 h2 h3 h4 f0 f1 f2 f3 f4 hls HRo HB HP
                  go_wp2
                  go_roundw
                  case rel => exact ⟨i + 1, false, 0, 0, 0, 0, 0, rfl, by simp, by omega, HR5, HB5, Lib.hid (by intro h; cases h)⟩
                  case measure => simp [intOf]; omega
              · obtain ⟨hs3, hs4, hs5⟩ := hs2 hat3
                obtain ⟨⟨p', l', v', y', m'⟩, hS⟩ : ∃ S : WS, wSt a0 ((bl a2).take (i + 1)) = S := ⟨_, rfl⟩
                rw [hS] at hs3
                have HP := Lib.hid (wPush_is p l v y m z hok ⟨hx0, hx1⟩ hs3)
                have hb : (at_ != (i : Int) + 1) = true := by simpa using hat3
                have HT5 : Hid ((⟨p', l', v', y', m'⟩ : WS) = wSt a0 ((bl a2).take (i + 1)) ∧ canP a0 a1 ((bl a2).take (i + 1)) ∧ ¬ (0 ≤ at_ ∧ at_ ≤ ((i + 1 : Nat) : Int))) := Lib.hid ⟨hS.symm, hs4, hs5⟩
                clear hat3 t1 t2 t3 hs1 hs2 hs3 hs4 hs5 hS hz hok HT HST HOK HC0 HT0 HS0 hR2
                go_wp2
                go_region_with (go_at_call 12; refine (HP.out _).mono ?_; rintro e w5 ⟨rfl, hb5⟩; obtain ⟨hc0, hf0, hc1, hf1, hc2, hf2, hc3, hf3, hc4, hf4⟩ := wst_kept hb5 HRo.out rfl)
                all_goals
                  have HR5 := Lib.hid (row5 (row_kept hb5 HRo.out rfl) (.int .u8 p') (.int .i64 l') (.int .i64 v') (.int .i64 y') (.int .i64 m'))
                  have HB5 := Lib.hid (below5 (below_kept hb5 HB.out rfl rfl rfl rfl) hB3.size (.int .u8 p') (.int .i64 l') (.int .i64 v') (.int .i64 y') (.int .i64 m'))
                  clear hb5 hc0 hf0 hc1 hf1 hc2 hf2 hc3 hf3 hc4 hf4 h0 h1 h2 h3 h4 f0 f1 f2 f3 f4 hls HRo HB HP
                  go_wp2
                  go_roundw
                  case rel => exact ⟨i + 1, true, p', l', v', y', m', rfl, by simp, by omega, HR5, HB5, Lib.hid (fun _ => HT5.out)⟩
                  case measure => simp [intOf]; omega
          · have hne : ¬ (i : Int) < (a2.size : Int) := by omega
            go_wp2
            go_returns
            exact ⟨rfl, HB.out⟩
      · have hz : whW a0 a1 (bl a2) = 0 := (wh_zero a0 a1 (bl a2)).2 hn
        have H1 := Lib.hid (wStart_is a0 a1 (S := WS.no) (ok := false) (by rw [w_start, if_neg hn]))
        rw [hz] at H0
        clear b2 hz hn
        go_enter Tryd.func3, Tryd.ntmps3
        go_wp2_with fail
        refine (awake13_any _ hTab).mono ?_
        rintro e w1 ⟨rfl, hB1⟩
        go_wp2_with fail
        refine (H0.out _).mono ?_
        rintro e w2 ⟨rfl, hb⟩
        have hB2 := hB1.trans (hb.mono hB1.size)
        clear hb hB1
        go_wp2_with fail
        refine (H1.out _).mono ?_
        rintro e w3 ⟨rfl, hb⟩
        have hB3 := hB2.trans (hb.mono hB2.size)
        clear hb hB2
        go_wp2
        go_loopw [9, 42] (fun ov iv wr => ov = .bool false ∧ iv = .int .i64 0 ∧ Hid (Below w.heap.size w wr)) (fun _ _ _ => 0)
        case atStart => exact ⟨rfl, rfl, Lib.hid (hB3.alloc hB3.size _)⟩
        case round =>
          obtain ⟨rfl, rfl, HB⟩ := hrel
          by_cases hz0 : (0 : Int) < (a2.size : Int)
          · go_wp2
            go_returns
            exact ⟨rfl, HB.out⟩
          · go_wp2
            go_returns
            exact ⟨rfl, HB.out⟩


/-! ### WhenChecks: the step from the walk to the statement -/
namespace whenChecks
theorem own : ownKnob Tryd.prog.godebug = none := by kernel_rfl
set_option maxRecDepth 100000 in
theorem laid_met (os : Os) : laidMet Tryd.prog Rows.whenChecksRow.laid ((laidWorld os).forCall (fun _ _ => 0) ⟨#[], #[.int .i64 0, .int .i64 0, .string ByteArray.empty], []⟩).memory :=
  laidMet_of_run' 8 (by kernel_rfl) (by kernel_rfl)
theorem reads (os : Os) {H : Type} (enc : TypeId × Value → H) : ∃ places, DataW.whole enc Tryd.prog ((laidWorld os).forCall (fun _ _ => 0) ⟨#[], #[.int .i64 0, .int .i64 0, .string ByteArray.empty], []⟩).memory Tryd.f3.params.toList Rows.whenChecksSpec.vars false #[.int .i64 0, .int .i64 0, .string ByteArray.empty].toList 8 = some ([.lit (.int .i64 0), .lit (.int .i64 0), .lit (.string [])], [], places) :=
  ⟨[], by kernel_rfl⟩
set_option maxRecDepth 100000 in
theorem lifted (os : Os) (started : os.Started) (H : Type) (enc : TypeId × Value → H) (F : Stop.Interp) :
    ReturnsInHanded {} Tryd.checked os 3 .any ((OpenSpec.ofChange Rows.whenChecksSpec).preRow enc Tryd.prog Tryd.f3 Rows.whenChecksRow.domain false Rows.whenChecksRow.laid) (((OpenSpec.ofChange Rows.whenChecksSpec).at F).post enc Tryd.prog Tryd.f3 false true false false) := by
  obtain ⟨places, hx⟩ := reads os enc
  refine returnsInHanded_of_row (C := Tryd.checked) (s := OpenSpec.ofChange Rows.whenChecksSpec) own started (by kernel_rfl) Tryd.func3
    (witness_row_at (enc := enc) (C := Tryd.checked) false (laidWorld os) #[.int .i64 0, .int .i64 0, .string ByteArray.empty] rfl (by kernel_rfl) (by kernel_rfl) (by kernel_rfl)
      (OpenSpec.preRow_of_cond 8 hx (by kernel_rfl) (fun k hk => by cases hk) (by kernel_rfl) (laid_met os))) ?_
  intro W base args ds gs before hval0 hW _ _ _ hL _ _
  have hval : ∀ (j : Nat) t v, Tryd.f3.params[j]? = some t → args[j]? = some v → Value.okWide Tryd.prog W .any base t v := hval0
  have hW' := hW
  obtain ⟨p, q, hA0, hV, rfl, hfz, hnd⟩ := hW
  have hA : DataW.TrodAll enc Tryd.prog W 0 (fun _ => true) true Tryd.f3.params.toList args.toList ds p := hA0
  rw [Tryd.params3] at hA hval
  obtain ⟨v0, vs0, d0, ds0, p0, q0, hargs, rfl, rfl, h0, r0⟩ := trodAll_cons hA
  obtain ⟨v1, vs1, d1, ds1, p1, q1, rfl, rfl, rfl, h1, r1⟩ := trodAll_cons r0
  obtain ⟨v2, vs2, d2, ds2, p2, q2, rfl, rfl, rfl, h2, r2⟩ := trodAll_cons r1
  obtain ⟨rfl, rfl, rfl⟩ := trodAll_nil r2
  obtain rfl : args = #[v0, v1, v2] := by cases args; simp_all
  obtain ⟨rfl, rfl⟩ := trodVars_none hV
  obtain ⟨a0, rfl, rfl, rfl, w0⟩ := open_int Tryd.underlying3 (hval 0 3 v0 rfl rfl) h0
  obtain ⟨a1, rfl, rfl, rfl, w1⟩ := open_int Tryd.underlying3 (hval 1 3 v1 rfl rfl) h1
  obtain ⟨a2, rfl, rfl, rfl, w2⟩ := open_string Tryd.underlying9 (hval 2 9 v2 rfl rfl) h2
  clear hA0 hval0
  simp only [List.append_nil] at hW'
  refine (walkWhenChecks a0 a1 a2 (bounds_i64 w0) (bounds_i64 w1) w2 W (tabOf hL)).mono fun e W' ⟨he, bel⟩ => ?_
  subst he
  exact ⟨_, rfl, _, _, _, [], [], [], hW', trodAll_mk1 (shut_bool Tryd.underlying4 _), (trodAll_cons_mk (shut_int Tryd.underlying3 w0) (trodAll_cons_mk (shut_int Tryd.underlying3 w1) (trodAll_cons_mk (shut_string Tryd.underlying9 w2) trodAll_mk0))), rfl, bel.frame _, fun h => by cases h⟩
theorem said : Rows.WhenChecksSaid :=
  OpenClaim.holds_of_cond 3 Tryd.f3 rfl rfl rfl rfl rfl rfl rfl ⟨rfl, rfl, rfl, rfl, rfl⟩ rfl rfl rfl rfl rfl (by kernel_rfl) Tryd.func3 (by kernel_rfl)
    (of_decide_eq_true (by kernel_rfl)) (by unfold Func.isWrapper; first | (rw [if_pos (by decide +kernel)]; kernel_rfl) | (rw [if_neg (by decide +kernel)]; exact ⟨rfl, rfl⟩))
    (fun os started H enc _ F => by rw [OpenClaim.pre_eq_preRow]; exact lifted os started H enc F)
theorem noStandIns : (#[3, 3, 9].all fun t => !Tryd.prog.wantsStandIn t) = true := by kernel_rfl
theorem plain (f : FuncId) (fn : Func) (hf : Tryd.pinned.checked.prog.funcNamed "gantlet/gantletlaw13.WhenChecks" = some f) (hfn : Tryd.pinned.checked.prog.funcs[f]? = some fn) :
    false = Tryd.pinned.checked.prog.looks [] ∧ ∀ (j : Nat) t, fn.params[j]? = some t → Tryd.pinned.checked.prog.wantsStandIn t = false := by
  obtain rfl : f = 3 := Option.some.inj ((show Tryd.prog.funcNamed "gantlet/gantletlaw13.WhenChecks" = some 3 by kernel_rfl).symm.trans hf) |>.symm
  obtain rfl : fn = Tryd.f3 := (Option.some.inj (Tryd.func3.symm.trans hfn)).symm
  refine ⟨by kernel_rfl, fun j t ht => ?_⟩
  rw [Tryd.params3] at ht
  have h := Array.all_eq_true_iff_forall_mem.1 noStandIns t (Array.mem_of_getElem? ht)
  show Tryd.prog.wantsStandIn t = false
  simpa using h
/-- THE STATEMENT: the card, whose list of variables is tied to the program. -/
theorem proved : Rows.WhenChecksCardSaid :=
  Claim7.holds_tied_plain_at .later [] _ _ _ _ said (fun _ h => by cases h) (by kernel_rfl) (fun _ h => by cases h) whenChecks_row_tie rfl ⟨rfl, rfl⟩ (by kernel_rfl) rfl plain (by kernel_rfl)
end whenChecks
end Go.Proofs.YthjncfpgmfbehaaDoor
