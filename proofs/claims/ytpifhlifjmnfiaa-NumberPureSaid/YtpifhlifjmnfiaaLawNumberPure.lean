/- Of every tag, length, content and byte: a State that is pushed stays as it was. No condition but the form of the row. -/
import Derived.Test.YtpifhlifjmnfiaaNumAwake
import Derived.Test.YtpifhlifjmnfiaaRefNumb2
import Derived.Test.YtpifhlifjmnfiaaCameTwo
import Derived.Test.YtpifhlifjmnfiaaRows
import Derived.WalkKit
import Derived.Deep.CutRange
import Derived.Deep.LoopGhost
import Derived.ProofKit
import Derived.OpenShut
import Derived.ShutString
import Derived.ChangeOld
import Derived.Below
import Derived.Carry
namespace Go.Proofs.Ytpifhlifjmnfiaa
open Go.ChangeShapes Go.WideShapes Go.ChangeAt Go.RowKit
open Go.ChangeMaps (open_string shut_string)
set_option linter.unusedVariables false
open Go.PlainAid in
set_option maxRecDepth 100000 in
set_option maxHeartbeats 4000000 in
theorem walkNumberPure (a0 e0 : Int) (a1 : ByteArray) (a2 : Int) (ra0 : InI a0) (re0 : InI e0) (b1 : a1.size ≤ maxLen) (b2 : 0 ≤ a2 ∧ a2 ≤ 255) (w : World) :
    Calls Try.prog 7 #[.agg #[.int .i64 a0, .int .i64 e0], .string a1, .int .u8 a2] w fun e w' => e = .returned (.bool true) ∧ Below w.heap.size w w' := by
  have hb9 : (a1.size : Int) ≤ 9223372036854775807 := by unfold maxLen at b1; omega
  have H0 := Lib.hid (fun (i : Nat) (hi : i < a1.size) => refWrong_any a0 e0 (a1.extract 0 (i + 1)) (by rw [ByteArray.size_extract]; unfold maxLen; omega))
  have H1 := Lib.hid (nmStart_any a0 e0)
  have HOK := Lib.hid (nmOk_iff a0 e0 a1.size (bt a1 0) (bt a1 1))
  have HX0 := Lib.hid (bt_nonneg a1)
  have HX1 := Lib.hid (bt_le a1)
  have HGB := Lib.hid (get_bt a1)
  have HAR := Lib.hid (nmAt_range a0 (bt a1 0))
  have HST := Lib.hid (fun (i : Nat) (z : Int) hok hi hk hx hy h0 => nm_step a0 e0 a1.size i (bt a1 0) (bt a1 1) z hok hi hk hx hy h0)
  have HFR := Lib.hid (fun (i : Nat) (hi : i < a1.size) => nW_front a0 e0 a1.size i (bt a1 0) (bt a1 1) hi)
  have HNF := Lib.hid (fun (i : Nat) (hi : i < a1.size) => nmWrong_front a0 e0 a1 i hi)
  generalize nW a0 e0 a1.size (bt a1 0) (bt a1 1) = at_ at *
  go_enter Try.func7, Try.ntmps7
  go_wp2
  go_region
  all_goals
    have hW0 : Below w.heap.size w (w.alloc (.cells #[.int .i64 a0, .int .i64 e0] 37)).drew := (Below.alloc (Below.refl _ _) (Nat.le_refl _) _).drew
    generalize (w.alloc (.cells #[.int .i64 a0, .int .i64 e0] 37)).drew = W at *
    go_wp2_with fail
    refine (awake10_any _).mono ?_
    rintro e w1 ⟨rfl, hb⟩
    have hB1 := hW0.trans (hb.mono hW0.size)
    clear hb hW0
    by_cases hl : (300 : Int) < (a1.size : Int)
    · clear HX0 HX1 HGB HOK HAR HST HFR HNF
      go_wp2_with fail
      refine (awake10_any _).mono ?_
      rintro e w2 ⟨rfl, hb⟩
      have hB2 := hB1.trans (hb.mono hB1.size)
      clear hb hB1
      go_wp2
      go_returns
      exact ⟨rfl, hB2⟩
    · by_cases hn0 : e0 < 0
      · clear HX0 HX1 HGB HOK HAR HST HFR HNF
        go_wp2_with fail
        refine (awake10_any _).mono ?_
        rintro e w2 ⟨rfl, hb⟩
        have hB2 := hB1.trans (hb.mono hB1.size)
        clear hb hB1
        go_wp2
        go_returns
        exact ⟨rfl, hB2⟩
      · by_cases hm : e0 < (a1.size : Int)
        · clear HX0 HX1 HGB HOK HAR HST HFR HNF
          go_wp2_with fail
          refine (awake10_any _).mono ?_
          rintro e w2 ⟨rfl, hb⟩
          have hB2 := hB1.trans (hb.mono hB1.size)
          clear hb hB1
          go_wp2
          go_returns
          exact ⟨rfl, hB2⟩
        · have hm2 : (a1.size : Int) ≤ e0 := by omega
          have hl2 : (a1.size : Int) ≤ 300 := by omega
          go_wp2_with fail
          refine (H1.out _).mono ?_
          rintro e w2 ⟨rfl, hb⟩
          have hB2 := hB1.trans (hb.mono hB1.size)
          clear hb hB1
          have HF1 : Hid (nmOk a0 e0 = true → (if nmOk a0 e0 = true then nmFirst a0 else 0) = nmAt a0 (bt a1 0) 0 ∧ ¬ (0 ≤ at_ ∧ at_ ≤ 0)) := Lib.hid (by
            intro h; rw [if_pos h]; exact ⟨rfl, by have := HOK.out.1 h; omega⟩)
          obtain ⟨ok0, hok0⟩ : ∃ ok0, nmOk a0 e0 = ok0 := ⟨_, rfl⟩
          generalize (if nmOk a0 e0 = true then nmFirst a0 else 0) = s0 at *
          rw [hok0] at HF1
          rw [hok0]
          have HOK0 := Lib.hid hok0
          clear hok0 H1 HOK
          go_wp2
          go_loopg [46, 10] a1.size (fun gk iv ov wr => ∃ (i : Nat) (ok : Bool) (s : Int), iv = .int .i64 (i : Int) ∧ ov = .bool ok ∧ i ≤ a1.size ∧ a1.size - i ≤ gk ∧ Hid (ok = true → ok0 = true ∧ s = nmAt a0 (bt a1 0) i ∧ ¬ (0 ≤ at_ ∧ at_ ≤ (i : Int))) ∧ Hid (Row wr w2.heap.size 26 [.int .u8 s]) ∧ Hid (Below w.heap.size w wr))
          case atStart => exact ⟨0, ok0, s0, rfl, rfl, by omega, by omega, Lib.hid (fun h => ⟨h, HF1.out h⟩), Lib.hid (Row.new w2 26 _), Lib.hid (hB2.alloc hB2.size _)⟩
          case round =>
            obtain ⟨i, ok, s, rfl, rfl, hi, hgk, HT, HR, HB⟩ := hrel
            by_cases hlt : i < a1.size
            · cases ok
              · go_wp2
                go_returns
                exact ⟨rfl, HB.out⟩
              · have hbt := HGB.out i hlt
                have hx0 := HX0.out i
                have hx1 := HX1.out i
                have hlti : (i : Int) < (a1.size : Int) := by omega
                obtain ⟨t1, t2, t3⟩ := HT.out rfl
                have hst := HST.out i (bt a1 i) (HOK0.out.trans t1) hlt hm2 (by rintro rfl; rfl) (by rintro rfl; rfl) t3
                rw [← t2] at hst
                have har := HAR.out i
                rw [← t2] at har
                have HP := Lib.hid (nmPush_any s (bt a1 i) har ⟨hx0, hx1⟩)
                have HQ := Lib.hid (nmPush_any s a2 har b2)
                have HW := Lib.hid (H0.out i hlt)
                have hfr := HFR.out i hlt
                rw [HNF.out i hlt] at HW
                generalize nW a0 e0 (i + 1) (bt a1 0) (bt a1 1) = v at *
                rw [hst] at HP
                generalize bt a1 i = x at *
                have HT3 := Lib.hid t3
                have HT1 := Lib.hid t1
                clear hst t1 t2 t3 har H0 HT
                generalize nmPush s a2 = pb at *
                obtain ⟨sb, okb⟩ := pb
                have h0 := HR.out.cell 0
                have f0 := HR.out.frozen 0
                have hls := HR.out.lt
                go_wp2_with fail
                refine (HQ.out _).mono ?_
                rintro e w5 ⟨rfl, hb⟩
                have HR5 := Lib.hid (HR.out.below hb HR.out.lt)
                have HB5 := Lib.hid (HB.out.trans (hb.mono HB.out.size))
                clear hb h0 f0 hls HR HB HQ
                obtain ⟨p2, hp2⟩ : ∃ p2 : Int × Bool, p2 = if at_ = (i : Int) + 1 then (0, false) else (nmAt a0 (bt a1 0) (i + 1), true) := ⟨_, rfl⟩
                rw [← hp2] at HP
                obtain ⟨s2, ok2⟩ := p2
                simp only at HP
                have HPP := Lib.hid hp2
                clear hp2
                have h0 := HR5.out.cell 0
                have hls := HR5.out.lt
                have hne0 : w2.heap.size ≠ w5.heap.size := by have := HR5.out.lt; omega
                have hsw := HB5.out.size
                go_upto_region 11 with fail
                go_cut [12, 13] from 47 to 89 (fun pv kv wx => ∃ g : Nat, pv = .pointer (some ⟨g, 0, none⟩) ∧ kv = .bool ok2 ∧ Hid (Row wx g 26 [.int .u8 s2]) ∧ Hid (Row wx w2.heap.size 26 [.int .u8 s]) ∧ Hid (Below w.heap.size w wx))
                case first =>
                  go_region_with (go_at_call 12; refine (HP.out _).mono ?_; rintro e w9 ⟨rfl, hb9⟩; first | (have hk9 := num_new_kept hb9; obtain ⟨hc9, hf9⟩ := hk9) | (have hk9 := num_new_kept2 hb9; obtain ⟨hc9, hf9⟩ := hk9) | skip)
                  all_goals
                    go_wp2_with fail
                    go_meet
                    case rel =>
                      first
                      | exact ⟨w5.heap.size, rfl, rfl, Lib.hid ((row_kept hb9 (Row.new w5 26 [.int .u8 0]) rfl).set 0 (.int .u8 s2)), Lib.hid ((row_kept hb9 (HR5.out.alloc (.cells #[.int .u8 0] 26)) rfl).far (p := ⟨w5.heap.size, 0, none⟩) hne0 _), Lib.hid ((below_kept hb9 (HB5.out.alloc hsw (.cells #[.int .u8 0] 26)) rfl rfl rfl rfl).setCell hsw _)⟩
                      | exact ⟨w9.heap.size, rfl, rfl, Lib.hid (Row.new w9 26 _), Lib.hid ((row_kept hb9 HR5.out rfl).alloc _), Lib.hid ((below_kept hb9 HB5.out rfl rfl rfl rfl).alloc (below_kept hb9 HB5.out rfl rfl rfl rfl).size _)⟩
                case rest =>
                  obtain ⟨g6, rfl, rfl, HT6, HR6, HB6⟩ := hcut
                  clear h0 hls hne0 hsw HR5 HB5
                  obtain ⟨w6, hw6⟩ : ∃ w6, wc = w6 := ⟨_, rfl⟩
                  subst hw6
                  have h0 := HR6.out.cell 0
                  have hls := HR6.out.lt
                  have hne0 : w2.heap.size ≠ wc.heap.size := by have := HR6.out.lt; omega
                  have hne1 : g6 ≠ wc.heap.size := by have := HT6.out.lt; omega
                  have hsw := HB6.out.size
                  go_upto_region 12 with fail
                  go_cut [14, 15] from 47 to 89 (fun pv kv wx => ∃ g : Nat, pv = .pointer (some ⟨g, 0, none⟩) ∧ kv = .bool ok2 ∧ Hid (Row wx g 26 [.int .u8 s2]) ∧ Hid (Row wx w2.heap.size 26 [.int .u8 s]) ∧ Hid (Row wx g6 26 [.int .u8 s2]) ∧ Hid (Below w.heap.size w wx))
                  case first =>
                    go_region_with (go_at_call 12; refine (HP.out _).mono ?_; rintro e w9 ⟨rfl, hb9⟩; first | (have hk9 := num_new_kept hb9; obtain ⟨hc9, hf9⟩ := hk9) | (have hk9 := num_new_kept2 hb9; obtain ⟨hc9, hf9⟩ := hk9) | skip)
                    all_goals
                      go_wp2_with fail
                      go_meet
                      case rel =>
                        first
                        | exact ⟨wc.heap.size, rfl, rfl, Lib.hid ((row_kept hb9 (Row.new wc 26 [.int .u8 0]) rfl).set 0 (.int .u8 s2)), Lib.hid ((row_kept hb9 (HR6.out.alloc (.cells #[.int .u8 0] 26)) rfl).far (p := ⟨wc.heap.size, 0, none⟩) hne0 _), Lib.hid ((row_kept hb9 (HT6.out.alloc (.cells #[.int .u8 0] 26)) rfl).far (p := ⟨wc.heap.size, 0, none⟩) hne1 _), Lib.hid ((below_kept hb9 (HB6.out.alloc hsw (.cells #[.int .u8 0] 26)) rfl rfl rfl rfl).setCell hsw _)⟩
                        | exact ⟨w9.heap.size, rfl, rfl, Lib.hid (Row.new w9 26 _), Lib.hid ((row_kept hb9 HR6.out rfl).alloc _), Lib.hid ((row_kept hb9 HT6.out rfl).alloc _), Lib.hid ((below_kept hb9 HB6.out rfl rfl rfl rfl).alloc (below_kept hb9 HB6.out rfl rfl rfl rfl).size _)⟩
                  case rest =>
                    obtain ⟨g7, rfl, rfl, HT7, HR7, HT8, HB7⟩ := hcut
                    have c0 := HR7.out.cell 0
                    have f0 := HR7.out.frozen 0
                    have c1 := HT8.out.cell 0
                    have hl1 := HT8.out.lt
                    have hl2' := HR7.out.lt
                    clear h0 hls hne0 hne1 hsw HR6 HB6 HT6 HP HX0 HX1 HGB HST HFR HNF HAR
                    by_cases hat3 : at_ = (i : Int) + 1
                    · have hv : (v != (i : Int) + 1) = false := by simpa using hfr.2 hat3
                      have hp := HPP.out
                      rw [if_pos hat3] at hp
                      obtain ⟨rfl, rfl⟩ := Prod.mk.inj hp
                      clear hp hfr HPP
                      go_wp2_with fail
                      refine (HW.out _).mono ?_
                      rintro e w' ⟨rfl, rfl⟩
                      go_wp2
                      go_roundg (a1.size - (i + 1))
                      case measure => omega
                      case rel => exact ⟨i + 1, false, 0, by simp, rfl, by omega, by omega, Lib.hid (fun h => by cases h), Lib.hid (HR7.out.set 0 _), Lib.hid (HB7.out.setCell (p := ⟨w2.heap.size, 0, none⟩) hB2.size _)⟩
                    · have hv : (v != (i : Int) + 1) = true := by
                        have h9 : ¬ v = (i : Int) + 1 := fun h => hat3 (hfr.1 h)
                        simpa using h9
                      have hp := HPP.out
                      rw [if_neg hat3] at hp
                      obtain ⟨hs2, rfl⟩ := Prod.mk.inj hp
                      have HS2 := Lib.hid hs2
                      clear hp hfr HPP hs2
                      go_wp2_with fail
                      refine (HW.out _).mono ?_
                      rintro e w' ⟨rfl, rfl⟩
                      go_wp2
                      go_roundg (a1.size - (i + 1))
                      case measure => omega
                      case rel => exact ⟨i + 1, true, s2, by simp, rfl, by omega, by omega, Lib.hid (fun _ => ⟨HT1.out, HS2.out, by have := HT3.out; omega⟩), Lib.hid (HR7.out.set 0 _), Lib.hid (HB7.out.setCell (p := ⟨w2.heap.size, 0, none⟩) hB2.size _)⟩
            · have hne : ¬ (i : Int) < (a1.size : Int) := by omega
              go_wp2
              go_returns
              exact ⟨rfl, HB.out⟩


/-! ### NumberPure: the step from the walk to the statement -/
namespace numberPure
theorem own : ownKnob Try.prog.godebug = none := by kernel_rfl
theorem laidOut : laidOutB Try.prog = true := by kernel_rfl
set_option maxRecDepth 100000 in
theorem lifted (os : Os) (started : os.Started) (H : Type) (enc : TypeId × Value → H) :
    ReturnsInHanded {} Try.checked os 7 .any (Rows.numberPureSpec.pre6 enc Try.prog Try.f7 Rows.numberPureRow.domain false) (Rows.numberPureSpec.post enc Try.prog Try.f7 false true false false) := by
  refine returnsInHanded_of_change (C := Try.checked) own started (by kernel_rfl) Try.func7
    (ChangeSpec.witness6 (enc := enc) (C := Try.checked) false ⟨#[], #[.agg #[.int .i64 0, .int .i64 0], .string ByteArray.empty, .int .u8 0], []⟩ 8 (by kernel_rfl) (by kernel_rfl) (by kernel_rfl) (by kernel_rfl)) ?_
  intro W base args ds gs before hval0 hW hcnd _
  have hval : ∀ (j : Nat) t v, Try.f7.params[j]? = some t → args[j]? = some v → Value.okWide Try.prog W .any base t v := hval0
  have hW' := hW
  obtain ⟨p, q, hA0, hV, rfl, hfz, hnd⟩ := hW
  have hA : DataW.TrodAll enc Try.prog W 0 (fun _ => true) true Try.f7.params.toList args.toList ds p := hA0
  rw [Try.params7] at hA hval
  obtain ⟨v0, vs0, d0, ds0, p0, q0, hargs, rfl, rfl, h0, r0⟩ := trodAll_cons hA
  obtain ⟨v1, vs1, d1, ds1, p1, q1, rfl, rfl, rfl, h1, r1⟩ := trodAll_cons r0
  obtain ⟨v2, vs2, d2, ds2, p2, q2, rfl, rfl, rfl, h2, r2⟩ := trodAll_cons r1
  obtain ⟨rfl, rfl, rfl⟩ := trodAll_nil r2
  obtain rfl : args = #[v0, v1, v2] := by cases args; simp_all
  obtain ⟨rfl, rfl⟩ := trodVars_none hV
  have k0 := h0
  have lt0 : ∀ x ∈ p0, x.block < W.heap.size := by obtain ⟨m, hm⟩ := k0; exact DataW.trod_lt m _ _ _ hm
  obtain ⟨a0, e0, rfl, ra0, re0⟩ := came_two Try.underlying37 Try.underlying3 (by kernel_rfl) (by kernel_rfl) (hval 0 37 v0 rfl rfl) h0
  obtain ⟨a1, rfl, rfl, rfl, w1⟩ := open_string Try.underlying9 (hval 1 9 v1 rfl rfl) h1
  obtain ⟨a2, rfl, rfl, rfl, w2⟩ := open_int Try.underlying5 (hval 2 5 v2 rfl rfl) h2
  clear hA0 hval0
  refine (walkNumberPure a0 e0 a1 a2 ra0 re0 w1 (bounds_u8 w2) W).mono fun e W' ⟨he, bel⟩ => ?_
  subst he
  exact ⟨_, rfl, _, _, _, [], _, [], hW', trodAll_mk1 (shut_bool Try.underlying4 _), (trodAll_cons_mk (Below.trod laidOut (by kernel_rfl) (of_decide_eq_true (by kernel_rfl)) k0 bel lt0) (trodAll_cons_mk (shut_string Try.underlying9 w1) (trodAll_cons_mk (shut_int Try.underlying5 w2) trodAll_mk0))), rfl, bel.frame _, fun h => by cases h⟩
theorem over : Rows.numberPureRow.holds Try.pinned (OpenSpec.ofChange Rows.numberPureSpec) :=
  OpenClaim.holds_of_wide 7 Try.f7 rfl rfl rfl rfl rfl rfl rfl ⟨rfl, rfl, rfl, rfl, rfl⟩ rfl rfl rfl rfl rfl (by kernel_rfl) Try.func7 (by kernel_rfl)
    (of_decide_eq_true (by kernel_rfl)) (by unfold Func.isWrapper; first | (rw [if_pos (by decide +kernel)]; kernel_rfl) | (rw [if_neg (by decide +kernel)]; exact ⟨rfl, rfl⟩))
    (fun os started H enc _ => lifted os started H enc)
/-- THE STATEMENT. -/
theorem proved : Rows.NumberPureSaid := over
end numberPure
end Go.Proofs.Ytpifhlifjmnfiaa
