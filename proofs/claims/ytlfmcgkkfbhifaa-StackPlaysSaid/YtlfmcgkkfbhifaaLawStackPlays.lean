/- Of every depth and every list of calls (of more than 300 the law asks only for the fixed answers): just the elements are open, with just so many bytes left, that the reference says. No condition but the form of the row. -/
import Derived.Test.YtlfmcgkkfbhifaaStackAwake
import Derived.Test.YtlfmcgkkfbhifaaStackLaw
import Derived.Test.YtlfmcgkkfbhifaaStackPair
import Derived.Test.YtlfmcgkkfbhifaaRows
import Derived.WalkKit
import Derived.ProofKit
import Derived.OpenShut
import Derived.ShutString
import Derived.ChangeOld
import Derived.Below
import Derived.Carry
namespace Go.Proofs.Ytlfmcgkkfbhifaa
open Go.ChangeShapes Go.WideShapes Go.ChangeAt Go.RowKit
open Go.ChangeMaps (open_string shut_string)
set_option linter.unusedVariables false
set_option maxRecDepth 100000 in
set_option maxHeartbeats 4000000 in
theorem walkStackPlays (a0 : Int) (o1 : Option Addr) (c1 : Nat) (a1 : List (Int × Int)) (b0 : -9223372036854775808 ≤ a0 ∧ a0 ≤ 9223372036854775807) (lc1 : a1.length ≤ c1) (cm1 : c1 ≤ maxLen) (el1 : ∀ x ∈ a1, InI x.1 ∧ InI x.2) (w : World) (ca1 : Came w o1 (pvs a1)) :
    Calls Try.prog 3 #[.int .i64 a0, .slice o1 a1.length c1] w fun e w' => e = .returned (.bool true) ∧ Below w.heap.size w w' := by
  by_cases hin : a1.length ≤ 300
  · have g4 : (a1.length : Int) ≤ 300 := by omega
    have HC := Lib.hid ca1
    have HEL := Lib.hid el1
    clear ca1 el1 lc1 cm1
    go_enter Try.func3, Try.ntmps3
    go_wp2_with fail
    refine (awake08_any _).mono ?_
    rintro e w1 ⟨rfl, hB1⟩
    go_wp2_with fail
    refine (stSpec.new_on _ b0 hB1).mono ?_
    rintro e w2 ⟨k, F, rfl, h2, _, _⟩
    have H2 := Lib.hid h2
    clear h2 hB1
    go_wp2_with fail
    refine (refStkNew_any a0 _).mono ?_
    rintro e w3 ⟨g, rfl, hg, h3, hb3⟩
    have HP0 : Hid (StPair StAt w w3 k F (SS.new a0) g g (SS.new a0)) := Lib.hid ⟨H2.out.step stSpec hb3, h3, fun f => by have := stSpec.lt H2.out.at_ g f; omega, fun f => by have := stSpec.lt H2.out.at_ g f; omega, Nat.le_trans H2.out.bel.size hg, SS.new_ok a0⟩
    clear hb3 h3 H2 hg
    generalize SS.new a0 = s0 at HP0
    go_wp2
    go_loopg [5, 27] a1.length (fun gk sv jv wr => ∃ (j k b : Nat) (F : Nat → Prop) (s : SS), sv = .pointer (some ⟨k, 0, none⟩) ∧ jv = .int .i64 (j : Int) ∧ j ≤ a1.length ∧ a1.length - j ≤ gk ∧ Hid (StPair StAt w wr k F s g b s))
    case atStart => exact ⟨0, k, g, F, s0, rfl, rfl, by omega, by omega, HP0⟩
    case round =>
      clear HP0
      obtain ⟨j, k, b, F, s, rfl, rfl, hj, hgk, HP⟩ := hrel
      by_cases hlt : j < a1.length
      · have hlt2 : (j : Int) < (a1.length : Int) := by omega
        obtain ⟨ad, ho, _, hcell⟩ := (HC.out.below HP.out.on.bel).first (by rw [pvs_length]; omega)
        subst ho
        have hp := HEL.out a1[j] (List.getElem_mem hlt)
        have hg2 := pvs_get hlt
        have hc0 := hcell (2 * j) (.int .i64 a1[j].1) hg2.1
        have hc1 := hcell (2 * j + 1) (.int .i64 a1[j].2) hg2.2
        generalize a1[j] = act at *
        obtain ⟨kd, n⟩ := act
        have hp : InI kd ∧ InI n := hp
        have hc0 : wr.cell? (ad.add (j * 2)) = some (.int .i64 kd) := by rw [Nat.mul_comm]; exact hc0
        have hc1 : wr.cell? ⟨(ad.add (j * 2)).block, (ad.add (j * 2)).off + 1, none⟩ = some (.int .i64 n) := by rw [← add_field2]; exact hc1
        obtain ⟨hp0, hp1⟩ := hp
        clear hcell hg2
        by_cases c1 : kd = 1
        · subst c1
          go_wp2_with fail
          have HKN := Lib.hid (HP.out.aside stSpec (Nat.le_refl _))
          have HPW := Lib.hid (HP.out.below stSpec ((Below.refl wr.heap.size wr).alloc (Nat.le_refl _) (.cells #[.int .i64 1, .int .i64 n] 29)))
          have HKW := Lib.hid (Row.new wr 29 [.int .i64 1, .int .i64 n])
          have hW : wr.alloc (.cells [.int .i64 1, .int .i64 n].toArray 29) = wr.alloc (.cells #[.int .i64 1, .int .i64 n] 29) := rfl
          rw [hW] at HKW
          clear hW HP hc0 hc1
          generalize wr.alloc (.cells #[.int .i64 1, .int .i64 n] 29) = W at *
          generalize wr.heap.size = kb at *
          have qn : W.cell? ⟨kb, 1, none⟩ = some (.int .i64 n) := HKW.out.cell 1
          have HKD := Lib.hid (show Row W.drew kb 29 [.int .i64 1, .int .i64 n] from HKW.out)
          have HC1 := Lib.hid ((HPW.out.drew stSpec).enterC stSpec n hp1)
          have HR1 := Lib.hid ((HPW.out.drew stSpec).enterR stSpec n hp1)
          clear HKW HPW
          go_region_held3 (fun w' => w'.cell? ⟨kb, 1, none⟩ = some (.int .i64 n)) (first | exact y1 | exact x1 | exact qn) (first
            | (go_at_call 11; with_reducible refine (HC1.out).mono ?_; rintro e w5 ⟨rfl, hp5, hch5⟩
               have HK5 := Lib.hid (HKD.out.chg hch5 HKN.out)
               have x1 : w5.cell? ⟨kb, 1, none⟩ = some (.int .i64 n) := HK5.out.cell 1
               have HR2 := Lib.hid (hp5.enterR stSpec n hp1)
               clear hp5 hch5 HC1 HR1)
            | (go_at_call 12; with_reducible refine (HR1.out).mono ?_; rintro e w5 ⟨rfl, b5, hp5, hch5⟩
               have HK5 := Lib.hid (HKD.out.chg hch5 HKN.out)
               have x1 : w5.cell? ⟨kb, 1, none⟩ = some (.int .i64 n) := HK5.out.cell 1
               have HC2 := Lib.hid (hp5.enterC stSpec n hp1)
               clear hp5 hch5 HC1 HR1)
            | (go_at_call 12; with_reducible refine (HR2.out).mono ?_; rintro e w6 ⟨rfl, b5, hp6, hch6⟩
               have y1 : w6.cell? ⟨kb, 1, none⟩ = some (.int .i64 n) := (HK5.out.chg hch6 HKN.out).cell 1
               have HP6 := Lib.hid hp6
               clear hp6 hch6 HR2)
            | (go_at_call 11; with_reducible refine (HC2.out).mono ?_; rintro e w6 ⟨rfl, hp6, hch6⟩
               have y1 : w6.cell? ⟨kb, 1, none⟩ = some (.int .i64 n) := (HK5.out.chg hch6 HKN.out).cell 1
               have HP6 := Lib.hid hp6
               clear hp6 hch6 HC2))
          all_goals
            clear qn x1 y1 HK5 HKD HKN
            obtain ⟨oa6, c6, q6⟩ := HP6.out.list
            have HQ1 := Lib.hid (HP6.out.depthQ stSpec)
            have HQ2 := Lib.hid (HP6.out.leftQ stSpec)
            have HQ3 := Lib.hid (HP6.out.lastQ stSpec)
            have hno : g = g := rfl
            obtain ⟨s6, hs6⟩ : ∃ s6, s.enter n = s6 := ⟨_, rfl⟩
            rw [hs6] at HP6 HQ1 HQ2 HQ3 q6
            clear hs6
            go_wp2_with fail
            generalize s6.st.length = len6 at *
            generalize s6.last = la6 at *
            go_quiet ((first | (go_at_call 18; exact Calls.quiet_of (HQ1.out _)) | (go_at_call 19; exact Calls.quiet_of (HQ2.out _)) | (go_at_call 20; exact Calls.quiet_of (HQ3.out _))))
            have HP7 := Lib.hid (HP6.out.below stSpec (draws_below w6 nq))
            clear HP6 HQ1 HQ2 HQ3 q6
            go_wp2
            go_roundg (a1.length - (j + 1))
            case measure => omega
            case rel => exact ⟨j + 1, k, b5, F, s6, rfl, by simp, by omega, by omega, HP7⟩
        · by_cases c2 : kd = 2
          · subst c2
            clear c1
            go_wp2_with fail
            have HKN := Lib.hid (HP.out.aside stSpec (Nat.le_refl _))
            have HPW := Lib.hid (HP.out.below stSpec ((Below.refl wr.heap.size wr).alloc (Nat.le_refl _) (.cells #[.int .i64 2, .int .i64 n] 29)))
            have HKW := Lib.hid (Row.new wr 29 [.int .i64 2, .int .i64 n])
            have hW : wr.alloc (.cells [.int .i64 2, .int .i64 n].toArray 29) = wr.alloc (.cells #[.int .i64 2, .int .i64 n] 29) := rfl
            rw [hW] at HKW
            clear hW HP hc0 hc1
            generalize wr.alloc (.cells #[.int .i64 2, .int .i64 n] 29) = W at *
            generalize wr.heap.size = kb at *
            clear HKW HKN
            go_wp2_with fail
            refine (HPW.out.takeC stSpec).mono ?_
            rintro e w5 ⟨rfl, hp5, _⟩
            have HP5 := Lib.hid hp5
            clear hp5 HPW
            go_wp2_with fail
            refine (HP5.out.takeR stSpec).mono ?_
            rintro e w6 ⟨rfl, b5, hp6, _⟩
            have HP6 := Lib.hid hp6
            clear hp6 HP5
            obtain ⟨oa6, c6, q6⟩ := HP6.out.list
            have HQ1 := Lib.hid (HP6.out.depthQ stSpec)
            have HQ2 := Lib.hid (HP6.out.leftQ stSpec)
            have HQ3 := Lib.hid (HP6.out.lastQ stSpec)
            have hno : g = g := rfl
            obtain ⟨s6, hs6⟩ : ∃ s6, s.take = s6 := ⟨_, rfl⟩
            rw [hs6] at HP6 HQ1 HQ2 HQ3 q6
            clear hs6
            go_wp2_with fail
            generalize s6.st.length = len6 at *
            generalize s6.last = la6 at *
            go_quiet ((first | (go_at_call 18; exact Calls.quiet_of (HQ1.out _)) | (go_at_call 19; exact Calls.quiet_of (HQ2.out _)) | (go_at_call 20; exact Calls.quiet_of (HQ3.out _))))
            have HP7 := Lib.hid (HP6.out.below stSpec (draws_below w6 nq))
            clear HP6 HQ1 HQ2 HQ3 q6
            go_wp2
            go_roundg (a1.length - (j + 1))
            case measure => omega
            case rel => exact ⟨j + 1, k, b5, F, s6, rfl, by simp, by omega, by omega, HP7⟩
          · by_cases c3 : kd = 3
            · subst c3
              clear c1 c2
              go_wp2_with fail
              have HKN := Lib.hid (HP.out.aside stSpec (Nat.le_refl _))
              have HPW := Lib.hid (HP.out.below stSpec ((Below.refl wr.heap.size wr).alloc (Nat.le_refl _) (.cells #[.int .i64 3, .int .i64 n] 29)))
              have HKW := Lib.hid (Row.new wr 29 [.int .i64 3, .int .i64 n])
              have hW : wr.alloc (.cells [.int .i64 3, .int .i64 n].toArray 29) = wr.alloc (.cells #[.int .i64 3, .int .i64 n] 29) := rfl
              rw [hW] at HKW
              clear hW HP hc0 hc1
              generalize wr.alloc (.cells #[.int .i64 3, .int .i64 n] 29) = W at *
              generalize wr.heap.size = kb at *
              clear HKW HKN
              go_wp2_with fail
              refine (HPW.out.leaveC stSpec).mono ?_
              rintro e w5 ⟨rfl, hp5, _⟩
              have HP5 := Lib.hid hp5
              clear hp5 HPW
              go_wp2_with fail
              refine (HP5.out.leaveR stSpec).mono ?_
              rintro e w6 ⟨rfl, b5, hp6, _⟩
              have HP6 := Lib.hid hp6
              clear hp6 HP5
              obtain ⟨oa6, c6, q6⟩ := HP6.out.list
              have HQ1 := Lib.hid (HP6.out.depthQ stSpec)
              have HQ2 := Lib.hid (HP6.out.leftQ stSpec)
              have HQ3 := Lib.hid (HP6.out.lastQ stSpec)
              have hno : g = g := rfl
              obtain ⟨s6, hs6⟩ : ∃ s6, s.leave = s6 := ⟨_, rfl⟩
              rw [hs6] at HP6 HQ1 HQ2 HQ3 q6
              clear hs6
              go_wp2_with fail
              generalize s6.st.length = len6 at *
              generalize s6.last = la6 at *
              go_quiet ((first | (go_at_call 18; exact Calls.quiet_of (HQ1.out _)) | (go_at_call 19; exact Calls.quiet_of (HQ2.out _)) | (go_at_call 20; exact Calls.quiet_of (HQ3.out _))))
              have HP7 := Lib.hid (HP6.out.below stSpec (draws_below w6 nq))
              clear HP6 HQ1 HQ2 HQ3 q6
              go_wp2
              go_roundg (a1.length - (j + 1))
              case measure => omega
              case rel => exact ⟨j + 1, k, b5, F, s6, rfl, by simp, by omega, by omega, HP7⟩
            · by_cases c4 : kd = 4
              · subst c4
                clear c1 c2 c3
                go_wp2_with fail
                have HKN := Lib.hid (HP.out.aside stSpec (Nat.le_refl _))
                have HPW := Lib.hid (HP.out.below stSpec ((Below.refl wr.heap.size wr).alloc (Nat.le_refl _) (.cells #[.int .i64 4, .int .i64 n] 29)))
                have HKW := Lib.hid (Row.new wr 29 [.int .i64 4, .int .i64 n])
                have hW : wr.alloc (.cells [.int .i64 4, .int .i64 n].toArray 29) = wr.alloc (.cells #[.int .i64 4, .int .i64 n] 29) := rfl
                rw [hW] at HKW
                clear hW HP hc0 hc1
                generalize wr.alloc (.cells #[.int .i64 4, .int .i64 n] 29) = W at *
                generalize wr.heap.size = kb at *
                clear HKW HKN
                go_wp2_with fail
                refine (HPW.out.copyC stSpec).mono ?_
                rintro e w5 ⟨k', F', rfl, ho5, hp5, hd5⟩
                have HP5 := Lib.hid hp5
                have HD := Lib.hid hd5
                have HO5 := Lib.hid ho5
                have HG := Lib.hid HPW.out.dg
                have HB := Lib.hid HPW.out.db
                clear hp5 HPW ho5 hd5
                go_wp2_with fail
                refine (stSpec.enter_on 0 HO5.out (by unfold InI; decide) rfl rfl).mono ?_
                rintro e w51 ⟨rfl, ho, hch⟩
                have HP51 := Lib.hid (HP5.out.skip stSpec hch ho.bel HD.out HG.out HB.out)
                have HO51 := Lib.hid ho
                clear ho hch HO5 HP5
                go_wp2_with fail
                refine (stSpec.leave_on HO51.out rfl rfl).mono ?_
                rintro e w52 ⟨rfl, ho, hch⟩
                have HP52 := Lib.hid (HP51.out.skip stSpec hch ho.bel HD.out HG.out HB.out)
                have HO52 := Lib.hid ho
                clear ho hch HO51 HP51
                go_wp2_with fail
                refine (stSpec.take_on HO52.out rfl rfl).mono ?_
                rintro e w6 ⟨rfl, ho, hch⟩
                have HP6 := Lib.hid (HP52.out.skip stSpec hch ho.bel HD.out HG.out HB.out)
                clear ho hch HO52 HP52
                obtain ⟨oa6, c6, q6⟩ := HP6.out.list
                have HQ1 := Lib.hid (HP6.out.depthQ stSpec)
                have HQ2 := Lib.hid (HP6.out.leftQ stSpec)
                have HQ3 := Lib.hid (HP6.out.lastQ stSpec)
                have hno : g = g := rfl
                obtain ⟨s6, hs6⟩ : ∃ s6, s = s6 := ⟨_, rfl⟩
                rw [hs6] at HP6 HQ1 HQ2 HQ3 q6
                clear hs6
                go_wp2_with fail
                generalize s6.st.length = len6 at *
                generalize s6.last = la6 at *
                go_quiet ((first | (go_at_call 18; exact Calls.quiet_of (HQ1.out _)) | (go_at_call 19; exact Calls.quiet_of (HQ2.out _)) | (go_at_call 20; exact Calls.quiet_of (HQ3.out _))))
                have HP7 := Lib.hid (HP6.out.below stSpec (draws_below w6 nq))
                clear HP6 HQ1 HQ2 HQ3 q6
                go_wp2
                go_roundg (a1.length - (j + 1))
                case measure => omega
                case rel => exact ⟨j + 1, k', b, F', s6, rfl, by simp, by omega, by omega, HP7⟩
              · have e1 : (kd == 1) = false := by simpa using c1
                have e2 : (kd == 2) = false := by simpa using c2
                have e3 : (kd == 3) = false := by simpa using c3
                have e4 : (kd == 4) = false := by simpa using c4
                clear c1 c2 c3 c4
                go_wp2_with fail
                have HKN := Lib.hid (HP.out.aside stSpec (Nat.le_refl _))
                have HP6 := Lib.hid (HP.out.below stSpec ((Below.refl wr.heap.size wr).alloc (Nat.le_refl _) (.cells #[.int .i64 kd, .int .i64 n] 29)))
                have HKW := Lib.hid (Row.new wr 29 [.int .i64 kd, .int .i64 n])
                have hW : wr.alloc (.cells [.int .i64 kd, .int .i64 n].toArray 29) = wr.alloc (.cells #[.int .i64 kd, .int .i64 n] 29) := rfl
                rw [hW] at HKW
                clear hW HP hc0 hc1
                generalize wr.alloc (.cells #[.int .i64 kd, .int .i64 n] 29) = W at *
                generalize wr.heap.size = kb at *
                clear HKW HKN e1 e2 e3 e4
                obtain ⟨oa6, c6, q6⟩ := HP6.out.list
                have HQ1 := Lib.hid (HP6.out.depthQ stSpec)
                have HQ2 := Lib.hid (HP6.out.leftQ stSpec)
                have HQ3 := Lib.hid (HP6.out.lastQ stSpec)
                have hno : g = g := rfl
                obtain ⟨s6, hs6⟩ : ∃ s6, s = s6 := ⟨_, rfl⟩
                rw [hs6] at HP6 HQ1 HQ2 HQ3 q6
                clear hs6
                go_wp2_with fail
                generalize s6.st.length = len6 at *
                generalize s6.last = la6 at *
                go_quiet ((first | (go_at_call 18; exact Calls.quiet_of (HQ1.out _)) | (go_at_call 19; exact Calls.quiet_of (HQ2.out _)) | (go_at_call 20; exact Calls.quiet_of (HQ3.out _))))
                have HP7 := Lib.hid (HP6.out.below stSpec (draws_below W nq))
                clear HP6 HQ1 HQ2 HQ3 q6
                go_wp2
                go_roundg (a1.length - (j + 1))
                case measure => omega
                case rel => exact ⟨j + 1, k, b, F, s6, rfl, by simp, by omega, by omega, HP7⟩
      · have hlt2 : ¬ (j : Int) < (a1.length : Int) := by omega
        have hB := HP.out.on.bel
        go_wp2
        go_ret
        exact ⟨rfl, hB⟩
  · have hw : (300 : Int) < a1.length := by omega
    clear hin el1 ca1
    go_enter Try.func3, Try.ntmps3
    go_wp2_with fail
    refine (awake08_any _).mono ?_
    rintro e w1 ⟨rfl, hB1⟩
    go_wp2_with fail
    refine (awake08_any _).mono ?_
    rintro e w2 ⟨rfl, hb⟩
    go_wp2
    go_returns
    exact ⟨rfl, hB1.trans (hb.mono hB1.size)⟩


/-! ### StackPlays: the step from the walk to the statement -/
namespace stackPlays
theorem own : ownKnob Try.prog.godebug = none := by kernel_rfl
theorem laidOut : laidOutB Try.prog = true := by kernel_rfl
set_option maxRecDepth 100000 in
theorem lifted (os : Os) (started : os.Started) (H : Type) (enc : TypeId × Value → H) :
    ReturnsInHanded {} Try.checked os 3 .any (Rows.stackPlaysSpec.pre6 enc Try.prog Try.f3 Rows.stackPlaysRow.domain false) (Rows.stackPlaysSpec.post enc Try.prog Try.f3 false true false false) := by
  refine returnsInHanded_of_change (C := Try.checked) own started (by kernel_rfl) Try.func3
    (ChangeSpec.witness6 (enc := enc) (C := Try.checked) false ⟨#[], #[.int .i64 0, .slice none 0 0], []⟩ 8 (by kernel_rfl) (by kernel_rfl) (by kernel_rfl) (by kernel_rfl)) ?_
  intro W base args ds gs before hval0 hW hcnd _
  have hval : ∀ (j : Nat) t v, Try.f3.params[j]? = some t → args[j]? = some v → Value.okWide Try.prog W .any base t v := hval0
  have hW' := hW
  obtain ⟨p, q, hA0, hV, rfl, hfz, hnd⟩ := hW
  have hA : DataW.TrodAll enc Try.prog W 0 (fun _ => true) true Try.f3.params.toList args.toList ds p := hA0
  rw [Try.params3] at hA hval
  obtain ⟨v0, vs0, d0, ds0, p0, q0, hargs, rfl, rfl, h0, r0⟩ := trodAll_cons hA
  obtain ⟨v1, vs1, d1, ds1, p1, q1, rfl, rfl, rfl, h1, r1⟩ := trodAll_cons r0
  obtain ⟨rfl, rfl, rfl⟩ := trodAll_nil r1
  obtain rfl : args = #[v0, v1] := by cases args; simp_all
  obtain ⟨rfl, rfl⟩ := trodVars_none hV
  obtain ⟨a0, rfl, rfl, rfl, w0⟩ := open_int Try.underlying3 (hval 0 3 v0 rfl rfl) h0
  obtain ⟨o1, len1, c1, rfl⟩ := okWide_slice Try.underlying22 (hval 1 22 v1 rfl rfl)
  have k1 := h1
  have lt1 : ∀ x ∈ p1, x.block < W.heap.size := by obtain ⟨m, hm⟩ := k1; exact DataW.trod_lt m _ _ _ hm
  obtain ⟨a1, rfl, lc1, cm1, ca1, el1⟩ := (came_pairs Try.underlying22 Try.underlying29 (by kernel_rfl) rfl rfl (by kernel_rfl) (by kernel_rfl) Try.underlying3 Try.underlying3 h1)
  clear hA0 hval0
  refine (walkStackPlays a0 o1 c1 a1 (bounds_i64 w0) lc1 cm1 el1 W ca1).mono fun e W' ⟨he, bel⟩ => ?_
  subst he
  exact ⟨_, rfl, _, _, _, [], _, [], hW', trodAll_mk1 (shut_bool Try.underlying4 _), (trodAll_cons_mk (shut_int Try.underlying3 w0) (trodAll_cons_mk (Below.trod laidOut (by kernel_rfl) (of_decide_eq_true (by kernel_rfl)) k1 bel lt1) trodAll_mk0)), rfl, bel.frame _, fun h => by cases h⟩
theorem over : Rows.stackPlaysRow.holds Try.pinned (OpenSpec.ofChange Rows.stackPlaysSpec) :=
  OpenClaim.holds_of_wide 3 Try.f3 rfl rfl rfl rfl rfl rfl rfl ⟨rfl, rfl, rfl, rfl, rfl⟩ rfl rfl rfl rfl rfl (by kernel_rfl) Try.func3 (by kernel_rfl)
    (of_decide_eq_true (by kernel_rfl)) (by unfold Func.isWrapper; first | (rw [if_pos (by decide +kernel)]; kernel_rfl) | (rw [if_neg (by decide +kernel)]; exact ⟨rfl, rfl⟩))
    (fun os started H enc _ => lifted os started H enc)
/-- THE STATEMENT. -/
theorem proved : Rows.StackPlaysSaid := over
end stackPlays
end Go.Proofs.Ytlfmcgkkfbhifaa
