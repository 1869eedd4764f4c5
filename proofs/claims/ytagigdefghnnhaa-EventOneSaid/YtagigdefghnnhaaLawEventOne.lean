/- Of every tag of a head and content of at most 200 bytes (of others the law asks only for the fixed answers): a primitive element brings about its head, each byte of its content, and its end; one around it a head ahead, and an exit behind. No condition but the form of the row. -/
import Derived.Test.YtagigdefghnnhaaEvAwake
import Derived.Test.YtagigdefghnnhaaEvOne
import Derived.Test.YtagigdefghnnhaaRows
import Derived.Deep.CutRange
import Derived.Deep.QuietTactic
import Derived.BigQuiet
import Derived.WalkKit
import Derived.ProofKit
import Derived.OpenShut
import Derived.ShutString
import Derived.ChangeOld
import Derived.Below
namespace Go.Proofs.Ytagigdefghnnhaa
open Go.ChangeShapes Go.WideShapes Go.ChangeAt Go.RowKit
open Go.ChangeMaps (open_string shut_string)
open Go.PlainAid
set_option linter.unusedVariables false
set_option maxRecDepth 100000 in
set_option maxHeartbeats 4000000 in
theorem walkEventOne (a0 : Int) (a1 : ByteArray) (b0 : -9223372036854775808 ≤ a0 ∧ a0 ≤ 9223372036854775807) (b1 : a1.size ≤ maxLen) (w : World) :
    Calls Try.prog 10 #[.int .i64 a0, .string a1] w fun e w' => e = .returned (.bool true) ∧ Below w.heap.size w w' := by
  by_cases ht : a0 < 0
  · clear b0 b1
    go_enter Try.func10, Try.ntmps10
    go_wp2_with fail
    refine (awake09_any _).mono ?_
    rintro e w1 ⟨rfl, hB1⟩
    go_wp2_with fail
    refine (awake09_any _).mono ?_
    rintro e' w9 ⟨rfl, hb⟩
    have hB2 := hB1.trans (hb.mono hB1.size)
    go_wp2
    go_returns
    exact ⟨rfl, hB2⟩
  · by_cases ht2 : (268435455 : Int) < a0
    · clear b0 b1
      go_enter Try.func10, Try.ntmps10
      go_wp2_with fail
      refine (awake09_any _).mono ?_
      rintro e w1 ⟨rfl, hB1⟩
      go_wp2_with fail
      refine (awake09_any _).mono ?_
      rintro e' w9 ⟨rfl, hb⟩
      have hB2 := hB1.trans (hb.mono hB1.size)
      go_wp2
      go_returns
      exact ⟨rfl, hB2⟩
    · by_cases hs : (200 : Int) < (a1.size : Int)
      · clear b0 b1
        go_enter Try.func10, Try.ntmps10
        go_wp2_with fail
        refine (awake09_any _).mono ?_
        rintro e w1 ⟨rfl, hB1⟩
        go_wp2_with fail
        refine (awake09_any _).mono ?_
        rintro e' w9 ⟨rfl, hb⟩
        have hB2 := hB1.trans (hb.mono hB1.size)
        go_wp2
        go_returns
        exact ⟨rfl, hB2⟩
      · obtain ⟨C, hC⟩ : ∃ C, bl a1 = C := ⟨_, rfl⟩
        have hCl : C.length = a1.size := by rw [← hC, bl_length]
        have hCB : IsB C := by rw [← hC]; exact bl_isB a1
        have hok : hdOk 0 a0 (C.length : Int) = true := by unfold hdOk idOk lenOk; simp; omega
        obtain ⟨b, hb⟩ : ∃ b, hpS 0 a0 false (a1.size : Int) ++ a1 = b := ⟨_, rfl⟩
        have hbl : bl b = hdPut 0 a0 false (C.length : Int) ++ C := by rw [← hb, bl_append, ← hCl, hpS_ok hok, bl_str (hdPut_isB hok), hC]
        have hbs : b.size ≤ 214 := by rw [← hb, ByteArray.size_append]; have := hpS_small 0 a0 false (a1.size : Int); omega
        have hbm : (hdPut 0 a0 false (C.length : Int) ++ C).length = b.size := by rw [← hbl, bl_length]
        have hok2 : hdOk 0 16 (b.size : Int) = true := by unfold hdOk idOk lenOk; simp; omega
        obtain ⟨b2, hb2⟩ : ∃ b2, hpS 0 16 true (b.size : Int) ++ b = b2 := ⟨_, rfl⟩
        have hbl2 : bl b2 = hdPut 0 16 true (b.size : Int) ++ (hdPut 0 a0 false (C.length : Int) ++ C) := by rw [← hb2, bl_append, hpS_ok hok2, bl_str (hdPut_isB hok2), hbl]
        have hbs2 : b2.size ≤ 300 := by rw [← hb2, ByteArray.size_append]; have := hpS_small 0 16 true (b.size : Int); omega
        obtain ⟨L, E, P, hw⟩ : ∃ L e p, evW b 1 = (L, e, p) := ⟨_, _, _, rfl⟩
        obtain ⟨M, E2, P2, hw2⟩ : ∃ L e p, evW b2 1 = (L, e, p) := ⟨_, _, _, rfl⟩
        have HC1 := Lib.hid (fun w => evSpec.whole_is b 1 (by omega) (by decide) hw w)
        have HC2 := Lib.hid (fun w => evSpec.whole_is b2 1 (by omega) (by decide) hw2 w)
        have HE1 := Lib.hid (fun w => refElement_any 0 a0 false 0 a1 (by omega) w)
        have HE2 := Lib.hid (fun w => refElement_any 0 16 true 0 b (by omega) w)
        rw [hb] at HE1
        rw [hb2] at HE2
        have h1 := one_prim hCB hok 1
        rw [← hbl] at h1
        have hw : evWhole 1 (bl b) = (L, E, P) := hw
        rw [h1] at hw
        simp only [Prod.mk.injEq] at hw
        obtain ⟨hLd, rfl, _⟩ := hw
        obtain ⟨h2, h3⟩ := one_around hCB hok hbm hok2 0
        rw [← hbl2] at h2 h3
        have hw2 : evWhole (0 + 1) (bl b2) = (M, E2, P2) := hw2
        rw [hw2] at h2 h3
        simp only at h2 h3
        subst h2
        rw [hLd] at h3
        have hLl : L.length = a1.size + 2 := by rw [← hLd, primL_length, hCl]
        have hMl : M.length = a1.size + 4 := by rw [h3]; simp [hLl]
        obtain ⟨q, hq⟩ : ∃ q, (hdPut 0 16 true (b.size : Int)).length = q := ⟨_, rfl⟩
        rw [hq] at h3
        have hM0 : ∃ p0 : Nat, ∀ h, M[0]'h = ⟨1, p0, 0, 16, true, (b.size : Int), 0⟩ := ⟨q - 1, fun h => by simp only [h3]; rfl⟩
        have hMi : ∀ i (h : i < L.length), ∃ h', M[i + 1]'h' = shiftE q L[i] := fun i h => ⟨by rw [hMl]; omega, by simp only [h3]; rw [List.getElem_append_left (by simp; exact h)]; simp⟩
        have hMe : ∃ p1 : Nat, ∀ h, M[a1.size + 3]'h = ⟨5, p1, 0, 0, false, 0, 0⟩ := ⟨q + b.size - 1, fun h => by simp only [h3]; rw [List.getElem_append_right (by simp; omega)]; simp [hLl]; rfl⟩
        have hs' : a1.size ≤ 200 := by omega
        have hat : ∀ i (h : i < L.length), 0 ≤ (L[i]).at_ ∧ (L[i]).at_ ≤ 300 := by
          intro i h
          have := primL_at _ a0 C L[i] (by rw [hLd]; exact List.getElem_mem h)
          rw [List.length_append] at hbm
          omega
        have hq16 : q ≤ 16 := by rw [← hq]; have := (hdPut_length (k := true) hok2).2; omega
        clear b0 b1 hC hCB hok hok2 hb hb2 hbl hbl2 h1 h3 hw2 hLd hbm hq hCl
        go_enter Try.func10, Try.ntmps10
        go_wp2_with fail
        refine (awake09_any _).mono ?_
        rintro e w1 ⟨rfl, hB1⟩
        go_wp2_with fail
        refine (HE1.out _).mono ?_
        rintro e' w2 ⟨rfl, hb⟩
        have hB2 := hB1.trans (hb.mono hB1.size)
        clear hb hB1
        go_wp2_with fail
        refine (HC1.out _).mono ?_
        rintro r w3 ⟨o1, n1, c1, rfl, he1, hn1, hb⟩
        have hB3 := hB2.trans (hb.mono hB2.size)
        have HL3 := Lib.hid he1
        clear hb he1 hB2
        subst hn1
        go_wp2_with fail
        refine (HE2.out _).mono ?_
        rintro e' w4 ⟨rfl, hb⟩
        have hB4 := hB3.trans (hb.mono hB3.size)
        have HL4 := Lib.hid (HL3.out.below hb)
        clear hb hB3 HL3
        go_wp2_with fail
        refine (HC2.out _).mono ?_
        rintro r w5 ⟨o2, n2, c2, rfl, he2, hn2, hb⟩
        have hB5 := hB4.trans (hb.mono hB4.size)
        have HL5 := Lib.hid (HL4.out.below hb)
        have HM5 := Lib.hid he2
        clear hb he2 hB4 HL4
        subst hn2
        obtain ⟨g1, d1, hv1, hd1, hdm1, _, hg1⟩ : ∃ g d, Value.slice o1 L.length c1 = .slice (some ⟨g, 0, none⟩) L.length d ∧ L.length ≤ d ∧ d ≤ maxLen ∧ w3.heap.size ≤ w3.heap.size ∧ g < w5.heap.size := by
          rcases HL5.out.shape with ⟨_, hh⟩ | ⟨g, c, q1, q2, q3, _, q4⟩
          · rw [hh] at hLl; simp at hLl
          · exact ⟨g, c, q1, q2, q3, Nat.le_refl _, q4⟩
        injection hv1 with v1 _ v3
        subst v1 v3
        obtain ⟨g2, d2, hv2, hd2, hdm2, hg2⟩ : ∃ g d, Value.slice o2 M.length c2 = .slice (some ⟨g, 0, none⟩) M.length d ∧ M.length ≤ d ∧ d ≤ maxLen ∧ g < w5.heap.size := by
          rcases HM5.out.shape with ⟨_, hh⟩ | ⟨g, c, q1, q2, q3, _, q4⟩
          · rw [hh] at hMl; simp at hMl
          · exact ⟨g, c, q1, q2, q3, q4⟩
        injection hv2 with v1 _ v3
        subst v1 v3
        rw [hLl] at hd1
        rw [hMl] at hd2
        have hx4 : ((a1.size : Int) + 4 != (a1.size : Int) + 2 + 2) = false := by simp; omega
        go_wp2_with fail
        go_loopg [73] (a1.size + 2) (fun gk iv wr => ∃ (i : Nat), iv = .int .i64 (i : Int) ∧ i ≤ a1.size + 2 ∧ a1.size + 2 - i ≤ gk ∧ Hid (Below w5.heap.size w5 wr))
        case atStart => exact ⟨0, rfl, by omega, by omega, Lib.hid (Below.refl _ _)⟩
        case round =>
          obtain ⟨i, rfl, hi, hgk, HB⟩ := hrel
          have hL := HL5.out.below HB.out
          have hM := HM5.out.below HB.out
          have hgw1 : g1 < wr.heap.size := Nat.lt_of_lt_of_le hg1 HB.out.size
          have hgw2 : g2 < wr.heap.size := Nat.lt_of_lt_of_le hg2 HB.out.size
          obtain ⟨p0, hM0⟩ := hM0
          have hM0 := hM0 (by omega)
          obtain ⟨m0, m1, m2, m3, m4, m5, m6⟩ := hM.evAt 0 (by omega) hM0
          simp only [Nat.zero_mul, Nat.zero_add] at m0 m1 m2 m3 m4 m5 m6
          by_cases hlt : i < a1.size + 2
          · have hlt2 : (i : Int) < (a1.size : Int) + 2 := by omega
            have hiL : i < L.length := by omega
            obtain ⟨hi', hMi1⟩ := hMi i hiL
            obtain ⟨h0', hMi0⟩ := hMi 0 (by omega)
            obtain ⟨⟨x0, x1, x2, x3, x4, x5, x6⟩, he⟩ : ∃ e, L[i] = e := ⟨_, rfl⟩
            obtain ⟨⟨z0, z1, z2, z3, z4, z5, z6⟩, hz⟩ : ∃ e, L[0]'(by omega) = e := ⟨_, rfl⟩
            have ha1 := hat i hiL
            have ha0 := hat 0 (by omega)
            rw [he] at hMi1 ha1
            rw [hz] at hMi0 ha0
            simp only at ha1 ha0
            replace hMi1 : M[i + 1] = ⟨x0, x1 + q, x2, x3, x4, x5, x6⟩ := hMi1
            replace hMi0 : M[0 + 1] = ⟨z0, z1 + q, z2, z3, z4, z5, z6⟩ := hMi0
            obtain ⟨y0, y1, y2, y3, y4, y5, y6⟩ := hL.evAt i hiL he
            obtain ⟨_, l1, _, _, _, _, _⟩ := hL.evAt 0 (by omega) hz
            obtain ⟨r0, r1, r2, r3, r4, r5, r6⟩ := hM.evAt (i + 1) hi' hMi1
            obtain ⟨_, s1, _, _, _, _, _⟩ := hM.evAt (0 + 1) h0' hMi0
            have hid : i < c1 := by omega
            have hid2 : i + 1 < c2 := by omega
            have hid0 : 0 < c1 := by omega
            have hid3 : 1 < c2 := by omega
            have hii : (i : Int) + 1 < (a1.size : Int) + 4 := by omega
            have hnl : (0 : Int) < (a1.size : Int) + 2 := by omega
            have hnl2 : (1 : Int) < (a1.size : Int) + 4 := by omega
            simp only [Nat.zero_mul, Nat.zero_add, Nat.one_mul, Nat.reduceAdd] at l1 s1
            clear hL hM hMi hat hz he hMi1 hMi0 hM0 hMe
            clear hi' h0'
            have hX : wr.alloc (.cells #[.int .i64 x0, .int .i64 x1, .int .i64 x2, .int .i64 x3, .bool x4, .int .i64 x5, .int .u8 x6] 42) = wr.alloc (evO ⟨x0, x1, x2, x3, x4, x5, x6⟩) := rfl
            have hY : (wr.alloc (evO ⟨x0, x1, x2, x3, x4, x5, x6⟩)).alloc (.cells #[.int .i64 x0, .int .i64 (x1 + q), .int .i64 x2, .int .i64 x3, .bool x4, .int .i64 x5, .int .u8 x6] 42) = (wr.alloc (evO ⟨x0, x1, x2, x3, x4, x5, x6⟩)).alloc (evO ⟨x0, x1 + q, x2, x3, x4, x5, x6⟩) := rfl
            have hb2 : Below wr.heap.size wr ((wr.alloc (evO ⟨x0, x1, x2, x3, x4, x5, x6⟩)).alloc (evO ⟨x0, x1 + q, x2, x3, x4, x5, x6⟩)) := ((Below.refl _ _).alloc (Nat.le_refl _) _).alloc (by simp) _
            have HB2 := Lib.hid (HB.out.trans (hb2.mono HB.out.size))
            have HRX : Hid (Row ((wr.alloc (evO ⟨x0, x1, x2, x3, x4, x5, x6⟩)).alloc (evO ⟨x0, x1 + q, x2, x3, x4, x5, x6⟩)) wr.heap.size 42 (evC ⟨x0, x1, x2, x3, x4, x5, x6⟩)) := Lib.hid ((Row.new wr 42 (evC ⟨x0, x1, x2, x3, x4, x5, x6⟩)).alloc _)
            have HRY : Hid (Row ((wr.alloc (evO ⟨x0, x1, x2, x3, x4, x5, x6⟩)).alloc (evO ⟨x0, x1 + q, x2, x3, x4, x5, x6⟩)) (wr.heap.size + 1) 42 (evC ⟨x0, x1 + q, x2, x3, x4, x5, x6⟩)) := Lib.hid (by
              have := Row.new (wr.alloc (evO ⟨x0, x1, x2, x3, x4, x5, x6⟩)) 42 (evC ⟨x0, x1 + q, x2, x3, x4, x5, x6⟩)
              rw [show (wr.alloc (evO ⟨x0, x1, x2, x3, x4, x5, x6⟩)).heap.size = wr.heap.size + 1 by simp] at this
              exact this)
            have ll1 : ((wr.alloc (evO ⟨x0, x1, x2, x3, x4, x5, x6⟩)).alloc (evO ⟨x0, x1 + q, x2, x3, x4, x5, x6⟩)).cell? ⟨g1, 1, none⟩ = some (.int .i64 z1) := (hb2.cell hgw1).trans l1
            have ss1 : ((wr.alloc (evO ⟨x0, x1, x2, x3, x4, x5, x6⟩)).alloc (evO ⟨x0, x1 + q, x2, x3, x4, x5, x6⟩)).cell? ⟨g2, 8, none⟩ = some (.int .i64 (z1 + q)) := (hb2.cell hgw2).trans s1
            have hsz : ((wr.alloc (evO ⟨x0, x1, x2, x3, x4, x5, x6⟩)).alloc (evO ⟨x0, x1 + q, x2, x3, x4, x5, x6⟩)).heap.size = wr.heap.size + 2 := by simp
            clear hb2
            go_upto_region 12 with fail
            clear hX hY y0 y1 y2 y3 y4 y5 y6 r0 r1 r2 r3 r4 r5 r6 l1 s1 m0 m1 m2 m3 m4 m5 m6 HB
            generalize (wr.alloc (evO ⟨x0, x1, x2, x3, x4, x5, x6⟩)).alloc (evO ⟨x0, x1 + q, x2, x3, x4, x5, x6⟩) = W at *
            generalize wr.heap.size = kx at *
            obtain ⟨y0, y1, y2, y3, y4, y5, y6⟩ := ev_facts HRX.out
            obtain ⟨r0, r1, r2, r3, r4, r5, r6⟩ := ev_facts HRY.out
            have hd1 : x1 + q - x1 = (q : Int) := by omega
            have hd2 : z1 + q - z1 = (q : Int) := by omega
            have hqq : (q : Int) ≤ 16 := by omega
            go_quiet (fail)
            have HB3 := Lib.hid (HB2.out.trans (draws_below' _ nq HB2.out.size))
            clear y0 y1 y2 y3 y4 y5 y6 r0 r1 r2 r3 r4 r5 r6 ll1 ss1 HRX HRY
            go_wp2_with fail
            go_roundg (a1.size + 2 - (i + 1))
            case measure => omega
            case rel => exact ⟨i + 1, by simp, by omega, by omega, HB3⟩
          · have hie : i = a1.size + 2 := by omega
            have hlt2 : ¬ (i : Int) < (a1.size : Int) + 2 := by omega
            obtain ⟨p1, hMe⟩ := hMe
            have hMe := hMe (by omega)
            obtain ⟨r0, _, _, _, _, _, _⟩ := hM.evAt (a1.size + 3) (by omega) hMe
            have hBel := hB5.trans (HB.out.mono hB5.size)
            have hid0 : 0 < c2 := by omega
            have hid2 : a1.size + 3 < c2 := by omega
            have hnl : (0 : Int) < (a1.size : Int) + 4 := by omega
            have hnl2 : (a1.size : Int) + 4 - 1 = ((a1.size + 3 : Nat) : Int) := by omega
            clear hL hM hMi hat hMe hM0
            go_wp2_with fail
            go_returns
            exact ⟨rfl, hBel⟩


/-! ### EventOne: the step from the walk to the statement -/
namespace eventOne
theorem own : ownKnob Try.prog.godebug = none := by kernel_rfl
set_option maxRecDepth 100000 in
theorem lifted (os : Os) (started : os.Started) (H : Type) (enc : TypeId × Value → H) :
    ReturnsInHanded {} Try.checked os 10 .any (Rows.eventOneSpec.pre6 enc Try.prog Try.f10 Rows.eventOneRow.domain false) (Rows.eventOneSpec.post enc Try.prog Try.f10 false true false false) := by
  refine returnsInHanded_of_change (C := Try.checked) own started (by kernel_rfl) Try.func10
    (ChangeSpec.witness6 (enc := enc) (C := Try.checked) false ⟨#[], #[.int .i64 0, .string ByteArray.empty], []⟩ 8 (by kernel_rfl) (by kernel_rfl) (by kernel_rfl) (by kernel_rfl)) ?_
  intro W base args ds gs before hval0 hW hcnd _
  have hval : ∀ (j : Nat) t v, Try.f10.params[j]? = some t → args[j]? = some v → Value.okWide Try.prog W .any base t v := hval0
  have hW' := hW
  obtain ⟨p, q, hA0, hV, rfl, hfz, hnd⟩ := hW
  have hA : DataW.TrodAll enc Try.prog W 0 (fun _ => true) true Try.f10.params.toList args.toList ds p := hA0
  rw [Try.params10] at hA hval
  obtain ⟨v0, vs0, d0, ds0, p0, q0, hargs, rfl, rfl, h0, r0⟩ := trodAll_cons hA
  obtain ⟨v1, vs1, d1, ds1, p1, q1, rfl, rfl, rfl, h1, r1⟩ := trodAll_cons r0
  obtain ⟨rfl, rfl, rfl⟩ := trodAll_nil r1
  obtain rfl : args = #[v0, v1] := by cases args; simp_all
  obtain ⟨rfl, rfl⟩ := trodVars_none hV
  obtain ⟨a0, rfl, rfl, rfl, w0⟩ := open_int Try.underlying3 (hval 0 3 v0 rfl rfl) h0
  obtain ⟨a1, rfl, rfl, rfl, w1⟩ := open_string Try.underlying9 (hval 1 9 v1 rfl rfl) h1
  clear hA0 hval0
  simp only [List.append_nil] at hW'
  refine (walkEventOne a0 a1 (bounds_i64 w0) w1 W).mono fun e W' ⟨he, bel⟩ => ?_
  subst he
  exact ⟨_, rfl, _, _, _, [], [], [], hW', trodAll_mk1 (shut_bool Try.underlying4 _), (trodAll_cons_mk (shut_int Try.underlying3 w0) (trodAll_cons_mk (shut_string Try.underlying9 w1) trodAll_mk0)), rfl, bel.frame _, fun h => by cases h⟩
theorem over : Rows.eventOneRow.holds Try.pinned (OpenSpec.ofChange Rows.eventOneSpec) :=
  OpenClaim.holds_of_wide 10 Try.f10 rfl rfl rfl rfl rfl rfl rfl ⟨rfl, rfl, rfl, rfl, rfl⟩ rfl rfl rfl rfl rfl (by kernel_rfl) Try.func10 (by kernel_rfl)
    (of_decide_eq_true (by kernel_rfl)) (by unfold Func.isWrapper; first | (rw [if_pos (by decide +kernel)]; kernel_rfl) | (rw [if_neg (by decide +kernel)]; exact ⟨rfl, rfl⟩))
    (fun os started H enc _ => lifted os started H enc)
/-- THE STATEMENT. -/
theorem proved : Rows.EventOneSaid := over
end eventOne
end Go.Proofs.Ytagigdefghnnhaa
