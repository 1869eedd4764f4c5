/- The walk of WindowGives, given what a window does. -/
import Derived.Test.YtlaeoacaihooiaaWinAwake
import Derived.Test.YtlaeoacaihooiaaRefWin
import Derived.Test.YtlaeoacaihooiaaCameTwo
import Derived.Deep.QuietTactic
import Derived.BigQuiet
import Derived.Deep.RegionHeld3
namespace Go.Proofs.Ytlaeoacaihooiaa
open Go.RowKit Go.PlainAid
set_option linter.unusedVariables false
set_option maxRecDepth 100000 in
set_option maxHeartbeats 16000000 in
theorem lawWindowGives {WA : WinPred} (H : WinSpec WA) (a0 e0 : Int) (a1 : ByteArray) (o2 : Option Addr) (c2 : Nat) (a2 : List (Int × Int)) (ra0 : InI a0) (re0 : InI e0) (b1 : a1.size ≤ maxLen) (lc2 : a2.length ≤ c2) (cm2 : c2 ≤ maxLen) (el2 : ∀ x ∈ a2, InI x.1 ∧ InI x.2) (w : World) (ca2 : Came w o2 (pvs a2)) :
    Calls Try.prog 3 #[.agg #[.int .i64 a0, .int .i64 e0], .string a1, .slice o2 a2.length c2] w fun e w' => e = .returned (.bool true) ∧ Below w.heap.size w w' := by
  have HA := Lib.hid (awake04_any H)
  have m2 : a2.length ≤ maxLen := by omega
  have hW0 : Below w.heap.size w (w.alloc (.cells #[.int .i64 a0, .int .i64 e0] 22)) := (Below.refl _ _).alloc (Nat.le_refl _) _
  cases hgr : great4 a1.size a2.length
  case true =>
    have HG := Lib.hid (fun w => great04_any a1 o2 _ c2 w b1 m2 true hgr)
    clear hgr
    go_enter Try.func3, Try.ntmps3
    go_wp2_with fail
    refine (HA.out _).mono ?_
    rintro e w1 ⟨rfl, hB1⟩
    have hB1 := hW0.trans (hB1.mono hW0.size)
    go_wp2_with fail
    refine (HG.out _).mono ?_
    rintro e w2 ⟨rfl, rfl⟩
    go_wp2_with fail
    refine (HA.out _).mono ?_
    rintro e w2 ⟨rfl, hB2⟩
    have hB2 := hB1.trans (hB2.mono hB1.size)
    go_wp2_with fail
    go_ret
    exact ⟨rfl, hB2⟩
  case false =>
    obtain ⟨z1, z2⟩ := great4_no hgr
    have HG := Lib.hid (fun w => great04_any a1 o2 _ c2 w b1 m2 false hgr)
    clear hgr
    have HEL := Lib.hid el2
    have HC1 := Lib.hid ca2
    have HH := Lib.hid H
    have HN := Lib.hid (fun ob cb w' (hc : Came w' ob (pvs a2)) => srcNew_any a1 a2 ob cb w' (by omega) hc (by omega))
    have HX0 := Lib.hid (Row.new w 22 [.int .i64 a0, .int .i64 e0])
    clear el2 ca2 H
    go_enter Try.func3, Try.ntmps3
    go_wp2_with fail
    refine (HA.out _).mono ?_
    rintro e w1 ⟨rfl, hB1⟩
    have HX1 := Lib.hid (HX0.out.below hB1 HX0.out.lt)
    have hB1 := hW0.trans (hB1.mono hW0.size)
    go_wp2_with fail
    refine (HG.out _).mono ?_
    rintro e w2 ⟨rfl, rfl⟩
    clear HX0 hW0 HG
    have HC3 := Lib.hid ((HC1.out.below hB1).below ((Below.refl _ w1).alloc (Nat.le_refl _) (.cells #[] 39)))
    have HB3a := Lib.hid hB1
    clear hB1
    go_wp2_with (at_builtin; refine wpList_append_steps rfl _ _ rfl w1.heap.size rfl (made_steps w1) (by simp) a2 o2 a2.length c2 rfl rfl (by omega) HC3.out ?_)
    intro ob3 cb3 w3 hc3 hg3
    have hBb3 : Below w1.heap.size w1 w3 := grown_to_below ((Below.refl _ w1).alloc (Nat.le_refl _) _) (Nat.le_refl _) hg3
    have hB3 := HB3a.out.trans (hBb3.mono HB3a.out.size)
    have hsz3 : Hid (w1.heap.size ≤ w3.heap.size) := Lib.hid hBb3.size
    have HCx3 := Lib.hid hc3
    have HX3 := Lib.hid (HX1.out.below hBb3 HX1.out.lt)
    clear hg3 HB3a hc3 HC3 hBb3
    go_wp2_with fail
    refine (HN.out _ _ _ HCx3.out).mono ?_
    rintro e w3s ⟨g3, rfl, hg3, hs3, hBs3⟩
    have hgl3 : g3 < w3s.heap.size := hs3.lt
    have HS3 := Lib.hid hs3
    have hgw3 : w3.heap.size ≤ g3 := hg3
    have hgx3 : Hid (w1.heap.size ≤ g3) := Lib.hid (Nat.le_trans hsz3.out hg3)
    have hg3 : w.heap.size ≤ g3 := Nat.le_trans hB3.size hg3
    have HX4 := Lib.hid (HX3.out.below hBs3 HX3.out.lt)
    have hB3s := hB3.trans (hBs3.mono hB3.size)
    clear hs3 hBs3 HCx3
    clear HX1 HX3
    have HX4' := HX4
    have x0 : w3s.cell? ⟨w.heap.size, 0, none⟩ = some (.int .i64 a0) := HX4.out.cell 0
    have x1 : w3s.cell? ⟨w.heap.size, 1, none⟩ = some (.int .i64 e0) := HX4.out.cell 1
    go_wp2_with fail
    refine (HH.out.new a0 e0 g3 a1 a2 _ HS3.out ra0 re0).mono ?_
    rintro e w5 ⟨k, F, rfl, hF, hwa, hB5⟩
    have HWA5 := Lib.hid hwa
    have HSS5 := Lib.hid (HS3.out.below hB5)
    have HX5 := Lib.hid (HX4.out.below hB5 HX4.out.lt)
    have hFw : Hid (∀ i, F i → w.heap.size ≤ i) := Lib.hid (fun i hi => by
      rcases hF i hi with rfl | h1
      · exact hg3
      · have := hB3s.size; omega)
    have hB5 := hB3s.trans (hB5.mono hB3s.size)
    clear hwa hF HS3 HX4 HX4' x0 x1 hB3s
    go_wp2_with fail
    refine (calls_any g3 _ _ _ _ _ _ HSS5.out).mono ?_
    rintro e w6 ⟨rfl, rfl⟩
    have x0 : w5.cell? ⟨w.heap.size, 0, none⟩ = some (.int .i64 a0) := HX5.out.cell 0
    have x1 : w5.cell? ⟨w.heap.size, 1, none⟩ = some (.int .i64 e0) := HX5.out.cell 1
    obtain ⟨R, hR⟩ : ∃ R, runM a1 a2 (clampI a0 1 65536) (clampI e0 0 1000).toNat (fuel a1 a2 0) 0 0 0 = R := ⟨_, rfl⟩
    have HRUN := Lib.hid (refRun_any a0 e0 a1 a2 o2 c2 w5 (HC1.out.below hB5) (by omega) (by omega) HEL.out R hR)
    have HR0 : Hid (WS.start.run a1 a2 (clampI a0 1 65536) (clampI e0 0 1000).toNat = R) := Lib.hid hR
    clear hR
    have HOK := HH.out.ok HWA5.out
    generalize clampI a0 1 65536 = m at *
    generalize (clampI e0 0 1000).toNat = z at *
    obtain ⟨hok0, hm1, hm2, hzz⟩ := HOK
    have hRt : R.1 ≤ a1.size := by rw [← HR0.out]; exact (WS.run_ge hm1 hok0).2
    clear hok0
    go_wp2_with fail
    refine HRUN.out.mono ?_
    rintro e w6 ⟨rfl, hB6⟩
    have HWA6 := Lib.hid (HH.out.below HWA5.out hB6)
    have hB6 := hB5.trans (hB6.mono hB5.size)
    have HWA7 := Lib.hid (HH.out.below HWA6.out ((Below.refl _ w6).alloc (Nat.le_refl _) (.cells #[.string (a1.extract 0 R.1), .int .i64 R.2.2, .int .i64 (R.2.1 : Int)] 32)))
    have HFL := Lib.hid (Row.new w6 32 [.string (a1.extract 0 R.1), .int .i64 R.2.2, .int .i64 (R.2.1 : Int)])
    have hB7 := hB6.alloc hB6.size (.cells #[.string (a1.extract 0 R.1), .int .i64 R.2.2, .int .i64 (R.2.1 : Int)] 32)
    have hkf : ∀ i, F i → i < w6.heap.size := HH.out.lt HWA6.out
    have HKF := Lib.hid hkf
    clear hkf HWA5 HWA6 HRUN HX5 x0 x1 hB5 HSS5
    go_wp2_with fail
    have hbz : (a1.extract 0 R.1).size = R.1 := by rw [ByteArray.size_extract]; omega
    have hbt : ∀ i, i < R.1 → bt (a1.extract 0 R.1) i = bt a1 i := fun i hi => bt_front a1 hRt hi
    generalize a1.extract 0 R.1 = Bs at *
    have HBZ := Lib.hid hbz
    have HBT := Lib.hid hbt
    have hb0 : Bs.size ≤ 1000 := by omega
    clear hbz hbt hRt
    generalize w6.alloc (.cells #[.string Bs, .int .i64 R.2.2, .int .i64 (R.2.1 : Int)] 32) = w7 at *
    have hkw : w.heap.size ≤ w6.heap.size := hB6.size
    generalize w6.heap.size = kf at *
    go_loopg [53] R.1 (fun gn iv wr => ∃ (i : Nat) (s : WS), i ≤ R.1 ∧ gn = R.1 - i ∧ iv = .int .i64 (i : Int) ∧ Hid (WA wr k g3 F a1 a2 m z s) ∧ Hid (s.at_ = i) ∧ Hid (s.run a1 a2 m z = R) ∧ Hid (Row wr kf 32 [.string Bs, .int .i64 R.2.2, .int .i64 (R.2.1 : Int)]) ∧ Below w.heap.size w wr)
    case atStart => exact ⟨0, WS.start, by omega, by omega, rfl, HWA7, Lib.hid rfl, HR0, HFL, hB7⟩
    case round =>
      clear HWA7 HR0 HFL hB7
      obtain ⟨i, s, hi, rfl, rfl, HWA, HAT, HRN, HFL, hBe⟩ := hrel
      have hok := (HH.out.ok HWA.out).1
      have hnc := WS.next_cases hm1 hok
      rw [HRN.out, HAT.out] at hnc
      have hpa : (s.peek a1 a2 m z).at_ = i := (WS.peek_at s).trans HAT.out
      have hpr : (s.peek a1 a2 m z).take.run a1 a2 m z = R := by rw [WS.take_run, WS.peek_run hm1 hok, HRN.out]
      have HPE : Hid (s.peek a1 a2 m z = s.peek a1 a2 m z) := Lib.hid rfl
      by_cases hlr : i < R.1
      · have hlt : i < Bs.size := by have := HBZ.out; omega
        have hpg : (s.peek a1 a2 m z).at_ < (s.peek a1 a2 m z).g := by
          rcases hnc with h | h
          · exact h.2
          · omega
        have HNX := Lib.hid (HH.out.next_is (p := s.peek a1 a2 m z) (s' := (s.peek a1 a2 m z).take) (b := bt a1 i) (c := 0) HWA.out rfl (by rw [WS.byte_on hpg, hpa]) (WS.code_on hpg) rfl (by omega) (by omega) HEL.out hBe hFw.out)
        have HTA : Hid ((s.peek a1 a2 m z).take.at_ = i + 1) := Lib.hid (by rw [WS.take_at hpg, hpa])
        have HPR := Lib.hid hpr
        have hx : ((Bs[i]'hlt).toNat : Int) = bt a1 i := by rw [get_bt _ _ hlt]; exact HBT.out i (by have := HBZ.out; omega)
        have hxb : 0 ≤ bt a1 i ∧ bt a1 i ≤ 255 := ⟨bt_nonneg _ _, bt_le _ _⟩
        generalize (s.peek a1 a2 m z).take = s' at *
        generalize bt a1 i = x at *
        obtain ⟨hx0, hx1⟩ := hxb
        clear hnc hpa hpr hpg HPE HWA hok
        go_wp2_with fail
        refine HNX.out.mono ?_
        rintro e w8 ⟨rfl, hwa, hB8, hc8⟩
        have HWA8 := Lib.hid hwa
        have HFL8 := Lib.hid (HFL.out.chg hc8 (fun f => by have := HKF.out kf f; omega))
        have HAC := Lib.hid (HH.out.at_ hwa)
        rw [HTA.out] at HAC
        have y0 : w8.cell? ⟨kf, 0, none⟩ = some (.string Bs) := HFL8.out.cell 0
        clear hwa hc8 HNX HFL
        go_wp2_with fail
        refine HAC.mono ?_
        rintro e w9 ⟨rfl, rfl⟩
        go_wp2_with fail
        go_roundg (R.1 - (i + 1))
        case measure => omega
        case rel => exact ⟨i + 1, s', by omega, rfl, by go_num, HWA8, HTA, HPR, HFL8, hB8⟩
      · have hir : i = R.1 := by omega
        obtain ⟨_, hpg, hpe, hrr⟩ := hnc.resolve_left (fun h => hlr h.1)
        have HNX := Lib.hid (HH.out.next_is (p := s.peek a1 a2 m z) (s' := s.peek a1 a2 m z) (b := 0) (c := (s.peek a1 a2 m z).e) HWA.out rfl (WS.byte_off hpg) (WS.code_off hpg) (WS.take_same hpg) (by omega) (by omega) HEL.out hBe hFw.out)
        generalize s.peek a1 a2 m z = p at *
        have hR1 : R.1 = p.g := by rw [hrr]
        have hR2 : R.2.1 = p.c := by rw [hrr]
        have hR3 : R.2.2 = p.e := by rw [hrr]
        rw [hR2, hR3] at HFL
        have hbg : Bs.size = p.g := by rw [HBZ.out, hR1]
        have HBG := Lib.hid hbg
        have HPA : Hid (p.at_ = p.g) := Lib.hid hpg
        have HR1 := Lib.hid hR1
        clear hnc hpa hpr HPE hR1 hR2 hR3 hbg hrr hir hpg HBT hok
        go_wp2_with fail
        refine HNX.out.mono ?_
        rintro e w8 ⟨rfl, hwa, hB8, hc8⟩
        have HFL8 := Lib.hid (HFL.out.chg hc8 (fun f => by have := HKF.out kf f; omega))
        have HSR := Lib.hid (HH.out.src hwa)
        have HWA8 := Lib.hid hwa
        have y0 : w8.cell? ⟨kf, 0, none⟩ = some (.string Bs) := HFL8.out.cell 0
        have y1 : w8.cell? ⟨kf, 1, none⟩ = some (.int .i64 p.e) := HFL8.out.cell 1
        have y2 : w8.cell? ⟨kf, 2, none⟩ = some (.int .i64 (p.c : Int)) := HFL8.out.cell 2
        have HQ1 : Hid (∀ n, Calls Try.prog 13 #[.pointer (some ⟨g3, 0, none⟩)] (w8.drewN n) fun e w' => e = .returned (.int .i64 (p.c : Int)) ∧ w' = w8.drewN n) := Lib.hid (fun n => (calls_any g3 a1 a2 p.g p.c p.o (w8.drewN n) (HSR.out.below ⟨rfl, rfl, rfl, Nat.le_refl _, fun _ _ => rfl⟩)).mono (fun _ _ h => ⟨h.1, h.2.symm⟩))
        have HWN : Hid (∀ n, WA (w8.drewN n) k g3 F a1 a2 m z p) := Lib.hid (fun n => HH.out.below HWA8.out ⟨rfl, rfl, rfl, Nat.le_refl _, fun _ _ => rfl⟩)
        have HQ2 : Hid (∀ n, Calls Try.prog 16 #[.pointer (some ⟨k, 0, none⟩)] (w8.drewN n) fun e w' => e = .returned (.int .i64 (Bs.size : Int)) ∧ w' = w8.drewN n) := Lib.hid (fun n => (HH.out.at_ (HWN.out n)).mono (fun _ _ h => ⟨by rw [h.1, HPA.out, HBG.out], h.2.symm⟩))
        have HQ3 : Hid (∀ n, Calls Try.prog 17 #[.pointer (some ⟨k, 0, none⟩)] (w8.drewN n) fun e w' => e = .returned (.int .i64 0) ∧ w' = w8.drewN n) := Lib.hid (fun n => (HH.out.held (HWN.out n)).mono (fun _ _ h => ⟨by rw [h.1, HPA.out, Nat.sub_self]; rfl, h.2.symm⟩))
        clear hwa hc8 HNX HFL HFL8 HSR
        go_wp2_with fail
        go_quiet ((first | (go_at_call 13; exact Calls.quiet_of_same (HQ1.out _)) | (go_at_call 16; exact Calls.quiet_of_same (HQ2.out _)) | (go_at_call 17; exact Calls.quiet_of_same (HQ3.out _))))
        go_wp2_with fail
        go_ret
        exact ⟨ret_bool (by simp), ⟨hB8.os, hB8.tape, hB8.output, hB8.size, hB8.block⟩⟩

end Go.Proofs.Ytlaeoacaihooiaa
