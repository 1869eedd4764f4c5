/- The walk of WindowAll, given what a window does. -/
import Derived.Test.YtlaeoacaihooiaaWinAwake
import Derived.Test.YtlaeoacaihooiaaWinAll
import Derived.Test.YtlaeoacaihooiaaRefSrc
import Derived.Deep.QuietTactic
import Derived.BigQuiet
import Derived.Deep.RegionHeld3
namespace Go.Proofs.Ytlaeoacaihooiaa
open Go.RowKit Go.PlainAid
set_option linter.unusedVariables false
set_option maxRecDepth 100000 in
set_option maxHeartbeats 16000000 in
theorem lawWindowAll {WA : WinPred} (H : WinSpec WA) (a0 : Int) (a1 : ByteArray) (o2 : Option Addr) (c2 : Nat) (a2 : List (Int × Int)) (b0 : -9223372036854775808 ≤ a0 ∧ a0 ≤ 9223372036854775807) (b1 : a1.size ≤ maxLen) (lc2 : a2.length ≤ c2) (cm2 : c2 ≤ maxLen) (el2 : ∀ x ∈ a2, InI x.1 ∧ InI x.2) (w : World) (ca2 : Came w o2 (pvs a2)) :
    Calls Try.prog 5 #[.int .i64 a0, .string a1, .slice o2 a2.length c2] w fun e w' => e = .returned (.bool true) ∧ Below w.heap.size w w' := by
  have HA := Lib.hid (awake04_any H)
  have m2 : a2.length ≤ maxLen := by omega
  cases hgr : great4 a1.size a2.length
  case true =>
    have HG := Lib.hid (fun w => great04_any a1 o2 _ c2 w b1 m2 true hgr)
    clear hgr
    go_enter Try.func5, Try.ntmps5
    go_wp2_with fail
    refine (HA.out _).mono ?_
    rintro e w1 ⟨rfl, hB1⟩
    go_wp2_with fail
    refine (HG.out _).mono ?_
    rintro e w2 ⟨rfl, rfl⟩
    go_wp2_with fail
    refine (HA.out _).mono ?_
    rintro e w2 ⟨rfl, hB2⟩
    have hB2 := hB1.trans (hB2.mono hB1.size)
    go_wp2_with fail
    go_ret
    exact ⟨rfl, hB2⟩
  case false =>
    obtain ⟨z1, z2⟩ := great4_no hgr
    have HG := Lib.hid (fun w => great04_any a1 o2 _ c2 w b1 m2 false hgr)
    clear hgr
    have HEL := Lib.hid el2
    have HC1 := Lib.hid ca2
    have HH := Lib.hid H
    have HN := Lib.hid (fun ob cb w' (hc : Came w' ob (pvs a2)) => srcNew_any a1 a2 ob cb w' (by omega) hc (by omega))
    obtain ⟨i0, hi, hz0, hz1, hz2⟩ := (by
      obtain ⟨i0, hi, h⟩ := Option.map_eq_some_iff.1 infoU8
      simp only [Prod.mk.injEq] at h
      exact ⟨i0, hi, h.1, h.2.1, h.2.2⟩ : ∃ i0, Try.prog.info? 5 = some i0 ∧ i0.zero = some (.int .u8 0) ∧ i0.size = 1 ∧ i0.bytes = 1)
    have HI0 := Lib.hid hi
    have Hz0 := Lib.hid hz0
    have Hz1 := Lib.hid hz1
    have Hz2 := Lib.hid hz2
    clear el2 ca2 H hi hz0 hz1 hz2
    go_enter Try.func5, Try.ntmps5
    go_wp2_with fail
    refine (HA.out _).mono ?_
    rintro e w1 ⟨rfl, hB1⟩
    go_wp2_with fail
    refine (HG.out _).mono ?_
    rintro e w2 ⟨rfl, rfl⟩
    clear HG
    go_wp2_with fail
    go_loopg [26] a2.length (fun gn iv wr => ∃ (i : Nat), i ≤ a2.length ∧ gn = a2.length - i ∧ iv = .int .i64 (i : Int) ∧ Hid (∀ j (h : j < a2.length), j < i → a2[j].2 ≠ 2) ∧ Below w.heap.size w wr)
    case atStart => exact ⟨0, by omega, by omega, rfl, Lib.hid (by omega), hB1⟩
    case round =>
      clear hB1
      obtain ⟨i, hi, rfl, rfl, HK, hBr⟩ := hrel
      by_cases hlt : i < a2.length
      · have hp := pvs_get hlt
        obtain ⟨ad, e, hx0, hb⟩ := HC1.out.lt hp.1
        obtain ⟨ad', e', hx1, _⟩ := HC1.out.lt hp.2
        rw [e] at e'; cases e'
        subst e
        have hbl : ∀ j, (ad.add j).block < w.heap.size := fun j => by rw [show (ad.add j).block = ad.block by unfold Addr.add; split <;> rfl]; exact hb
        have q0 : wr.cell? (ad.add (i * 2)) = some (.int .i64 a2[i].1) := by rw [hBr.cell (hbl _), Nat.mul_comm]; exact hx0
        have q1 : wr.cell? ⟨(ad.add (i * 2)).block, (ad.add (i * 2)).off + 1, none⟩ = some (.int .i64 a2[i].2) := by rw [← add_field, hBr.cell (hbl _)]; exact hx1
        have hbw : (ad.add (i * 2)).block < wr.heap.size := Nat.lt_of_lt_of_le (hbl _) hBr.size
        clear hx0 hx1 hp hbl
        by_cases hk2 : a2[i].2 = 2
        · have hb2 : (a2[i].2 == 2) = true := by simpa using hk2
          generalize a2[i].1 = X at *
          generalize a2[i].2 = Y at *
          subst hk2
          clear hb2
          go_wp2_with fail
          go_ret
          exact ⟨rfl, hBr.alloc hBr.size _⟩
        · have HK2 : Hid (∀ j (h : j < a2.length), j < i + 1 → a2[j].2 ≠ 2) := Lib.hid (fun j h h1 => by
            rcases Nat.lt_or_ge j i with h2 | h2
            · exact HK.out j h h2
            · have : j = i := by omega
              subst this; exact hk2)
          have hb2 : (a2[i].2 == 2) = false := by simpa using hk2
          have hB2 := hBr.alloc hBr.size (.cells #[.int .i64 a2[i].1, .int .i64 a2[i].2] 39)
          clear hk2
          generalize a2[i].1 = X at *
          generalize a2[i].2 = Y at *
          go_wp2_with fail
          go_roundg (a2.length - (i + 1))
          case measure => omega
          case rel => exact ⟨i + 1, by omega, rfl, by go_num, HK2, hB2⟩
      · have HF := Lib.hid (fun x (hx : x ∈ a2) => (by
          obtain ⟨j, hj, rfl⟩ := List.getElem_of_mem hx
          exact HK.out j hj (by omega) : x.2 ≠ 2))
        clear HK
        have HC3 := Lib.hid ((HC1.out.below hBr).below ((Below.refl _ wr).alloc (Nat.le_refl _) (.cells #[] 39)))
        have HB3a := Lib.hid hBr
        clear hBr
        go_wp2_with (at_builtin; refine wpList_append_steps rfl _ _ rfl wr.heap.size rfl (made_steps wr) (by simp) a2 o2 a2.length c2 rfl rfl (by omega) HC3.out ?_)
        intro ob3 cb3 w3 hc3 hg3
        have hBb3 : Below wr.heap.size wr w3 := grown_to_below ((Below.refl _ wr).alloc (Nat.le_refl _) _) (Nat.le_refl _) hg3
        have hB3 := HB3a.out.trans (hBb3.mono HB3a.out.size)
        have hsz3 : Hid (wr.heap.size ≤ w3.heap.size) := Lib.hid hBb3.size
        have HCx3 := Lib.hid hc3
        clear hg3 HB3a hc3 HC3 hBb3
        go_wp2_with fail
        refine (HN.out _ _ _ HCx3.out).mono ?_
        rintro e w3s ⟨g3, rfl, hg3, hs3, hBs3⟩
        have hgl3 : g3 < w3s.heap.size := hs3.lt
        have HS3 := Lib.hid hs3
        have hgw3 : w3.heap.size ≤ g3 := hg3
        have hgx3 : Hid (wr.heap.size ≤ g3) := Lib.hid (Nat.le_trans hsz3.out hg3)
        have hg3 : w.heap.size ≤ g3 := Nat.le_trans hB3.size hg3
        have hB3s := hB3.trans (hBs3.mono hB3.size)
        clear hs3 hBs3 HCx3
        go_wp2_with fail
        refine (HH.out.new a0 (a2.length : Int) g3 a1 a2 _ HS3.out b0 (by unfold InI; omega)).mono ?_
        rintro e w5 ⟨k, F, rfl, hF, hwa, hB5⟩
        have hFw : Hid (∀ i, F i → w.heap.size ≤ i) := Lib.hid (fun i hi => by
          rcases hF i hi with rfl | h1
          · exact hg3
          · have := hB3s.size; omega)
        have hzl : (clampI (a2.length : Int) 0 1000).toNat = a2.length := by unfold clampI; rw [if_neg (by omega), if_neg (by omega)]; simp
        rw [hzl] at hwa
        have HKF := Lib.hid (HH.out.lt hwa)
        have HWA5 := Lib.hid (HH.out.below hwa ((Below.refl _ w5).alloc (Nat.le_refl _) (.cells #[] 5)))
        have HOK := HH.out.ok hwa
        have hB5 := hB3s.trans (hB5.mono hB3s.size)
        have hB6 := hB5.alloc hB5.size (.cells #[] 5)
        have hkw : w.heap.size ≤ w5.heap.size := hB5.size
        have HSL := Lib.hid (Sl.new w5 5 [] (by decide))
        clear hwa hF HS3 hB3s hzl hB5
        generalize clampI a0 1 65536 = m at *
        obtain ⟨hok0, hm1, hm2, hzz⟩ := HOK
        obtain ⟨R, hR⟩ : ∃ R, WS.start.run a1 a2 m a2.length = R := ⟨_, rfl⟩
        have hall := run_all (D := a1) (S := a2) hm1 (Nat.le_refl _) HF.out (fuel a1 a2 0) 0 0 0 (Nat.zero_le _) (Nat.zero_le _) (Nat.le_refl _) (by unfold fuel; omega)
        have hrs : WS.start.run a1 a2 m a2.length = runM a1 a2 m a2.length (fuel a1 a2 0) 0 0 0 := rfl
        rw [← hrs, hR] at hall
        have HR0 := Lib.hid hR
        obtain ⟨hR1, hR3⟩ := hall
        have HR1 := Lib.hid hR1
        have HR3 := Lib.hid hR3
        clear hok0 hR hrs hR1 hR3
        go_wp2_with fail
        generalize w5.alloc (.cells #[] 5) = w6 at *
        generalize w5.heap.size = kb at *
        go_loopg [11, 51] a1.size (fun gn gv iv wr => ∃ (i : Nat) (s : WS) (gb : Nat), i ≤ a1.size ∧ gn = a1.size - i ∧ iv = .int .i64 (i : Int) ∧ Hid (WA wr k g3 F a1 a2 m a2.length s) ∧ Hid (s.at_ = i) ∧ Hid (s.run a1 a2 m a2.length = R) ∧ Hid (Sl wr 5 gv (bcs a1 i) gb) ∧ kb ≤ gb ∧ Below w.heap.size w wr)
        case atStart => exact ⟨0, WS.start, kb, by omega, by omega, rfl, HWA5, Lib.hid rfl, HR0, HSL, Nat.le_refl _, hB6⟩
        case round =>
          clear HWA5 HR0 HSL hB6
          obtain ⟨i, s, gb, hi2, rfl, rfl, HWA, HAT, HRN, HSL, hgb, hBe⟩ := hrel
          have hok := (HH.out.ok HWA.out).1
          have hnc := WS.next_cases hm1 hok
          rw [HRN.out, HAT.out, HR1.out] at hnc
          have hpa : (s.peek a1 a2 m a2.length).at_ = i := (WS.peek_at s).trans HAT.out
          have hpr : (s.peek a1 a2 m a2.length).take.run a1 a2 m a2.length = R := by rw [WS.take_run, WS.peek_run hm1 hok, HRN.out]
          by_cases hlt2 : i < a1.size
          · have hpg : (s.peek a1 a2 m a2.length).at_ < (s.peek a1 a2 m a2.length).g := by
              rcases hnc with h | h
              · exact h.2
              · omega
            have HNX := Lib.hid (HH.out.next_is (p := s.peek a1 a2 m a2.length) (s' := (s.peek a1 a2 m a2.length).take) (b := bt a1 i) (c := 0) HWA.out rfl (by rw [WS.byte_on hpg, hpa]) (WS.code_on hpg) rfl (by omega) (by omega) HEL.out hBe hFw.out)
            have HTA : Hid ((s.peek a1 a2 m a2.length).take.at_ = i + 1) := Lib.hid (by rw [WS.take_at hpg, hpa])
            have HPR := Lib.hid hpr
            have HBS := Lib.hid (bcs_succ a1 i)
            have hxb : 0 ≤ bt a1 i ∧ bt a1 i ≤ 255 := ⟨bt_nonneg _ _, bt_le _ _⟩
            generalize (s.peek a1 a2 m a2.length).take = s' at *
            generalize bt a1 i = x at *
            obtain ⟨hx0, hx1⟩ := hxb
            have HBL : Hid ((bcs a1 i).length = i) := Lib.hid (bcs_length _ _)
            clear hnc hpa hpr hpg hok
            go_wp2_with fail
            refine HNX.out.mono ?_
            rintro e w8 ⟨rfl, hwa, hB8, hc8⟩
            have HSL8 := Lib.hid (by
              obtain ⟨sp, h1, h2, h3⟩ := HSL.out
              exact ⟨sp, h1, h2, h3.chg hc8 (fun f => by have := HKF.out gb f; omega)⟩ : Sl w8 5 _ (bcs a1 i) gb)
            have HWA9 := Lib.hid (HH.out.below hwa ((Below.refl _ w8).alloc (Nat.le_refl _) (.cells #[.int .u8 x] 5)))
            have hB9 := hB8.alloc hB8.size (.cells #[.int .u8 x] 5)
            have hk8 : kb ≤ w8.heap.size := by have := HSL8.out.lt; omega
            clear hwa hc8 HNX HSL hB8
            go_wp2_with (at_builtin; refine wpList_append_sl rfl (.tmp 60) (.tmp 62) 40 rfl 5 i0 (.int .u8 0) 1 Try.underlying40 HI0.out Hz0.out Hz1.out Hz2.out rfl (l := bcs a1 i) (g := gb) rfl (HSL8.out.alloc _) ⟨w8.heap.size, 0, none⟩ 1 1 [.int .u8 x] rfl ?c1 ?c2 ?c3 ?c4 ?c5 ?_)
            case c1 => rfl
            case c2 => exact fun j u hj => by obtain ⟨a, e, h⟩ := Came.row (Row.new w8 5 [.int .u8 x]) j u hj; cases e; exact h
            case c3 => intro u hu; simp at hu; subst hu; rfl
            case c4 => rw [HBL.out]; unfold maxLen; omega
            case c5 => rw [HBL.out]; omega
            intro v2 w10 g2 hs2 hg2 hgr2
            have HSL10 : Hid (Sl w10 5 v2 (bcs a1 (i + 1)) g2) := Lib.hid (by rw [HBS.out]; exact hs2)
            obtain ⟨L, hrow⟩ : ∃ L, Row (w8.alloc (.cells #[.int .u8 x] 5)) gb 5 L := by
              obtain ⟨sp, _, _, h3⟩ := HSL8.out.alloc (.cells #[.int .u8 x] 5)
              exact ⟨_, h3⟩
            have HWA10 := Lib.hid (HH.out.keep HWA9.out hgr2 hrow (by decide) (fun f => by have := HKF.out gb f; omega))
            have hB10 := grown_to_below hB9 (by omega) hgr2
            have hg2k : kb ≤ g2 := by
              have e1 : (w8.alloc (.cells #[.int .u8 x] 5)).heap.size = w8.heap.size + 1 := Array.size_push _
              rcases hg2 with h | h <;> omega
            clear hs2 hg2 hgr2 hrow HSL8 HWA9 hB9
            go_wp2_with fail
            go_roundg (a1.size - (i + 1))
            case measure => omega
            case rel => exact ⟨i + 1, s', g2, by omega, rfl, by go_num, HWA10, HTA, HPR, HSL10, hg2k, hB10⟩
          · obtain rfl : i = a1.size := by omega
            obtain ⟨_, hpg, hpe, hrr⟩ := hnc.resolve_left (fun h => hlt2 h.1)
            have HNX := Lib.hid (HH.out.next_is (p := s.peek a1 a2 m a2.length) (s' := s.peek a1 a2 m a2.length) (b := 0) (c := (s.peek a1 a2 m a2.length).e) HWA.out rfl (WS.byte_off hpg) (WS.code_off hpg) (WS.take_same hpg) (by omega) (by omega) HEL.out hBe hFw.out)
            generalize s.peek a1 a2 m a2.length = p at *
            have hpe14 : p.e = 14 := by have := HR3.out; rw [hrr] at this; exact this
            have hpgs : p.g = a1.size := by have := HR1.out; rw [hrr] at this; exact this
            rw [hpe14] at HNX
            have HPG := Lib.hid hpgs
            obtain ⟨cp, rfl, hcp1, hcp2⟩ := HSL.out.open (bcs_length a1 a1.size)
            clear hnc hpa hpr hpg hpe hrr hok hpe14 hpgs
            go_wp2_with fail
            refine HNX.out.mono ?_
            rintro e w8 ⟨rfl, hwa, hB8, hc8⟩
            have HSR := Lib.hid (HH.out.src hwa)
            have HSL8 := Lib.hid (by
              obtain ⟨sp, h1, h2, h3⟩ := HSL.out
              exact ⟨sp, h1, h2, h3.chg hc8 (fun f => by have := HKF.out gb f; omega)⟩ : Sl w8 5 _ (bcs a1 a1.size) gb)
            have hcv := run_convert_bytes_arg (P := Try.prog) w8 40 5 Try.underlying40 Try.underlying5 gb 0 a1.size cp (bns a1) (by simp [bns]) (fun j hj => by
              have := HSL8.out.cell (i := j) (by rw [bcs_length]; exact hj)
              rw [Nat.zero_add, this]
              simp [bcs, bns, hj]) 9 Try.underlying9
            rw [strOf_bns] at hcv
            clear hwa hc8 HNX HSL
            go_wp2_with fail
            refine (given_any g3 _ _ _ _ _ _ HSR.out).mono ?_
            rintro e w9 ⟨rfl, rfl⟩
            rw [HPG.out]
            go_wp2_with fail
            go_ret
            exact ⟨rfl, hB8⟩

end Go.Proofs.Ytlaeoacaihooiaa
