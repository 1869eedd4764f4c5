/- The walk of WindowStops, given what a window does. -/
import Derived.Test.YtlaeoacaihooiaaWinAwake
import Derived.Test.YtlaeoacaihooiaaCameTwo
import Derived.Deep.QuietTactic
import Derived.BigQuiet
import Derived.Deep.RegionHeld3
namespace Go.Proofs.Ytlaeoacaihooiaa
open Go.RowKit Go.PlainAid
set_option linter.unusedVariables false
set_option maxRecDepth 100000 in
set_option maxHeartbeats 16000000 in
theorem lawWindowStops {WA : WinPred} (H : WinSpec WA) (a0 e0 : Int) (a1 : ByteArray) (o2 : Option Addr) (c2 : Nat) (a2 : List (Int × Int)) (ra0 : InI a0) (re0 : InI e0) (b1 : a1.size ≤ maxLen) (lc2 : a2.length ≤ c2) (cm2 : c2 ≤ maxLen) (el2 : ∀ x ∈ a2, InI x.1 ∧ InI x.2) (w : World) (ca2 : Came w o2 (pvs a2)) :
    Calls Try.prog 4 #[.agg #[.int .i64 a0, .int .i64 e0], .string a1, .slice o2 a2.length c2] w fun e w' => e = .returned (.bool true) ∧ Below w.heap.size w w' := by
  have HA := Lib.hid (awake04_any H)
  have m2 : a2.length ≤ maxLen := by omega
  have hW0 : Below w.heap.size w (w.alloc (.cells #[.int .i64 a0, .int .i64 e0] 22)) := (Below.refl _ _).alloc (Nat.le_refl _) _
  cases hgr : great4 a1.size a2.length
  case true =>
    have HG := Lib.hid (fun w => great04_any a1 o2 _ c2 w b1 m2 true hgr)
    clear hgr
    go_enter Try.func4, Try.ntmps4
    go_wp2_with fail
    refine (HA.out _).mono ?_
    rintro e w1 ⟨rfl, hB1⟩
    have hB1 := hW0.trans (hB1.mono hW0.size)
    go_wp2_with fail
    refine (HG.out _).mono ?_
    rintro e w2 ⟨rfl, rfl⟩
    go_wp2_with fail
    refine (HA.out _).mono ?_
    rintro e w2 ⟨rfl, hB2⟩
    have hB2 := hB1.trans (hB2.mono hB1.size)
    go_wp2_with fail
    go_ret
    exact ⟨rfl, hB2⟩
  case false =>
    obtain ⟨z1, z2⟩ := great4_no hgr
    have HG := Lib.hid (fun w => great04_any a1 o2 _ c2 w b1 m2 false hgr)
    clear hgr
    have HEL := Lib.hid el2
    have HC1 := Lib.hid ca2
    have HH := Lib.hid H
    have HN := Lib.hid (fun ob cb w' (hc : Came w' ob (pvs a2)) => srcNew_any a1 a2 ob cb w' (by omega) hc (by omega))
    have HX0 := Lib.hid (Row.new w 22 [.int .i64 a0, .int .i64 e0])
    clear el2 ca2 H
    go_enter Try.func4, Try.ntmps4
    go_wp2_with fail
    refine (HA.out _).mono ?_
    rintro e w1 ⟨rfl, hB1⟩
    have HX1 := Lib.hid (HX0.out.below hB1 HX0.out.lt)
    have hB1 := hW0.trans (hB1.mono hW0.size)
    go_wp2_with fail
    refine (HG.out _).mono ?_
    rintro e w2 ⟨rfl, rfl⟩
    clear HX0 hW0 HG
    have HX1lt : Hid (w.heap.size < w1.heap.size) := Lib.hid HX1.out.lt
    have HC3 := Lib.hid ((HC1.out.below hB1).below ((Below.refl _ w1).alloc (Nat.le_refl _) (.cells #[] 39)))
    have HB3a := Lib.hid hB1
    clear hB1
    go_wp2_with (at_builtin; refine wpList_append_steps rfl _ _ rfl w1.heap.size rfl (made_steps w1) (by simp) a2 o2 a2.length c2 rfl rfl (by omega) HC3.out ?_)
    intro ob3 cb3 w3 hc3 hg3
    have hBb3 : Below w1.heap.size w1 w3 := grown_to_below ((Below.refl _ w1).alloc (Nat.le_refl _) _) (Nat.le_refl _) hg3
    have hB3 := HB3a.out.trans (hBb3.mono HB3a.out.size)
    have hsz3 : Hid (w1.heap.size ≤ w3.heap.size) := Lib.hid hBb3.size
    have HCx3 := Lib.hid hc3
    have HX3 := Lib.hid (HX1.out.below hBb3 HX1.out.lt)
    clear hg3 HB3a hc3 HC3 hBb3
    go_wp2_with fail
    refine (HN.out _ _ _ HCx3.out).mono ?_
    rintro e w3s ⟨g3, rfl, hg3, hs3, hBs3⟩
    have hgl3 : g3 < w3s.heap.size := hs3.lt
    have HS3 := Lib.hid hs3
    have hgw3 : w3.heap.size ≤ g3 := hg3
    have hgx3 : Hid (w1.heap.size ≤ g3) := Lib.hid (Nat.le_trans hsz3.out hg3)
    have hg3 : w.heap.size ≤ g3 := Nat.le_trans hB3.size hg3
    have HX4 := Lib.hid (HX3.out.below hBs3 HX3.out.lt)
    have hB3s := hB3.trans (hBs3.mono hB3.size)
    clear hs3 hBs3 HCx3
    clear HX1 HX3
    have x0 : w3s.cell? ⟨w.heap.size, 0, none⟩ = some (.int .i64 a0) := HX4.out.cell 0
    have x1 : w3s.cell? ⟨w.heap.size, 1, none⟩ = some (.int .i64 e0) := HX4.out.cell 1
    go_wp2_with fail
    refine (HH.out.new a0 e0 g3 a1 a2 _ HS3.out ra0 re0).mono ?_
    rintro e w5 ⟨k, F, rfl, hF, hwa, hB5⟩
    have HWA5 := Lib.hid hwa
    have HX5 := Lib.hid (HX4.out.below hB5 HX4.out.lt)
    have hFw : Hid (∀ i, F i → w.heap.size ≤ i) := Lib.hid (fun i hi => by
      rcases hF i hi with rfl | h1
      · exact hg3
      · have := hB3s.size; omega)
    have hFx : Hid (¬ F w.heap.size) := Lib.hid (fun hi => by
      have h0 := HX4.out.lt
      rcases hF _ hi with h1 | h1
      · have h2 := HX1lt.out; have h3 := hgx3.out; omega
      · omega)
    have hB5 := hB3s.trans (hB5.mono hB3s.size)
    clear hwa hF HS3 HX4 x0 x1 hB3s
    have HOK := HH.out.ok HWA5.out
    have HMZ : Hid (clampI a0 1 65536 = clampI a0 1 65536) := Lib.hid rfl
    generalize clampI a0 1 65536 = m at *
    generalize (clampI e0 0 1000).toNat = z at *
    obtain ⟨hok0, hm1, hm2, hzz⟩ := HOK
    clear hok0
    go_wp2_with fail
    go_loopg [43] (a1.size + 1) (fun gn iv wr => ∃ (i : Nat) (s : WS), i ≤ a1.size + 1 ∧ gn = a1.size + 1 - i ∧ iv = .int .i64 (i : Int) ∧ Hid (WA wr k g3 F a1 a2 m z s) ∧ Hid (s.at_ = i ∨ s.over) ∧ Below w.heap.size w wr)
    case atStart => exact ⟨0, WS.start, by omega, by omega, rfl, HWA5, Lib.hid (.inl rfl), hB5⟩
    case round =>
      clear HWA5 hB5
      obtain ⟨i, s, hi, rfl, rfl, HWA, HST, hBe⟩ := hrel
      have hok := (HH.out.ok HWA.out).1
      have HNX := Lib.hid (HH.out.next_on HWA.out (by omega) (by omega) HEL.out hBe hFw.out)
      by_cases hlt : i < a1.size + 1
      · have HST2 : Hid ((s.peek a1 a2 m z).take.at_ = i + 1 ∨ (s.peek a1 a2 m z).take.over) := Lib.hid (by
          rcases HST.out with h1 | h1
          · rcases WS.next_step hm1 hok with ⟨_, h2⟩ | ⟨h2, _⟩
            · exact .inl (by rw [h2, h1])
            · exact .inr h2
          · right
            rw [WS.over_peek h1, WS.take_same h1.2]; exact h1)
        clear hok
        generalize (s.peek a1 a2 m z).take = s' at *
        generalize (s.peek a1 a2 m z).byte a1 = b at *
        generalize (s.peek a1 a2 m z).code = cd at *
        go_wp2_with fail
        refine HNX.out.mono ?_
        rintro e w8 ⟨rfl, hwa, hB8, hc8⟩
        have HWA8 := Lib.hid hwa
        clear hwa hc8 HNX
        go_wp2_with fail
        go_roundg (a1.size + 1 - (i + 1))
        case measure => omega
        case rel => exact ⟨i + 1, s', by omega, rfl, by go_num, HWA8, HST2, hB8⟩
      · have hov : s.over := by
          rcases HST.out with h1 | h1
          · have := hok.low; have := hok.top; omega
          · exact h1
        have herr := hok.err
        have HNI := Lib.hid (fun w' (h : WA w' k g3 F a1 a2 m z s) (hB : Below w.heap.size w w') => HH.out.next_is (p := s) (s' := s) (b := 0) (c := s.e) h (WS.over_peek hov) (WS.byte_off hov.2) (WS.code_off hov.2) (WS.take_same hov.2) (by omega) (by omega) HEL.out hB hFw.out)
        have HPI := Lib.hid (fun w' (h : WA w' k g3 F a1 a2 m z s) (hB : Below w.heap.size w w') => HH.out.peek_is (p := s) (b := 0) (c := s.e) h (WS.over_peek hov) (WS.byte_off hov.2) (WS.code_off hov.2) (by omega) (by omega) HEL.out hB hFw.out)
        have HCL := Lib.hid (fun w' (h : WA w' k g3 F a1 a2 m z s) => calls_any g3 a1 a2 s.g s.c s.o w' (HH.out.src h))
        have HAT := Lib.hid (fun w' (h : WA w' k g3 F a1 a2 m z s) => HH.out.at_ h)
        have he0 := hov.1
        generalize s.e = ev at *
        generalize s.c = cv at *
        generalize s.at_ = av at *
        clear hok hov HST HNX
        go_wp2_with fail
        refine (HNI.out _ HWA.out hBe).mono ?_
        rintro e w8 ⟨rfl, hwa, hB8, _⟩
        have HWA8 := Lib.hid hwa
        clear hwa
        go_wp2_with fail
        refine (HCL.out _ HWA8.out).mono ?_
        rintro e w9 ⟨rfl, rfl⟩
        go_wp2_with fail
        refine (HAT.out _ HWA8.out).mono ?_
        rintro e w9 ⟨rfl, rfl⟩
        go_wp2_with fail
        go_loopg [57] 5 (fun gn iv wr => ∃ (i : Nat), i ≤ 5 ∧ gn = 5 - i ∧ iv = .int .i64 (i : Int) ∧ Hid (WA wr k g3 F a1 a2 m z s) ∧ Below w.heap.size w wr)
        case atStart => exact ⟨0, by omega, by omega, rfl, HWA8, hB8⟩
        case round =>
          clear HWA8 hB8
          obtain ⟨j, hj, rfl, rfl, HWA, hBe⟩ := hrel
          by_cases hlt5 : j < 5
          · go_wp2_with fail
            refine (HNI.out _ HWA.out hBe).mono ?_
            rintro e w8 ⟨rfl, hwa, hB8, _⟩
            have HWA8 := Lib.hid hwa
            clear hwa
            go_wp2_with fail
            refine (HPI.out _ HWA8.out hB8).mono ?_
            rintro e w9 ⟨rfl, hwa, hB9, _⟩
            have HWA9 := Lib.hid hwa
            clear hwa
            go_wp2_with fail
            refine (HCL.out _ HWA9.out).mono ?_
            rintro e wx ⟨rfl, rfl⟩
            go_wp2_with fail
            refine (HAT.out _ HWA9.out).mono ?_
            rintro e wx ⟨rfl, rfl⟩
            go_wp2_with fail
            go_roundg (5 - (j + 1))
            case measure => omega
            case rel => exact ⟨j + 1, by omega, rfl, by go_num, HWA9, hB9⟩
          · rcases herr with rfl | rfl | rfl | rfl
            · exact absurd rfl he0
            all_goals
              go_wp2_with fail
              go_ret
              exact ⟨rfl, hBe⟩

end Go.Proofs.Ytlaeoacaihooiaa
