/- The walk of WindowSizes, given what a window does. -/
import Derived.Test.YtlaeoacaihooiaaWinAwake
import Derived.Test.YtlaeoacaihooiaaWinEven
import Derived.Test.YtlaeoacaihooiaaCameTwo
import Derived.Deep.QuietTactic
import Derived.BigQuiet
import Derived.Deep.RegionHeld3
namespace Go.Proofs.Ytlaeoacaihooiaa
open Go.RowKit Go.PlainAid
set_option linter.unusedVariables false
set_option maxRecDepth 100000 in
set_option maxHeartbeats 16000000 in
theorem lawWindowSizes {WA : WinPred} (H : WinSpec WA) (a0 e0 : Int) (a1 : ByteArray) (ra0 : InI a0) (re0 : InI e0) (b1 : a1.size ≤ maxLen) (r1 : a1.size ≤ 140737488351232) (w : World) :
    Calls Try.prog 8 #[.agg #[.int .i64 a0, .int .i64 e0], .string a1] w fun e w' => e = .returned (.bool true) ∧ Below w.heap.size w w' := by
  have HA := Lib.hid (awake04_any H)
  have hW0 : Below w.heap.size w (w.alloc (.cells #[.int .i64 a0, .int .i64 e0] 22)) := (Below.refl _ _).alloc (Nat.le_refl _) _
  have HX0 := Lib.hid (Row.new w 22 [.int .i64 a0, .int .i64 e0])
  have HN := Lib.hid (fun w' => srcNew_any a1 [] none 0 w' (Nat.le_trans r1 (by decide)) (Came.nil _ _) (by decide))
  have HH := Lib.hid H
  clear H
  by_cases hbig : 1000 < a1.size
  · go_enter Try.func8, Try.ntmps8
    go_wp2_with fail
    refine (HN.out _).mono ?_
    rintro e w1 ⟨g1, rfl, hg1, hs1, hB1⟩
    have hB1 := hW0.trans (hB1.mono hW0.size)
    clear hs1
    go_wp2_with fail
    refine (HN.out _).mono ?_
    rintro e w2 ⟨g2, rfl, hg2, hs2, hB2⟩
    have hB2 := hB1.trans (hB2.mono hB1.size)
    clear hs2 hB1
    go_wp2_with fail
    refine (HA.out _).mono ?_
    rintro e w3 ⟨rfl, hB3⟩
    have hB3 := hB2.trans (hB3.mono hB2.size)
    clear hB2
    go_wp2_with fail
    refine (HA.out _).mono ?_
    rintro e w4 ⟨rfl, hB4⟩
    have hB4 := hB3.trans (hB4.mono hB3.size)
    go_wp2_with fail
    go_ret
    exact ⟨rfl, hB4⟩
  · have z1 : a1.size ≤ 1000 := by omega
    have z2 : decide (1000 < (a1.size : Int)) = false := by simp; omega
    go_enter Try.func8, Try.ntmps8
    go_wp2_with fail
    refine (HN.out _).mono ?_
    rintro e w3s ⟨g3, rfl, hg3, hs3, hBs3⟩
    have HS3 := Lib.hid hs3
    have hgl3 : g3 < w3s.heap.size := hs3.lt
    have HX3 := Lib.hid (HX0.out.below hBs3 HX0.out.lt)
    have hxs : (w.alloc (.cells #[.int .i64 a0, .int .i64 e0] 22)).heap.size = w.heap.size + 1 := Array.size_push _
    have hg3' : w.heap.size < g3 := by omega
    have hB3 := hW0.trans (hBs3.mono hW0.size)
    clear hs3 hBs3 HX0 hW0 hg3 hxs
    go_wp2_with fail
    refine (HN.out _).mono ?_
    rintro e w4 ⟨g4, rfl, hg4, hs4, hBs4⟩
    have HS3b := Lib.hid (HS3.out.below hBs4)
    have HX4 := Lib.hid (HX3.out.below hBs4 HX3.out.lt)
    have hB4 := hB3.trans (hBs4.mono hB3.size)
    have HS4b := Lib.hid hs4
    have hgl4 : g4 < w4.heap.size := hs4.lt
    have hg34 : g3 < g4 := by omega
    clear hs4 hBs4 HS3 HX3 hB3 HN hg4 hgl3
    go_wp2_with fail
    refine (HA.out _).mono ?_
    rintro e w4s ⟨rfl, hBs⟩
    have HS3c := Lib.hid (HS3b.out.below hBs)
    have HS4 := Lib.hid (HS4b.out.below hBs)
    have HX7 := Lib.hid (HX4.out.below hBs HX4.out.lt)
    have hB4s := hB4.trans (hBs.mono hB4.size)
    have hgs4 : g4 < w4s.heap.size := by have := hBs.size; omega
    clear hBs HS3b HS4b HX4 hB4 HA hgl4
    have x0 : w4s.cell? ⟨w.heap.size, 0, none⟩ = some (.int .i64 a0) := HX7.out.cell 0
    have x1 : w4s.cell? ⟨w.heap.size, 1, none⟩ = some (.int .i64 e0) := HX7.out.cell 1
    go_wp2_with fail
    clear x0 x1
    have HD : Below w4s.heap.size w4s w4s.drew := (Below.refl _ _).drew
    have HS3d := Lib.hid (HS3c.out.below HD)
    have HX7d := Lib.hid (HX7.out.below HD HX7.out.lt)
    have HS4d := Lib.hid (HS4.out.below HD)
    have hB4d := Lib.hid (hB4s.trans (HD.mono hB4s.size))
    have hgd : Hid (w4s.drew.heap.size = w4s.heap.size) := Lib.hid rfl
    have hI0 : InI 0 := by unfold InI; omega
    have hlo : InI (min a0 e0) := by unfold InI at *; omega
    have hhi : InI (max a0 e0) := by unfold InI at *; omega
    have hCC : Hid (clampI (min a0 e0) 1 65536 ≤ clampI (max a0 e0) 1 65536) := Lib.hid (by unfold clampI; repeat' split <;> omega)
    have hz0 : (clampI 0 0 1000).toNat = 0 := by decide
    clear HS3c HD HS4 hB4s
    have x0 : w4s.cell? ⟨w.heap.size, 0, none⟩ = some (.int .i64 a0) := HX7.out.cell 0
    have x1 : w4s.cell? ⟨w.heap.size, 1, none⟩ = some (.int .i64 e0) := HX7.out.cell 1
    have HN1 := Lib.hid (HH.out.new (min a0 e0) 0 g3 _ _ w4s.drew HS3d.out hlo hI0)
    go_wp2_with fail
    go_region_held3 (fun w' => w'.cell? ⟨w.heap.size, 0, none⟩ = some (.int .i64 a0) ∧ w'.cell? ⟨w.heap.size, 1, none⟩ = some (.int .i64 e0)) (first | exact ⟨y0, y1⟩ | exact ⟨x0, x1⟩) (first
      | (go_at_call 12; with_reducible refine (HN1.out).mono ?_; rintro e w5 ⟨k3, F3, rfl, hF3, hwa3, hb5⟩
         have HX8 := Lib.hid (HX7d.out.below hb5 HX7d.out.lt)
         have x0 : w5.cell? ⟨w.heap.size, 0, none⟩ = some (.int .i64 a0) := HX8.out.cell 0
         have x1 : w5.cell? ⟨w.heap.size, 1, none⟩ = some (.int .i64 e0) := HX8.out.cell 1
         have HN2 := Lib.hid (HH.out.new (max a0 e0) 0 g4 _ _ w5 (HS4d.out.below hb5) hhi hI0)
         have hB5 := Lib.hid (hB4d.out.trans (hb5.mono hB4d.out.size))
         have hW3 := Lib.hid hwa3
         clear hb5 hwa3 HN1)
      | (go_at_call 12; with_reducible refine (HN2.out).mono ?_; rintro e w6 ⟨k4, F4, rfl, hF4, hwa4, hb6⟩
         have HX9 := Lib.hid (HX8.out.below hb6 HX8.out.lt)
         have y0 : w6.cell? ⟨w.heap.size, 0, none⟩ = some (.int .i64 a0) := HX9.out.cell 0
         have y1 : w6.cell? ⟨w.heap.size, 1, none⟩ = some (.int .i64 e0) := HX9.out.cell 1
         have hB6 := Lib.hid (hB5.out.trans (hb6.mono hB5.out.size))
         have hW3b := Lib.hid (HH.out.below hW3.out hb6)
         have hW4 := Lib.hid hwa4))
    all_goals
      clear x0 x1 y0 y1 HX7 HX7d HX8 HX9 HN2
      have HF3l := HH.out.lt hW3.out
      have HDJ : Hid (∀ i, F3 i → ¬ F4 i) := Lib.hid (fun i h3 h4 => by
        have h5 := HF3l i h3
        rcases hF4 i h4 with rfl | h6
        · rcases hF3 i h3 with h7 | h7
          · omega
          · have h8 := hgd.out
            omega
        · omega)
      have HDK : Hid (∀ i, F4 i → ¬ F3 i) := Lib.hid (fun i h4 h3 => HDJ.out i h3 h4)
      have hFw3 : Hid (∀ i, F3 i → w.heap.size ≤ i) := Lib.hid (fun i hi => by
        rcases hF3 i hi with h1 | h1
        · omega
        · have := hB4d.out.size; omega)
      have hFw4 : Hid (∀ i, F4 i → w.heap.size ≤ i) := Lib.hid (fun i hi => by
        rcases hF4 i hi with h1 | h1
        · omega
        · have := hB5.out.size; omega)
      have HOK3 := HH.out.ok hW3b.out
      have HOK4 := HH.out.ok hW4.out
      rw [hz0] at hW3b hW4
      clear HF3l hF3 hF4 hwa4 hb6 hW3 hB5 hB4d HS4d HS3d hz0 hgd hlo hhi
      generalize min a0 e0 = lo at *
      generalize max a0 e0 = hi at *
      generalize clampI lo 1 65536 = m1 at *
      generalize clampI hi 1 65536 = m2 at *
      obtain ⟨_, h11, h12, _⟩ := HOK3
      obtain ⟨_, h21, h22, _⟩ := HOK4
      obtain ⟨M1, rfl⟩ := Int.eq_ofNat_of_zero_le (by omega : 0 ≤ m1)
      obtain ⟨M2, rfl⟩ := Int.eq_ofNat_of_zero_le (by omega : 0 ≤ m2)
      have hM1 : 1 ≤ M1 := by omega
      have hM2 : 1 ≤ M2 := by omega
      have hMM : M1 ≤ M2 := by have := hCC.out; omega
      have HEL : Hid (∀ x ∈ ([] : List (Int × Int)), InI x.1 ∧ InI x.2) := Lib.hid (by simp)
      clear hCC h11 h12 h21 h22
      go_wp2_with fail
      go_loopg [56] (a1.size + 1) (fun gn iv wr => ∃ (i : Nat) (s t : WS), i ≤ a1.size + 1 ∧ gn = a1.size + 1 - i ∧ iv = .int .i64 (i : Int) ∧ Hid (WA wr k3 g3 F3 a1 [] (M1 : Int) 0 s) ∧ Hid (WA wr k4 g4 F4 a1 [] (M2 : Int) 0 t) ∧ Hid (i ≤ a1.size ∧ Even a1 M1 i s ∧ Even a1 M2 i t ∨ i = a1.size + 1 ∧ t.c ≤ s.c) ∧ Below w.heap.size w wr)
      case atStart => exact ⟨0, WS.start, WS.start, by omega, by omega, rfl, hW3b, hW4, Lib.hid (.inl ⟨Nat.zero_le _, Even.start, Even.start⟩), hB6.out⟩
      case round =>
        clear hW3b hW4 hB6
        obtain ⟨i, s, t, hi, rfl, rfl, HA3, HA4, HR, hBe⟩ := hrel
        by_cases hlt : i < a1.size + 1
        · obtain ⟨b, cd, s', t', av, h1, h2, h3, h4, h5, h6, h7, h8, hav, HR'⟩ : ∃ (b cd : Int) (s' t' : WS) (av : Nat), (s.peek a1 [] (M1 : Int) 0).byte a1 = b ∧ (s.peek a1 [] (M1 : Int) 0).code = cd ∧ (s.peek a1 [] (M1 : Int) 0).take = s' ∧ (t.peek a1 [] (M2 : Int) 0).byte a1 = b ∧ (t.peek a1 [] (M2 : Int) 0).code = cd ∧ (t.peek a1 [] (M2 : Int) 0).take = t' ∧ s'.at_ = av ∧ t'.at_ = av ∧ av ≤ 1000 ∧ Hid (i + 1 ≤ a1.size ∧ Even a1 M1 (i + 1) s' ∧ Even a1 M2 (i + 1) t' ∨ i + 1 = a1.size + 1 ∧ t'.c ≤ s'.c) := by
            obtain ⟨hil, he1, he2⟩ := HR.out.resolve_right (fun h => by omega)
            rcases Nat.lt_or_ge i a1.size with h | h
            · obtain ⟨p1, p2, p3⟩ := he1.next hM1 h
              obtain ⟨q1, q2, q3⟩ := he2.next hM2 h
              exact ⟨bt a1 i, 0, _, _, i + 1, p2, p3, rfl, q2, q3, rfl, p1.at_, q1.at_, by omega, Lib.hid (.inl ⟨h, p1, q1⟩)⟩
            · obtain rfl : i = a1.size := by omega
              have p1 := he1.last hM1
              have q1 := he2.last hM2
              have hc := Even.calls hMM he1 he2
              rw [p1, q1]
              exact ⟨0, 14, _, _, a1.size, WS.byte_off rfl, WS.code_off rfl, WS.take_same rfl, WS.byte_off rfl, WS.code_off rfl, WS.take_same rfl, rfl, rfl, z1, Lib.hid (.inr ⟨rfl, Nat.succ_le_succ hc⟩)⟩
          have HN1 := Lib.hid (HH.out.next_is HA3.out rfl h1 h2 h3 (by omega) (by decide) HEL.out hBe hFw3.out)
          have HT := Lib.hid (And.intro h4 (And.intro h5 h6))
          have HV := Lib.hid (And.intro h7 h8)
          clear h1 h2 h3 h4 h5 h6 h7 h8 HR
          go_wp2_with fail
          refine HN1.out.mono ?_
          rintro e w7 ⟨rfl, hwa, hB7, hc7⟩
          have HA37 := Lib.hid hwa
          have HA47 := Lib.hid (HH.out.aside HA4.out HA3.out HDK.out hc7)
          have HN2 := Lib.hid (HH.out.next_is HA47.out rfl HT.out.1 HT.out.2.1 HT.out.2.2 (by omega) (by decide) HEL.out hB7 hFw4.out)
          clear hwa hc7 HN1 HA3 HA4 hB7 hBe
          go_wp2_with fail
          refine HN2.out.mono ?_
          rintro e w8 ⟨rfl, hwa, hB8, hc8⟩
          have HA48 := Lib.hid hwa
          have HA38 := Lib.hid (HH.out.aside HA37.out HA47.out HDJ.out hc8)
          have HQ1 := Lib.hid (HH.out.at_ HA38.out)
          have HQ2 := Lib.hid (HH.out.at_ HA48.out)
          rw [HV.out.1] at HQ1
          rw [HV.out.2] at HQ2
          have k1 : (b != b) = false := by simp
          have k2 : (cd != cd) = false := by simp
          have k3 : ((av : Int) != (av : Int)) = false := by simp
          clear hwa hc8 HN2 HA37 HA47 HT HV
          go_wp2_with fail
          refine HQ1.out.mono ?_
          rintro e wb ⟨rfl, rfl⟩
          go_wp2_with fail
          refine HQ2.out.mono ?_
          rintro e wb ⟨rfl, rfl⟩
          go_wp2_with fail
          go_roundg (a1.size + 1 - (i + 1))
          case measure => omega
          case rel => exact ⟨i + 1, s', t', by omega, rfl, by go_num, HA38, HA48, HR', hB8⟩
        · obtain ⟨_, hcc⟩ := HR.out.resolve_left (fun h => by omega)
          have HQ1 := Lib.hid (calls_any g4 _ _ _ _ _ wr (HH.out.src HA4.out))
          have HQ2 := Lib.hid (calls_any g3 _ _ _ _ _ wr (HH.out.src HA3.out))
          have hcd : decide ((t.c : Int) ≤ (s.c : Int)) = true := by simpa using hcc
          go_wp2_with fail
          refine HQ1.out.mono ?_
          rintro e wb ⟨rfl, rfl⟩
          go_wp2_with fail
          refine HQ2.out.mono ?_
          rintro e wb ⟨rfl, rfl⟩
          go_wp2_with fail
          go_ret
          exact ⟨rfl, hBe⟩

end Go.Proofs.Ytlaeoacaihooiaa
