/- The walk of WindowPeeks, given what a window does. -/
import Derived.Test.YtlaeoacaihooiaaWinAwake
import Derived.Test.YtlaeoacaihooiaaCameTwo
import Derived.Deep.QuietTactic
import Derived.BigQuiet
import Derived.Deep.RegionHeld3
namespace Go.Proofs.Ytlaeoacaihooiaa
open Go.RowKit Go.PlainAid
set_option linter.unusedVariables false
set_option maxRecDepth 100000 in
set_option maxHeartbeats 16000000 in
theorem lawWindowPeeks {WA : WinPred} (H : WinSpec WA) (a0 e0 : Int) (a1 : ByteArray) (o2 : Option Addr) (c2 : Nat) (a2 : List (Int × Int)) (ra0 : InI a0) (re0 : InI e0) (b1 : a1.size ≤ maxLen) (lc2 : a2.length ≤ c2) (cm2 : c2 ≤ maxLen) (el2 : ∀ x ∈ a2, InI x.1 ∧ InI x.2) (w : World) (ca2 : Came w o2 (pvs a2)) :
    Calls Try.prog 7 #[.agg #[.int .i64 a0, .int .i64 e0], .string a1, .slice o2 a2.length c2] w fun e w' => e = .returned (.bool true) ∧ Below w.heap.size w w' := by
  have HA := Lib.hid (awake04_any H)
  have m2 : a2.length ≤ maxLen := by omega
  have hW0 : Below w.heap.size w (w.alloc (.cells #[.int .i64 a0, .int .i64 e0] 22)) := (Below.refl _ _).alloc (Nat.le_refl _) _
  cases hgr : great4 a1.size a2.length
  case true =>
    have HG := Lib.hid (fun w => great04_any a1 o2 _ c2 w b1 m2 true hgr)
    clear hgr
    go_enter Try.func7, Try.ntmps7
    go_wp2_with fail
    refine (HA.out _).mono ?_
    rintro e w1 ⟨rfl, hB1⟩
    have hB1 := hW0.trans (hB1.mono hW0.size)
    go_wp2_with fail
    refine (HG.out _).mono ?_
    rintro e w2 ⟨rfl, rfl⟩
    go_wp2_with fail
    refine (HA.out _).mono ?_
    rintro e w2 ⟨rfl, hB2⟩
    have hB2 := hB1.trans (hB2.mono hB1.size)
    go_wp2_with fail
    go_ret
    exact ⟨rfl, hB2⟩
  case false =>
    obtain ⟨z1, z2⟩ := great4_no hgr
    have HG := Lib.hid (fun w => great04_any a1 o2 _ c2 w b1 m2 false hgr)
    clear hgr
    have HEL := Lib.hid el2
    have HC1 := Lib.hid ca2
    have HH := Lib.hid H
    have HN := Lib.hid (fun ob cb w' (hc : Came w' ob (pvs a2)) => srcNew_any a1 a2 ob cb w' (by omega) hc (by omega))
    have HX0 := Lib.hid (Row.new w 22 [.int .i64 a0, .int .i64 e0])
    clear el2 ca2 H
    go_enter Try.func7, Try.ntmps7
    go_wp2_with fail
    refine (HA.out _).mono ?_
    rintro e w1 ⟨rfl, hB1⟩
    have HX1 := Lib.hid (HX0.out.below hB1 HX0.out.lt)
    have hB1 := hW0.trans (hB1.mono hW0.size)
    go_wp2_with fail
    refine (HG.out _).mono ?_
    rintro e w2 ⟨rfl, rfl⟩
    clear HX0 hW0 HG
    have HX1lt : Hid (w.heap.size < w1.heap.size) := Lib.hid HX1.out.lt
    have HC3 := Lib.hid ((HC1.out.below hB1).below ((Below.refl _ w1).alloc (Nat.le_refl _) (.cells #[] 39)))
    have HB3a := Lib.hid hB1
    clear hB1
    go_wp2_with (at_builtin; refine wpList_append_steps rfl _ _ rfl w1.heap.size rfl (made_steps w1) (by simp) a2 o2 a2.length c2 rfl rfl (by omega) HC3.out ?_)
    intro ob3 cb3 w3 hc3 hg3
    have hBb3 : Below w1.heap.size w1 w3 := grown_to_below ((Below.refl _ w1).alloc (Nat.le_refl _) _) (Nat.le_refl _) hg3
    have hB3 := HB3a.out.trans (hBb3.mono HB3a.out.size)
    have hsz3 : Hid (w1.heap.size ≤ w3.heap.size) := Lib.hid hBb3.size
    have HCx3 := Lib.hid hc3
    have HX3 := Lib.hid (HX1.out.below hBb3 HX1.out.lt)
    clear hg3 HB3a hc3 HC3 hBb3
    go_wp2_with fail
    refine (HN.out _ _ _ HCx3.out).mono ?_
    rintro e w3s ⟨g3, rfl, hg3, hs3, hBs3⟩
    have hgl3 : g3 < w3s.heap.size := hs3.lt
    have HS3 := Lib.hid hs3
    have hgw3 : w3.heap.size ≤ g3 := hg3
    have hgx3 : Hid (w1.heap.size ≤ g3) := Lib.hid (Nat.le_trans hsz3.out hg3)
    have hg3 : w.heap.size ≤ g3 := Nat.le_trans hB3.size hg3
    have HX4 := Lib.hid (HX3.out.below hBs3 HX3.out.lt)
    have hB3s := hB3.trans (hBs3.mono hB3.size)
    clear hs3 hBs3 HCx3
    clear HX1 HX3
    have HC4 := Lib.hid ((HC1.out.below hB3s).below ((Below.refl _ w3s).alloc (Nat.le_refl _) (.cells #[] 39)))
    have HB4a := Lib.hid hB3s
    clear hB3s
    go_wp2_with (at_builtin; refine wpList_append_steps rfl _ _ rfl w3s.heap.size rfl (made_steps w3s) (by simp) a2 o2 a2.length c2 rfl rfl (by omega) HC4.out ?_)
    intro ob4 cb4 w4 hc4 hg4
    have hBb4 : Below w3s.heap.size w3s w4 := grown_to_below ((Below.refl _ w3s).alloc (Nat.le_refl _) _) (Nat.le_refl _) hg4
    have hB4 := HB4a.out.trans (hBb4.mono HB4a.out.size)
    have hsz4 : Hid (w3s.heap.size ≤ w4.heap.size) := Lib.hid hBb4.size
    have HCx4 := Lib.hid hc4
    have HX6 := Lib.hid (HX4.out.below hBb4 HX4.out.lt)
    have HS3b := Lib.hid (HS3.out.below hBb4)
    clear hg4 HB4a hc4 HC4 hBb4
    go_wp2_with fail
    refine (HN.out _ _ _ HCx4.out).mono ?_
    rintro e w4s ⟨g4, rfl, hg4, hs4, hBs4⟩
    have hgl4 : g4 < w4s.heap.size := hs4.lt
    have HS4 := Lib.hid hs4
    have hgw4 : w4.heap.size ≤ g4 := hg4
    have hgx4 : Hid (w3s.heap.size ≤ g4) := Lib.hid (Nat.le_trans hsz4.out hg4)
    have hg4 : w.heap.size ≤ g4 := Nat.le_trans hB4.size hg4
    have HX7 := Lib.hid (HX6.out.below hBs4 HX6.out.lt)
    have hB4s := hB4.trans (hBs4.mono hB4.size)
    have HS3c := Lib.hid (HS3b.out.below hBs4)
    clear hs4 hBs4 HCx4 HS3 HS3b HX4 HX6
    have hg34 : g3 < g4 := by have := hgx4.out; omega
    have hxb : w.heap.size < g3 := by have := HX1lt.out; have := hgx3.out; omega
    clear HN HA
    have x0 : w4s.cell? ⟨w.heap.size, 0, none⟩ = some (.int .i64 a0) := HX7.out.cell 0
    have x1 : w4s.cell? ⟨w.heap.size, 1, none⟩ = some (.int .i64 e0) := HX7.out.cell 1
    have HD : Below w4s.heap.size w4s w4s.drew := (Below.refl _ _).drew
    have HN1 := Lib.hid (HH.out.new a0 e0 g3 _ _ w4s.drew (HS3c.out.below HD) ra0 re0)
    have HX7d := Lib.hid (HX7.out.below HD HX7.out.lt)
    have HS4d := Lib.hid (HS4.out.below HD)
    have hB4d := Lib.hid (hB4s.trans (HD.mono hB4s.size))
    clear HS3c HD HS4 hB4s
    go_wp2_with fail
    go_region_held3 (fun w' => w'.cell? ⟨w.heap.size, 0, none⟩ = some (.int .i64 a0) ∧ w'.cell? ⟨w.heap.size, 1, none⟩ = some (.int .i64 e0)) (first | exact ⟨y0, y1⟩ | exact ⟨x0, x1⟩) (first
      | (go_at_call 12; with_reducible refine (HN1.out).mono ?_; rintro e w5 ⟨k3, F3, rfl, hF3, hwa3, hb5⟩
         have HX8 := Lib.hid (HX7d.out.below hb5 HX7d.out.lt)
         have x0 : w5.cell? ⟨w.heap.size, 0, none⟩ = some (.int .i64 a0) := HX8.out.cell 0
         have x1 : w5.cell? ⟨w.heap.size, 1, none⟩ = some (.int .i64 e0) := HX8.out.cell 1
         have HN2 := Lib.hid (HH.out.new a0 e0 g4 _ _ w5 (HS4d.out.below hb5) ra0 re0)
         have hB5 := Lib.hid (hB4d.out.trans (hb5.mono hB4d.out.size))
         have hW3 := Lib.hid hwa3
         clear hb5 hwa3 HN1)
      | (go_at_call 12; with_reducible refine (HN2.out).mono ?_; rintro e w6 ⟨k4, F4, rfl, hF4, hwa4, hb6⟩
         have HX9 := Lib.hid (HX8.out.below hb6 HX8.out.lt)
         have y0 : w6.cell? ⟨w.heap.size, 0, none⟩ = some (.int .i64 a0) := HX9.out.cell 0
         have y1 : w6.cell? ⟨w.heap.size, 1, none⟩ = some (.int .i64 e0) := HX9.out.cell 1
         have hB6 := Lib.hid (hB5.out.trans (hb6.mono hB5.out.size))
         have hW3b := Lib.hid (HH.out.below hW3.out hb6)
         have hW4 := Lib.hid hwa4))
    clear x0 x1 y0 y1 HX7 HX7d HX8 HX9 HN2
    have HF3l := HH.out.lt hW3.out
    have HDJ : Hid (∀ i, F3 i → ¬ F4 i) := Lib.hid (fun i h3 h4 => by
      have h5 := HF3l i h3
      rcases hF4 i h4 with rfl | h6
      · rcases hF3 i h3 with h7 | h7
        · omega
        · have h8 : w4s.drew.heap.size = w4s.heap.size := rfl
          omega
      · omega)
    have HDK : Hid (∀ i, F4 i → ¬ F3 i) := Lib.hid (fun i h4 h3 => HDJ.out i h3 h4)
    have hFw3 : Hid (∀ i, F3 i → w.heap.size ≤ i) := Lib.hid (fun i hi => by
      rcases hF3 i hi with rfl | h1
      · exact hg3
      · have := hB4d.out.size; omega)
    have hFw4 : Hid (∀ i, F4 i → w.heap.size ≤ i) := Lib.hid (fun i hi => by
      rcases hF4 i hi with rfl | h1
      · exact hg4
      · have := hB5.out.size; omega)
    have HOK := HH.out.ok hW4.out
    clear HF3l hF3 hF4 hwa4 hb6 hW3 hB5 hB4d HS4d
    generalize clampI a0 1 65536 = m at *
    generalize (clampI e0 0 1000).toNat = z at *
    obtain ⟨hok0, hm1, hm2, hzz⟩ := HOK
    clear hok0
    go_wp2_with fail
    go_loopg [64] (a1.size + 2) (fun gn iv wr => ∃ (i : Nat) (s : WS), i ≤ a1.size + 2 ∧ gn = a1.size + 2 - i ∧ iv = .int .i64 (i : Int) ∧ Hid (WA wr k3 g3 F3 a1 a2 m z s) ∧ Hid (WA wr k4 g4 F4 a1 a2 m z s) ∧ Below w.heap.size w wr)
    case atStart => exact ⟨0, WS.start, by omega, by omega, rfl, hW3b, hW4, hB6.out⟩
    case round =>
      clear hW3b hW4 hB6
      obtain ⟨i, s, hi, rfl, rfl, HA3, HA4, hBe⟩ := hrel
      by_cases hlt : i < a1.size + 2
      · have hok := (HH.out.ok HA3.out).1
        have hpp := Lib.hid (WS.peek_peek (S := a2) hm1 hok)
        have HP1 := Lib.hid (HH.out.peek_on HA3.out (by omega) (by omega) HEL.out hBe hFw3.out)
        obtain ⟨p, hp⟩ : ∃ p, s.peek a1 a2 m z = p := ⟨_, rfl⟩
        have HP := Lib.hid hp
        rw [hp] at HP1 hpp
        obtain ⟨b, hb⟩ : ∃ b, p.byte a1 = b := ⟨_, rfl⟩
        obtain ⟨cd, hc⟩ : ∃ cd, p.code = cd := ⟨_, rfl⟩
        obtain ⟨s', hs⟩ : ∃ s', p.take = s' := ⟨_, rfl⟩
        have HB := Lib.hid hb
        have HC := Lib.hid hc
        have HS := Lib.hid hs
        rw [hb, hc] at HP1
        clear hp hb hc hs hok
        go_wp2_with fail
        refine HP1.out.mono ?_
        rintro e w7 ⟨rfl, hwa, hB7, hc7⟩
        have HA37 := Lib.hid hwa
        have HA47 := Lib.hid (HH.out.aside HA4.out HA3.out HDK.out hc7)
        have HP2 := Lib.hid (HH.out.peek_is HA37.out hpp.out HB.out HC.out (by omega) (by omega) HEL.out hB7 hFw3.out)
        clear hwa hc7 HP1 HA3 HA4 hB7 hBe
        go_wp2_with fail
        refine HP2.out.mono ?_
        rintro e w8 ⟨rfl, hwa, hB8, hc8⟩
        have HA38 := Lib.hid hwa
        have HA48 := Lib.hid (HH.out.aside HA47.out HA37.out HDK.out hc8)
        have HN3 := Lib.hid (HH.out.next_is HA38.out hpp.out HB.out HC.out HS.out (by omega) (by omega) HEL.out hB8 hFw3.out)
        clear hwa hc8 HP2 HA37 HA47 hB8
        go_wp2_with fail
        refine HN3.out.mono ?_
        rintro e w9 ⟨rfl, hwa, hB9, hc9⟩
        have HA39 := Lib.hid hwa
        have HA49 := Lib.hid (HH.out.aside HA48.out HA38.out HDK.out hc9)
        have HN4 := Lib.hid (HH.out.next_is HA49.out HP.out HB.out HC.out HS.out (by omega) (by omega) HEL.out hB9 hFw4.out)
        clear hwa hc9 HN3 HA38 HA48 hB9
        go_wp2_with fail
        refine HN4.out.mono ?_
        rintro e wa ⟨rfl, hwa, hBa, hca⟩
        have HA4a := Lib.hid hwa
        have HA3a := Lib.hid (HH.out.aside HA39.out HA49.out HDJ.out hca)
        have HQ1 := Lib.hid (calls_any g3 a1 a2 s'.g s'.c s'.o wa (HH.out.src HA3a.out))
        have HQ2 := Lib.hid (calls_any g4 a1 a2 s'.g s'.c s'.o wa (HH.out.src HA4a.out))
        clear hwa hca HN4 HA39 HA49 HB HC HS HP hpp
        generalize s'.c = cv at *
        have k1 : (b != b) = false := by simp
        have k2 : (cd != cd) = false := by simp
        have k3 : ((cv : Int) != (cv : Int)) = false := by simp
        go_wp2_with fail
        refine HQ1.out.mono ?_
        rintro e wb ⟨rfl, rfl⟩
        go_wp2_with fail
        refine HQ2.out.mono ?_
        rintro e wb ⟨rfl, rfl⟩
        go_wp2_with fail
        go_roundg (a1.size + 2 - (i + 1))
        case measure => omega
        case rel => exact ⟨i + 1, s', by omega, rfl, by go_num, HA3a, HA4a, hBa⟩
      · go_wp2_with fail
        go_ret
        exact ⟨rfl, hBe⟩

end Go.Proofs.Ytlaeoacaihooiaa
