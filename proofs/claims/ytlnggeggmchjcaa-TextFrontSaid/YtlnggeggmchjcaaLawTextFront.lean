/- Of every content and number (of more than 300 bytes the law asks only for the fixed answers): a PrintableString is an IA5String, that UTF-8, and each beginning of UTF-8 is not wrong. No condition but the form of the row. -/
import Derived.Test.YtlnggeggmchjcaaTextAwake
import Derived.Test.YtlnggeggmchjcaaRows
import Derived.WalkKit
import Derived.ProofKit
import Derived.OpenShut
import Derived.ShutString
import Derived.ChangeOld
import Derived.Below
namespace Go.Proofs.Ytlnggeggmchjcaa
open Go.ChangeShapes Go.WideShapes Go.ChangeAt Go.RowKit
open Go.ChangeMaps (open_string shut_string)
set_option linter.unusedVariables false
open Go.PlainAid in
set_option maxRecDepth 100000 in
set_option maxHeartbeats 16000000 in
theorem walkTextFront (a0 : ByteArray) (a1 : Int) (b0 : a0.size ≤ maxLen) (b1 : -9223372036854775808 ≤ a1 ∧ a1 ≤ 9223372036854775807) (w : World) :
    Calls Try.prog 6 #[.string a0, .int .i64 a1] w fun e w' => e = .returned (.bool true) ∧ Below w.heap.size w w' := by
  have hb9 : (a0.size : Int) ≤ 9223372036854775807 := by unfold maxLen at b0; omega
  by_cases hl : (300 : Int) < (a0.size : Int)
  · go_enter Try.func6, Try.ntmps6
    go_wp2_with fail
    refine (awake14_any _).mono ?_
    rintro e w1 ⟨rfl, hB1⟩
    go_wp2_with fail
    refine (awake14_any _).mono ?_
    rintro e w2 ⟨rfl, hb⟩
    have hB2 := hB1.trans (hb.mono hB1.size)
    clear hb hB1
    go_wp2
    go_returns
    exact ⟨rfl, hB2⟩
  · have hl2 : a0.size ≤ 900000 := by omega
    have HC19 := Lib.hid (textCheck_any 19 a0 hl2)
    have HC22 := Lib.hid (textCheck_any 22 a0 hl2)
    have HC12 := Lib.hid (textCheck_any 12 a0 hl2)
    have HNW : Hid (decide (rightT 12 (bl a0)) = true → txW 12 a0.size (bl a0) = -1) := Lib.hid (fun h => by rw [← bl_length]; exact (tx_right 12 (bl a0)).1 (of_decide_eq_true h))
    have h1 : decide (rightT 19 (bl a0)) = true → decide (rightT 22 (bl a0)) = true := fun h => decide_eq_true (right_print (of_decide_eq_true h))
    have h2 : decide (rightT 22 (bl a0)) = true → decide (rightT 12 (bl a0)) = true := fun h => decide_eq_true (right_ia5 (of_decide_eq_true h))
    generalize decide (rightT 19 (bl a0)) = X at *
    generalize decide (rightT 22 (bl a0)) = Y at *
    generalize decide (rightT 12 (bl a0)) = Z at *
    have hcase : (X = true ∧ Y = true ∧ Z = true) ∨ (X = false ∧ Y = true ∧ Z = true) ∨ (X = false ∧ Y = false ∧ Z = true) ∨ (X = false ∧ Y = false ∧ Z = false) := by
      cases X
      · cases Y
        · cases Z
          · exact .inr (.inr (.inr ⟨rfl, rfl, rfl⟩))
          · exact .inr (.inr (.inl ⟨rfl, rfl, rfl⟩))
        · exact .inr (.inl ⟨rfl, rfl, h2 rfl⟩)
      · exact .inl ⟨rfl, h1 rfl, h2 (h1 rfl)⟩
    clear h1 h2 b0
    rcases hcase with ⟨rfl, rfl, rfl⟩ | ⟨rfl, rfl, rfl⟩ | ⟨rfl, rfl, rfl⟩ | ⟨rfl, rfl, rfl⟩
    · skip
      by_cases hn0 : a1 < 0
      · go_enter Try.func6, Try.ntmps6
        go_wp2_with fail
        refine (awake14_any _).mono ?_
        rintro e w1 ⟨rfl, hB1⟩
        go_wp2_with fail
        refine (HC19.out _).mono ?_
        rintro e w2 ⟨rfl, hb⟩
        have hB2 := hB1.trans (hb.mono hB1.size)
        clear hb hB1
        go_wp2_with fail
        refine (HC22.out _).mono ?_
        rintro e w3 ⟨rfl, hb⟩
        have hB3 := hB2.trans (hb.mono hB2.size)
        clear hb hB2
        go_wp2_with fail
        refine (HC22.out _).mono ?_
        rintro e w4 ⟨rfl, hb⟩
        have hB4 := hB3.trans (hb.mono hB3.size)
        clear hb hB3
        go_wp2_with fail
        refine (HC12.out _).mono ?_
        rintro e w5 ⟨rfl, hb⟩
        have hB5 := hB4.trans (hb.mono hB4.size)
        clear hb hB4
        go_wp2_with fail
        refine (HC12.out _).mono ?_
        rintro e w6 ⟨rfl, hb⟩
        have hB6 := hB5.trans (hb.mono hB5.size)
        clear hb hB5
        go_wp2
        go_returns
        exact ⟨rfl, hB6⟩
      · by_cases hn1 : (a0.size : Int) < a1
        · go_enter Try.func6, Try.ntmps6
          go_wp2_with fail
          refine (awake14_any _).mono ?_
          rintro e w1 ⟨rfl, hB1⟩
          go_wp2_with fail
          refine (HC19.out _).mono ?_
          rintro e w2 ⟨rfl, hb⟩
          have hB2 := hB1.trans (hb.mono hB1.size)
          clear hb hB1
          go_wp2_with fail
          refine (HC22.out _).mono ?_
          rintro e w3 ⟨rfl, hb⟩
          have hB3 := hB2.trans (hb.mono hB2.size)
          clear hb hB2
          go_wp2_with fail
          refine (HC22.out _).mono ?_
          rintro e w4 ⟨rfl, hb⟩
          have hB4 := hB3.trans (hb.mono hB3.size)
          clear hb hB3
          go_wp2_with fail
          refine (HC12.out _).mono ?_
          rintro e w5 ⟨rfl, hb⟩
          have hB5 := hB4.trans (hb.mono hB4.size)
          clear hb hB4
          go_wp2_with fail
          refine (HC12.out _).mono ?_
          rintro e w6 ⟨rfl, hb⟩
          have hB6 := hB5.trans (hb.mono hB5.size)
          clear hb hB5
          go_wp2
          go_returns
          exact ⟨rfl, hB6⟩
        · obtain ⟨n, rfl⟩ : ∃ n : Nat, a1 = (n : Int) := ⟨a1.toNat, by omega⟩
          have hna : n ≤ a0.size := by omega
          have hnw := HNW.out rfl
          have HA0 : Hid (TAt 12 a0.size (bl a0) 0 ⟨12, a0.size, 0, 0, 0⟩ true) := Lib.hid (tAt_start (by omega))
          have HST := Lib.hid (fun (i : Nat) (S : TS) (h : TAt 12 a0.size (bl a0) i S true) (hi : i < (bl a0).length) => tAt_step h hi)
          have HSZ := Lib.hid (bl_length a0)
          have HGB := Lib.hid (get_bt a0)
          have HX := Lib.hid (fun (i : Nat) => (⟨bt_nonneg a0 i, bt_le a0 i⟩ : 0 ≤ bt a0 i ∧ bt a0 i ≤ 255))
          have HBL := Lib.hid (fun (i : Nat) (hi : i < (bl a0).length) => bl_get a0 i hi)
          have HTR := Lib.hid (fun (i : Nat) (S : TS) (ok : Bool) (h : TAt 12 a0.size (bl a0) i S ok) => tAt_true hnw h)
          have H1 := Lib.hid (textStart_yes 12 (a0.size : Int) (by omega))
          clear hnw HNW
          go_enter Try.func6, Try.ntmps6
          go_wp2_with fail
          refine (awake14_any _).mono ?_
          rintro e w1 ⟨rfl, hB1⟩
          go_wp2_with fail
          refine (HC19.out _).mono ?_
          rintro e w2 ⟨rfl, hb⟩
          have hB2 := hB1.trans (hb.mono hB1.size)
          clear hb hB1
          go_wp2_with fail
          refine (HC22.out _).mono ?_
          rintro e w3 ⟨rfl, hb⟩
          have hB3 := hB2.trans (hb.mono hB2.size)
          clear hb hB2
          go_wp2_with fail
          refine (HC22.out _).mono ?_
          rintro e w4 ⟨rfl, hb⟩
          have hB4 := hB3.trans (hb.mono hB3.size)
          clear hb hB3
          go_wp2_with fail
          refine (HC12.out _).mono ?_
          rintro e w5 ⟨rfl, hb⟩
          have hB5 := hB4.trans (hb.mono hB4.size)
          clear hb hB4
          go_wp2_with fail
          refine (HC12.out _).mono ?_
          rintro e w6 ⟨rfl, hb⟩
          have hB6 := hB5.trans (hb.mono hB5.size)
          clear hb hB5
          go_wp2_with fail
          refine (H1.out _).mono ?_
          rintro e w7 ⟨rfl, hb⟩
          have hB7 := hB6.trans (hb.mono hB6.size)
          clear hb hB6
          go_wp2
          go_loopw [6, 7] (fun ov iv wr => ∃ (i : Nat) (p q v y m : Int), ov = .bool true ∧ iv = .int .i64 (i : Int) ∧ i ≤ n ∧ Hid (Row wr w7.heap.size 27 (tC5 p q v y m)) ∧ Hid (Below w.heap.size w wr) ∧ Hid (TAt 12 a0.size (bl a0) i ⟨p, q, v, y, m⟩ true)) (fun _ iv _ => n - (intOf iv).toNat)
          case atStart => exact ⟨0, 12, a0.size, 0, 0, 0, rfl, rfl, by omega, Lib.hid (Row.new w7 27 (tC5 _ _ _ _ _)), Lib.hid (hB7.alloc hB7.size _), HA0⟩
          case round =>
            obtain ⟨i, p, q, v, y, m, rfl, rfl, hi, HRo, HB, HT⟩ := hrel
            by_cases hlt2 : i < n
            · have hlt : i < a0.size := by omega
              have hbt := HGB.out i hlt
              have hll : i < (bl a0).length := by rw [HSZ.out]; exact hlt
              have hz2 := HBL.out i hll
              obtain ⟨⟨p', q', v', y', m'⟩, ok', hst⟩ : ∃ (S : TS) (d : Bool), tStep 12 a0.size (bl a0) i = (S, d) := ⟨_, _, rfl⟩
              have HT2 := Lib.hid (HST.out i _ HT.out hll)
              rw [hst] at HT2
              have HP := Lib.hid (tPush_is HT.out hll (by rw [HSZ.out]; omega) (by omega) (by rw [hz2]; exact HX.out i) hst)
              rw [hz2] at HP
              have hx := HX.out i
              generalize bt a0 i = z at *
              obtain rfl : ok' = true := HTR.out _ _ _ HT2.out
              obtain ⟨hx0, hx1⟩ := hx
              clear hst hz2 HTR
              have h0 : wr.cell? ⟨w7.heap.size, 0, none⟩ = some (.int .i64 p) := HRo.out.cell 0
              have h1 : wr.cell? ⟨w7.heap.size, 1, none⟩ = some (.int .i64 q) := HRo.out.cell 1
              have h2 : wr.cell? ⟨w7.heap.size, 2, none⟩ = some (.int .i64 v) := HRo.out.cell 2
              have h3 : wr.cell? ⟨w7.heap.size, 3, none⟩ = some (.int .u8 y) := HRo.out.cell 3
              have h4 : wr.cell? ⟨w7.heap.size, 4, none⟩ = some (.int .u8 m) := HRo.out.cell 4
              have f0 := HRo.out.frozen 0
              have f1 := HRo.out.frozen 1
              have f2 := HRo.out.frozen 2
              have f3 := HRo.out.frozen 3
              have f4 := HRo.out.frozen 4
              have hls := HRo.out.lt
              have hlti : (i : Int) < (n : Int) := by omega
              have hltj : (i : Int) < (a0.size : Int) := by omega
              clear HT
              go_wp2
              go_region_with (go_at_call 11; refine (HP.out _).mono ?_; rintro e w5 ⟨rfl, hb5⟩; obtain ⟨hc0, hf0, hc1, hf1, hc2, hf2, hc3, hf3, hc4, hf4⟩ := txSt_kept hb5 HRo.out rfl)
              all_goals
                have HR5 := Lib.hid (row5t (txRow_kept hb5 HRo.out rfl) (.int .i64 p') (.int .i64 q') (.int .i64 v') (.int .u8 y') (.int .u8 m'))
                have HB5 := Lib.hid (below5t (txBelow_kept hb5 HB.out rfl rfl rfl rfl) hB7.size (.int .i64 p') (.int .i64 q') (.int .i64 v') (.int .u8 y') (.int .u8 m'))
                clear hb5 hc0 hf0 hc1 hf1 hc2 hf2 hc3 hf3 hc4 hf4 h0 h1 h2 h3 h4 f0 f1 f2 f3 f4 hls HRo HB HP
                go_wp2
                go_roundw
                case rel => exact ⟨i + 1, p', q', v', y', m', rfl, by simp, by omega, HR5, HB5, HT2⟩
                case measure => simp [intOf]; omega
            · have hne : ¬ (i : Int) < (n : Int) := by omega
              go_wp2
              go_returns
              exact ⟨rfl, HB.out⟩
    · skip
      by_cases hn0 : a1 < 0
      · go_enter Try.func6, Try.ntmps6
        go_wp2_with fail
        refine (awake14_any _).mono ?_
        rintro e w1 ⟨rfl, hB1⟩
        go_wp2_with fail
        refine (HC19.out _).mono ?_
        rintro e w2 ⟨rfl, hb⟩
        have hB2 := hB1.trans (hb.mono hB1.size)
        clear hb hB1
        go_wp2_with fail
        refine (HC22.out _).mono ?_
        rintro e w3 ⟨rfl, hb⟩
        have hB3 := hB2.trans (hb.mono hB2.size)
        clear hb hB2
        go_wp2_with fail
        refine (HC12.out _).mono ?_
        rintro e w4 ⟨rfl, hb⟩
        have hB4 := hB3.trans (hb.mono hB3.size)
        clear hb hB3
        go_wp2_with fail
        refine (HC12.out _).mono ?_
        rintro e w5 ⟨rfl, hb⟩
        have hB5 := hB4.trans (hb.mono hB4.size)
        clear hb hB4
        go_wp2
        go_returns
        exact ⟨rfl, hB5⟩
      · by_cases hn1 : (a0.size : Int) < a1
        · go_enter Try.func6, Try.ntmps6
          go_wp2_with fail
          refine (awake14_any _).mono ?_
          rintro e w1 ⟨rfl, hB1⟩
          go_wp2_with fail
          refine (HC19.out _).mono ?_
          rintro e w2 ⟨rfl, hb⟩
          have hB2 := hB1.trans (hb.mono hB1.size)
          clear hb hB1
          go_wp2_with fail
          refine (HC22.out _).mono ?_
          rintro e w3 ⟨rfl, hb⟩
          have hB3 := hB2.trans (hb.mono hB2.size)
          clear hb hB2
          go_wp2_with fail
          refine (HC12.out _).mono ?_
          rintro e w4 ⟨rfl, hb⟩
          have hB4 := hB3.trans (hb.mono hB3.size)
          clear hb hB3
          go_wp2_with fail
          refine (HC12.out _).mono ?_
          rintro e w5 ⟨rfl, hb⟩
          have hB5 := hB4.trans (hb.mono hB4.size)
          clear hb hB4
          go_wp2
          go_returns
          exact ⟨rfl, hB5⟩
        · obtain ⟨n, rfl⟩ : ∃ n : Nat, a1 = (n : Int) := ⟨a1.toNat, by omega⟩
          have hna : n ≤ a0.size := by omega
          have hnw := HNW.out rfl
          have HA0 : Hid (TAt 12 a0.size (bl a0) 0 ⟨12, a0.size, 0, 0, 0⟩ true) := Lib.hid (tAt_start (by omega))
          have HST := Lib.hid (fun (i : Nat) (S : TS) (h : TAt 12 a0.size (bl a0) i S true) (hi : i < (bl a0).length) => tAt_step h hi)
          have HSZ := Lib.hid (bl_length a0)
          have HGB := Lib.hid (get_bt a0)
          have HX := Lib.hid (fun (i : Nat) => (⟨bt_nonneg a0 i, bt_le a0 i⟩ : 0 ≤ bt a0 i ∧ bt a0 i ≤ 255))
          have HBL := Lib.hid (fun (i : Nat) (hi : i < (bl a0).length) => bl_get a0 i hi)
          have HTR := Lib.hid (fun (i : Nat) (S : TS) (ok : Bool) (h : TAt 12 a0.size (bl a0) i S ok) => tAt_true hnw h)
          have H1 := Lib.hid (textStart_yes 12 (a0.size : Int) (by omega))
          clear hnw HNW
          go_enter Try.func6, Try.ntmps6
          go_wp2_with fail
          refine (awake14_any _).mono ?_
          rintro e w1 ⟨rfl, hB1⟩
          go_wp2_with fail
          refine (HC19.out _).mono ?_
          rintro e w2 ⟨rfl, hb⟩
          have hB2 := hB1.trans (hb.mono hB1.size)
          clear hb hB1
          go_wp2_with fail
          refine (HC22.out _).mono ?_
          rintro e w3 ⟨rfl, hb⟩
          have hB3 := hB2.trans (hb.mono hB2.size)
          clear hb hB2
          go_wp2_with fail
          refine (HC12.out _).mono ?_
          rintro e w4 ⟨rfl, hb⟩
          have hB4 := hB3.trans (hb.mono hB3.size)
          clear hb hB3
          go_wp2_with fail
          refine (HC12.out _).mono ?_
          rintro e w5 ⟨rfl, hb⟩
          have hB5 := hB4.trans (hb.mono hB4.size)
          clear hb hB4
          go_wp2_with fail
          refine (H1.out _).mono ?_
          rintro e w6 ⟨rfl, hb⟩
          have hB6 := hB5.trans (hb.mono hB5.size)
          clear hb hB5
          go_wp2
          go_loopw [6, 7] (fun ov iv wr => ∃ (i : Nat) (p q v y m : Int), ov = .bool true ∧ iv = .int .i64 (i : Int) ∧ i ≤ n ∧ Hid (Row wr w6.heap.size 27 (tC5 p q v y m)) ∧ Hid (Below w.heap.size w wr) ∧ Hid (TAt 12 a0.size (bl a0) i ⟨p, q, v, y, m⟩ true)) (fun _ iv _ => n - (intOf iv).toNat)
          case atStart => exact ⟨0, 12, a0.size, 0, 0, 0, rfl, rfl, by omega, Lib.hid (Row.new w6 27 (tC5 _ _ _ _ _)), Lib.hid (hB6.alloc hB6.size _), HA0⟩
          case round =>
            obtain ⟨i, p, q, v, y, m, rfl, rfl, hi, HRo, HB, HT⟩ := hrel
            by_cases hlt2 : i < n
            · have hlt : i < a0.size := by omega
              have hbt := HGB.out i hlt
              have hll : i < (bl a0).length := by rw [HSZ.out]; exact hlt
              have hz2 := HBL.out i hll
              obtain ⟨⟨p', q', v', y', m'⟩, ok', hst⟩ : ∃ (S : TS) (d : Bool), tStep 12 a0.size (bl a0) i = (S, d) := ⟨_, _, rfl⟩
              have HT2 := Lib.hid (HST.out i _ HT.out hll)
              rw [hst] at HT2
              have HP := Lib.hid (tPush_is HT.out hll (by rw [HSZ.out]; omega) (by omega) (by rw [hz2]; exact HX.out i) hst)
              rw [hz2] at HP
              have hx := HX.out i
              generalize bt a0 i = z at *
              obtain rfl : ok' = true := HTR.out _ _ _ HT2.out
              obtain ⟨hx0, hx1⟩ := hx
              clear hst hz2 HTR
              have h0 : wr.cell? ⟨w6.heap.size, 0, none⟩ = some (.int .i64 p) := HRo.out.cell 0
              have h1 : wr.cell? ⟨w6.heap.size, 1, none⟩ = some (.int .i64 q) := HRo.out.cell 1
              have h2 : wr.cell? ⟨w6.heap.size, 2, none⟩ = some (.int .i64 v) := HRo.out.cell 2
              have h3 : wr.cell? ⟨w6.heap.size, 3, none⟩ = some (.int .u8 y) := HRo.out.cell 3
              have h4 : wr.cell? ⟨w6.heap.size, 4, none⟩ = some (.int .u8 m) := HRo.out.cell 4
              have f0 := HRo.out.frozen 0
              have f1 := HRo.out.frozen 1
              have f2 := HRo.out.frozen 2
              have f3 := HRo.out.frozen 3
              have f4 := HRo.out.frozen 4
              have hls := HRo.out.lt
              have hlti : (i : Int) < (n : Int) := by omega
              have hltj : (i : Int) < (a0.size : Int) := by omega
              clear HT
              go_wp2
              go_region_with (go_at_call 11; refine (HP.out _).mono ?_; rintro e w5 ⟨rfl, hb5⟩; obtain ⟨hc0, hf0, hc1, hf1, hc2, hf2, hc3, hf3, hc4, hf4⟩ := txSt_kept hb5 HRo.out rfl)
              all_goals
                have HR5 := Lib.hid (row5t (txRow_kept hb5 HRo.out rfl) (.int .i64 p') (.int .i64 q') (.int .i64 v') (.int .u8 y') (.int .u8 m'))
                have HB5 := Lib.hid (below5t (txBelow_kept hb5 HB.out rfl rfl rfl rfl) hB6.size (.int .i64 p') (.int .i64 q') (.int .i64 v') (.int .u8 y') (.int .u8 m'))
                clear hb5 hc0 hf0 hc1 hf1 hc2 hf2 hc3 hf3 hc4 hf4 h0 h1 h2 h3 h4 f0 f1 f2 f3 f4 hls HRo HB HP
                go_wp2
                go_roundw
                case rel => exact ⟨i + 1, p', q', v', y', m', rfl, by simp, by omega, HR5, HB5, HT2⟩
                case measure => simp [intOf]; omega
            · have hne : ¬ (i : Int) < (n : Int) := by omega
              go_wp2
              go_returns
              exact ⟨rfl, HB.out⟩
    · skip
      by_cases hn0 : a1 < 0
      · go_enter Try.func6, Try.ntmps6
        go_wp2_with fail
        refine (awake14_any _).mono ?_
        rintro e w1 ⟨rfl, hB1⟩
        go_wp2_with fail
        refine (HC19.out _).mono ?_
        rintro e w2 ⟨rfl, hb⟩
        have hB2 := hB1.trans (hb.mono hB1.size)
        clear hb hB1
        go_wp2_with fail
        refine (HC22.out _).mono ?_
        rintro e w3 ⟨rfl, hb⟩
        have hB3 := hB2.trans (hb.mono hB2.size)
        clear hb hB2
        go_wp2_with fail
        refine (HC12.out _).mono ?_
        rintro e w4 ⟨rfl, hb⟩
        have hB4 := hB3.trans (hb.mono hB3.size)
        clear hb hB3
        go_wp2
        go_returns
        exact ⟨rfl, hB4⟩
      · by_cases hn1 : (a0.size : Int) < a1
        · go_enter Try.func6, Try.ntmps6
          go_wp2_with fail
          refine (awake14_any _).mono ?_
          rintro e w1 ⟨rfl, hB1⟩
          go_wp2_with fail
          refine (HC19.out _).mono ?_
          rintro e w2 ⟨rfl, hb⟩
          have hB2 := hB1.trans (hb.mono hB1.size)
          clear hb hB1
          go_wp2_with fail
          refine (HC22.out _).mono ?_
          rintro e w3 ⟨rfl, hb⟩
          have hB3 := hB2.trans (hb.mono hB2.size)
          clear hb hB2
          go_wp2_with fail
          refine (HC12.out _).mono ?_
          rintro e w4 ⟨rfl, hb⟩
          have hB4 := hB3.trans (hb.mono hB3.size)
          clear hb hB3
          go_wp2
          go_returns
          exact ⟨rfl, hB4⟩
        · obtain ⟨n, rfl⟩ : ∃ n : Nat, a1 = (n : Int) := ⟨a1.toNat, by omega⟩
          have hna : n ≤ a0.size := by omega
          have hnw := HNW.out rfl
          have HA0 : Hid (TAt 12 a0.size (bl a0) 0 ⟨12, a0.size, 0, 0, 0⟩ true) := Lib.hid (tAt_start (by omega))
          have HST := Lib.hid (fun (i : Nat) (S : TS) (h : TAt 12 a0.size (bl a0) i S true) (hi : i < (bl a0).length) => tAt_step h hi)
          have HSZ := Lib.hid (bl_length a0)
          have HGB := Lib.hid (get_bt a0)
          have HX := Lib.hid (fun (i : Nat) => (⟨bt_nonneg a0 i, bt_le a0 i⟩ : 0 ≤ bt a0 i ∧ bt a0 i ≤ 255))
          have HBL := Lib.hid (fun (i : Nat) (hi : i < (bl a0).length) => bl_get a0 i hi)
          have HTR := Lib.hid (fun (i : Nat) (S : TS) (ok : Bool) (h : TAt 12 a0.size (bl a0) i S ok) => tAt_true hnw h)
          have H1 := Lib.hid (textStart_yes 12 (a0.size : Int) (by omega))
          clear hnw HNW
          go_enter Try.func6, Try.ntmps6
          go_wp2_with fail
          refine (awake14_any _).mono ?_
          rintro e w1 ⟨rfl, hB1⟩
          go_wp2_with fail
          refine (HC19.out _).mono ?_
          rintro e w2 ⟨rfl, hb⟩
          have hB2 := hB1.trans (hb.mono hB1.size)
          clear hb hB1
          go_wp2_with fail
          refine (HC22.out _).mono ?_
          rintro e w3 ⟨rfl, hb⟩
          have hB3 := hB2.trans (hb.mono hB2.size)
          clear hb hB2
          go_wp2_with fail
          refine (HC12.out _).mono ?_
          rintro e w4 ⟨rfl, hb⟩
          have hB4 := hB3.trans (hb.mono hB3.size)
          clear hb hB3
          go_wp2_with fail
          refine (H1.out _).mono ?_
          rintro e w5 ⟨rfl, hb⟩
          have hB5 := hB4.trans (hb.mono hB4.size)
          clear hb hB4
          go_wp2
          go_loopw [6, 7] (fun ov iv wr => ∃ (i : Nat) (p q v y m : Int), ov = .bool true ∧ iv = .int .i64 (i : Int) ∧ i ≤ n ∧ Hid (Row wr w5.heap.size 27 (tC5 p q v y m)) ∧ Hid (Below w.heap.size w wr) ∧ Hid (TAt 12 a0.size (bl a0) i ⟨p, q, v, y, m⟩ true)) (fun _ iv _ => n - (intOf iv).toNat)
          case atStart => exact ⟨0, 12, a0.size, 0, 0, 0, rfl, rfl, by omega, Lib.hid (Row.new w5 27 (tC5 _ _ _ _ _)), Lib.hid (hB5.alloc hB5.size _), HA0⟩
          case round =>
            obtain ⟨i, p, q, v, y, m, rfl, rfl, hi, HRo, HB, HT⟩ := hrel
            by_cases hlt2 : i < n
            · have hlt : i < a0.size := by omega
              have hbt := HGB.out i hlt
              have hll : i < (bl a0).length := by rw [HSZ.out]; exact hlt
              have hz2 := HBL.out i hll
              obtain ⟨⟨p', q', v', y', m'⟩, ok', hst⟩ : ∃ (S : TS) (d : Bool), tStep 12 a0.size (bl a0) i = (S, d) := ⟨_, _, rfl⟩
              have HT2 := Lib.hid (HST.out i _ HT.out hll)
              rw [hst] at HT2
              have HP := Lib.hid (tPush_is HT.out hll (by rw [HSZ.out]; omega) (by omega) (by rw [hz2]; exact HX.out i) hst)
              rw [hz2] at HP
              have hx := HX.out i
              generalize bt a0 i = z at *
              obtain rfl : ok' = true := HTR.out _ _ _ HT2.out
              obtain ⟨hx0, hx1⟩ := hx
              clear hst hz2 HTR
              have h0 : wr.cell? ⟨w5.heap.size, 0, none⟩ = some (.int .i64 p) := HRo.out.cell 0
              have h1 : wr.cell? ⟨w5.heap.size, 1, none⟩ = some (.int .i64 q) := HRo.out.cell 1
              have h2 : wr.cell? ⟨w5.heap.size, 2, none⟩ = some (.int .i64 v) := HRo.out.cell 2
              have h3 : wr.cell? ⟨w5.heap.size, 3, none⟩ = some (.int .u8 y) := HRo.out.cell 3
              have h4 : wr.cell? ⟨w5.heap.size, 4, none⟩ = some (.int .u8 m) := HRo.out.cell 4
              have f0 := HRo.out.frozen 0
              have f1 := HRo.out.frozen 1
              have f2 := HRo.out.frozen 2
              have f3 := HRo.out.frozen 3
              have f4 := HRo.out.frozen 4
              have hls := HRo.out.lt
              have hlti : (i : Int) < (n : Int) := by omega
              have hltj : (i : Int) < (a0.size : Int) := by omega
              clear HT
              go_wp2
              go_region_with (go_at_call 11; refine (HP.out _).mono ?_; rintro e w5 ⟨rfl, hb5⟩; obtain ⟨hc0, hf0, hc1, hf1, hc2, hf2, hc3, hf3, hc4, hf4⟩ := txSt_kept hb5 HRo.out rfl)
              all_goals
                have HR5 := Lib.hid (row5t (txRow_kept hb5 HRo.out rfl) (.int .i64 p') (.int .i64 q') (.int .i64 v') (.int .u8 y') (.int .u8 m'))
                have HB5 := Lib.hid (below5t (txBelow_kept hb5 HB.out rfl rfl rfl rfl) hB5.size (.int .i64 p') (.int .i64 q') (.int .i64 v') (.int .u8 y') (.int .u8 m'))
                clear hb5 hc0 hf0 hc1 hf1 hc2 hf2 hc3 hf3 hc4 hf4 h0 h1 h2 h3 h4 f0 f1 f2 f3 f4 hls HRo HB HP
                go_wp2
                go_roundw
                case rel => exact ⟨i + 1, p', q', v', y', m', rfl, by simp, by omega, HR5, HB5, HT2⟩
                case measure => simp [intOf]; omega
            · have hne : ¬ (i : Int) < (n : Int) := by omega
              go_wp2
              go_returns
              exact ⟨rfl, HB.out⟩
    · skip
      clear HNW
      go_enter Try.func6, Try.ntmps6
      go_wp2_with fail
      refine (awake14_any _).mono ?_
      rintro e w1 ⟨rfl, hB1⟩
      go_wp2_with fail
      refine (HC19.out _).mono ?_
      rintro e w2 ⟨rfl, hb⟩
      have hB2 := hB1.trans (hb.mono hB1.size)
      clear hb hB1
      go_wp2_with fail
      refine (HC22.out _).mono ?_
      rintro e w3 ⟨rfl, hb⟩
      have hB3 := hB2.trans (hb.mono hB2.size)
      clear hb hB2
      go_wp2_with fail
      refine (HC12.out _).mono ?_
      rintro e w4 ⟨rfl, hb⟩
      have hB4 := hB3.trans (hb.mono hB3.size)
      clear hb hB3
      go_wp2
      go_returns
      exact ⟨rfl, hB4⟩


/-! ### TextFront: the step from the walk to the statement -/
namespace textFront
theorem own : ownKnob Try.prog.godebug = none := by kernel_rfl
set_option maxRecDepth 100000 in
theorem lifted (os : Os) (started : os.Started) (H : Type) (enc : TypeId × Value → H) :
    ReturnsInHanded {} Try.checked os 6 .any (Rows.textFrontSpec.pre6 enc Try.prog Try.f6 Rows.textFrontRow.domain false) (Rows.textFrontSpec.post enc Try.prog Try.f6 false true false false) := by
  refine returnsInHanded_of_change (C := Try.checked) own started (by kernel_rfl) Try.func6
    (ChangeSpec.witness6 (enc := enc) (C := Try.checked) false ⟨#[], #[.string ByteArray.empty, .int .i64 0], []⟩ 8 (by kernel_rfl) (by kernel_rfl) (by kernel_rfl) (by kernel_rfl)) ?_
  intro W base args ds gs before hval0 hW hcnd _
  have hval : ∀ (j : Nat) t v, Try.f6.params[j]? = some t → args[j]? = some v → Value.okWide Try.prog W .any base t v := hval0
  have hW' := hW
  obtain ⟨p, q, hA0, hV, rfl, hfz, hnd⟩ := hW
  have hA : DataW.TrodAll enc Try.prog W 0 (fun _ => true) true Try.f6.params.toList args.toList ds p := hA0
  rw [Try.params6] at hA hval
  obtain ⟨v0, vs0, d0, ds0, p0, q0, hargs, rfl, rfl, h0, r0⟩ := trodAll_cons hA
  obtain ⟨v1, vs1, d1, ds1, p1, q1, rfl, rfl, rfl, h1, r1⟩ := trodAll_cons r0
  obtain ⟨rfl, rfl, rfl⟩ := trodAll_nil r1
  obtain rfl : args = #[v0, v1] := by cases args; simp_all
  obtain ⟨rfl, rfl⟩ := trodVars_none hV
  obtain ⟨a0, rfl, rfl, rfl, w0⟩ := open_string Try.underlying9 (hval 0 9 v0 rfl rfl) h0
  obtain ⟨a1, rfl, rfl, rfl, w1⟩ := open_int Try.underlying3 (hval 1 3 v1 rfl rfl) h1
  clear hA0 hval0
  simp only [List.append_nil] at hW'
  refine (walkTextFront a0 a1 w0 (bounds_i64 w1) W).mono fun e W' ⟨he, bel⟩ => ?_
  subst he
  exact ⟨_, rfl, _, _, _, [], [], [], hW', trodAll_mk1 (shut_bool Try.underlying4 _), (trodAll_cons_mk (shut_string Try.underlying9 w0) (trodAll_cons_mk (shut_int Try.underlying3 w1) trodAll_mk0)), rfl, bel.frame _, fun h => by cases h⟩
theorem over : Rows.textFrontRow.holds Try.pinned (OpenSpec.ofChange Rows.textFrontSpec) :=
  OpenClaim.holds_of_wide 6 Try.f6 rfl rfl rfl rfl rfl rfl rfl ⟨rfl, rfl, rfl, rfl, rfl⟩ rfl rfl rfl rfl rfl (by kernel_rfl) Try.func6 (by kernel_rfl)
    (of_decide_eq_true (by kernel_rfl)) (by unfold Func.isWrapper; first | (rw [if_pos (by decide +kernel)]; kernel_rfl) | (rw [if_neg (by decide +kernel)]; exact ⟨rfl, rfl⟩))
    (fun os started H enc _ => lifted os started H enc)
/-- THE STATEMENT. -/
theorem proved : Rows.TextFrontSaid := over
end textFront
end Go.Proofs.Ytlnggeggmchjcaa
