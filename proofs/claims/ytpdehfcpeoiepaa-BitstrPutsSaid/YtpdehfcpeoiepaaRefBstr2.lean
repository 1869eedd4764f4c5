/- What the reference's Right, Put and Bit of bit strings give. Of every text and number (Put, Bit: of at most a million bytes). -/
import Derived.Test.YtpdehfcpeoiepaaRefBstr
namespace Go.Proofs.Ytpdehfcpeoiepaa
open Go.RowKit Go.PlainAid
set_option linter.unusedVariables false
theorem refRight_any (s : ByteArray) (hs : s.size ≤ maxLen) (w : World) :
    Calls Try.prog 16 #[.string s] w fun e w' => e = .returned (.bool (bsR s)) ∧ Below w.heap.size w w' := by
  have hb9 : (s.size : Int) ≤ 9223372036854775807 := by unfold maxLen at hs; omega
  by_cases h0 : 0 < s.size
  · have hi0 : (0 : Int) < (s.size : Int) := by omega
    have HW := Lib.hid (refWrong_any s.size s hs hb9)
    have HF : Hid ((bsW s.size s == -1) = bsR s) := Lib.hid (by unfold bsR; by_cases h : bsW s.size s = -1; rw [h, decide_eq_true ⟨h0, rfl⟩]; rfl; rw [decide_eq_false (fun e => h e.2)]; simpa using h)
    generalize bsW s.size s = W at *
    go_enter Try.func16, Try.ntmps16
    go_wp2_with fail
    refine (HW.out _).mono ?_
    rintro e w1 ⟨rfl, hb1⟩
    go_wp2
    go_returns
    exact ⟨rets1 (congrArg Value.bool HF.out), hb1⟩
  · have hz : s.size = 0 := by omega
    have HF : Hid (false = bsR s) := Lib.hid (decide_eq_false (fun e => h0 e.1)).symm
    clear h0
    go_enter Try.func16, Try.ntmps16
    go_wp2
    go_returns
    exact ⟨rets1 (congrArg Value.bool HF.out), Below.refl _ _⟩
set_option maxHeartbeats 1600000 in
theorem refPut_any (u : Int) (b : ByteArray) (hb : b.size ≤ 1000000) (w : World) :
    Calls Try.prog 14 #[.int .i64 u, .string b] w fun e w' => e = .returned (.tuple #[.string (bpS u b), .bool (bpB u b)]) ∧ Below w.heap.size w w' := by
  by_cases h0 : u < 0
  · obtain ⟨p1, p2⟩ := bp_out b (u := u) (by omega)
    have HB : Hid (false = bpB u b) := Lib.hid p1.symm
    have HS : Hid ((⟨#[]⟩ : ByteArray) = bpS u b) := Lib.hid p2.symm
    clear p1 p2
    go_enter Try.func14, Try.ntmps14
    go_wp2
    go_returns
    exact ⟨rets2 (congrArg Value.string HS.out) (congrArg Value.bool HB.out), Below.refl _ _⟩
  · by_cases h7 : 7 < u
    · obtain ⟨p1, p2⟩ := bp_out b (u := u) (by omega)
      have HB : Hid (false = bpB u b) := Lib.hid p1.symm
      have HS : Hid ((⟨#[]⟩ : ByteArray) = bpS u b) := Lib.hid p2.symm
      clear p1 p2
      go_enter Try.func14, Try.ntmps14
      go_wp2
      go_returns
      exact ⟨rets2 (congrArg Value.string HS.out) (congrArg Value.bool HB.out), Below.refl _ _⟩
    · have hu8 : u % 256 = u := by omega
      have hcv := conv_one w u
      have hsz := bpC_size u b
      have HR := Lib.hid (refRight_any (bpC u b) (by rw [hsz]; unfold maxLen; omega))
      have HB := Lib.hid (bp_in b (u := u) (by omega))
      have HC : Hid (strOfNums [u] ++ b = bpC u b) := Lib.hid rfl
      have HS : Hid (bpS u b = if bpB u b = true then bpC u b else ⟨#[]⟩) := Lib.hid rfl
      have hmx : ¬ 9223372036854775807 < (strOfNums [u]).size + b.size := by rw [strOfNums_size]; simp only [List.length_cons, List.length_nil]; omega
      generalize bpC u b = C at *
      generalize bpB u b = B at *
      generalize bpS u b = S at *
      go_enter Try.func14, Try.ntmps14
      go_wp2_with fail
      rw [HC.out]
      refine (HR.out _).mono ?_
      rintro e w1 ⟨rfl, hb1⟩
      have hB1 := ((Below.refl w.heap.size w).alloc (Nat.le_refl _) (.cells #[.int .u8 u] 5)).trans (hb1.mono (by simp))
      rw [← HB.out]
      clear hb1 HR hcv
      cases B
      · have HF : Hid ((⟨#[]⟩ : ByteArray) = S) := Lib.hid (by rw [HS.out]; rfl)
        clear HS HC
        go_wp2
        go_returns
        exact ⟨rets2 (congrArg Value.string HF.out) rfl, hB1⟩
      · have HF : Hid (strOfNums [u] ++ b = S) := Lib.hid (by rw [HS.out, HC.out]; rfl)
        have hcv := conv_one w1 u
        clear HS HC
        go_wp2
        go_returns
        exact ⟨rets2 (congrArg Value.string HF.out) rfl, hB1.alloc hB1.size _⟩
set_option maxRecDepth 100000 in
set_option maxHeartbeats 1600000 in
theorem refBit_any (s : ByteArray) (i : Int) (hs : s.size ≤ 1000000) (hi1 : i ≤ 9223372036854775807) (w : World) :
    Calls Try.prog 18 #[.string s, .int .i64 i] w fun e w' => e = .returned (.bool (bsBit s i)) ∧ Below w.heap.size w w' := by
  have hb9 : (s.size : Int) ≤ 9223372036854775807 := by omega
  have HR := Lib.hid (refRight_any s (by unfold maxLen; omega))
  cases hr : bsR s
  · have HF : Hid (false = bsBit s i) := Lib.hid (decide_eq_false (fun h => by rw [hr] at h; cases h.1)).symm
    rw [hr] at HR
    clear hr
    go_enter Try.func18, Try.ntmps18
    go_wp2_with fail
    refine (HR.out _).mono ?_
    rintro e w1 ⟨rfl, hb1⟩
    go_wp2
    go_returns
    exact ⟨rets1 (congrArg Value.bool HF.out), hb1⟩
  · have h0 : 0 < s.size := ((bsR_iff s).1 hr).1
    have hu7 := bsR_le hr
    have hi0 : (0 : Int) < (s.size : Int) := by omega
    have g0 := get_bt s 0 h0
    have hx0 := bt_nonneg s 0
    have hx1 := bt_le s 0
    have HXW : Hid (IntKind.i64.wrap (bt s 0) = bt s 0) := Lib.hid (by rw [IntKind.wrap_i64]; omega)
    by_cases hi : i < 0
    · have HF : Hid (false = bsBit s i) := Lib.hid (decide_eq_false (fun h => by omega)).symm
      rw [hr] at HR
      clear hr
      go_enter Try.func18, Try.ntmps18
      go_wp2_with fail
      refine (HR.out _).mono ?_
      rintro e w1 ⟨rfl, hb1⟩
      go_wp2
      go_returns
      exact ⟨rets1 (congrArg Value.bool HF.out), hb1⟩
    · have h00 : 0 ≤ i := by omega
      have HG := Lib.hid (bit_bound s i hr h00)
      by_cases hq : 8 * ((s.size : Int) - 1) - bt s 0 - 1 < i
      · have HF : Hid (false = bsBit s i) := Lib.hid (by rw [HG.out]; exact (decide_eq_false (fun h => by omega)).symm)
        rw [hr] at HR
        clear hr HG
        generalize bt s 0 = x at *
        go_enter Try.func18, Try.ntmps18
        go_wp2_with fail
        refine (HR.out _).mono ?_
        rintro e w1 ⟨rfl, hb1⟩
        go_wp2
        go_returns
        exact ⟨rets1 (congrArg Value.bool HF.out), hb1⟩
      · have hltn : 1 + (i / 8).toNat < s.size := by omega
        have hgx := get_bt s (1 + (i / 8).toNat) hltn
        have y0 := bt_nonneg s (1 + (i / 8).toNat)
        have y1 := bt_le s (1 + (i / 8).toNat)
        have hidx : (1 + i / 8).toNat = 1 + (i / 8).toNat := by omega
        have hlt : (1 + i / 8) < (s.size : Int) := by omega
        have htd : i.tdiv 8 = i / 8 := Int.tdiv_eq_ediv_of_nonneg h00
        have htm : i.tmod 8 = i % 8 := Int.tmod_eq_emod_of_nonneg h00
        have hk0 : 0 ≤ i % 8 := by omega
        have hk1 : i % 8 ≤ 7 := by omega
        have hq0 : 0 ≤ i / 8 := by omega
        have hq1 : i / 8 ≤ 1000000 := by omega
        have HL8 := Lib.hid (refLow_any (bt s (1 + (i / 8).toNat)) (8 - i % 8) y0 y1 (by omega) (by omega))
        have HL7 := Lib.hid (refLow_any (bt s (1 + (i / 8).toNat)) (7 - i % 8) y0 y1 (by omega) (by omega))
        have HF : Hid ((lw (bt s (1 + (i / 8).toNat)) (8 - i % 8) != lw (bt s (1 + (i / 8).toNat)) (7 - i % 8)) = bsBit s i) := Lib.hid (by
          rw [HG.out]
          have := bit_low (bt s (1 + (i / 8).toNat)) (i % 8) hk0 hk1
          by_cases h : bitAt (bt s (1 + (i / 8).toNat)) (i % 8) = 1
          · rw [decide_eq_true ⟨by omega, h⟩]; exact bne_iff_ne.2 (this.1 h)
          · rw [decide_eq_false (fun e => h e.2)]
            cases hb : (lw (bt s (1 + (i / 8).toNat)) (8 - i % 8) != lw (bt s (1 + (i / 8).toNat)) (7 - i % 8))
            · rfl
            · exact absurd (this.2 (bne_iff_ne.1 hb)) h)
        rw [hr] at HR
        clear hr HG
        generalize lw (bt s (1 + (i / 8).toNat)) (8 - i % 8) = l8 at *
        generalize lw (bt s (1 + (i / 8).toNat)) (7 - i % 8) = l7 at *
        obtain ⟨y, hye⟩ : ∃ y, bt s (1 + (i / 8).toNat) = y := ⟨_, rfl⟩
        obtain ⟨x, hxe⟩ : ∃ x, bt s 0 = x := ⟨_, rfl⟩
        rw [hye] at hgx y0 y1 HL8 HL7
        rw [hxe] at g0 hx0 hx1 hq HXW
        clear hye hxe
        generalize bsBit s i = B at *
        go_enter Try.func18, Try.ntmps18
        go_wp2_with fail
        refine (HR.out _).mono ?_
        rintro e w1 ⟨rfl, hb1⟩
        go_wp2_with fail
        go_quiet ((first | (go_at_call 19; with_reducible exact Calls.quiet_of_same (HL8.out _)) | (go_at_call 19; with_reducible exact Calls.quiet_of_same (HL7.out _))))
        go_wp2
        go_returns
        exact ⟨rets1 (congrArg Value.bool HF.out), ⟨hb1.os, hb1.tape, hb1.output, hb1.size, hb1.block⟩⟩
end Go.Proofs.Ytpdehfcpeoiepaa
