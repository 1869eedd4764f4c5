/- What strings.Clone, and bitstr's Put, Get and Bit give: the landed code's contracts. Of every text (Put: of at most a million bytes). -/
import Derived.Test.YtpdehfcpeoiepaaBstrRight
import Derived.Test.YtpdehfcpeoiepaaShelf
import Derived.Lib.SliceRun
import Derived.Deep.RegionWith
namespace Go.Proofs.Ytpdehfcpeoiepaa
open Go.RowKit Go.PlainAid
set_option linter.unusedVariables false
theorem strClone_any (s : ByteArray) (hs : s.size ≤ 281474976710656) (w : World) :
    Calls Try.prog 22 #[.string s] w fun e w' => e = .returned (.string s) ∧ Below w.heap.size w w' := by
  have hl : s.size ≤ 281474976710656 := by omega
  have HC := Lib.hid (Try.stringslite_Clone s w hl)
  clear hs hl
  go_enter Try.func22, Try.ntmps22
  go_wp2_with fail
  refine HC.out.mono ?_
  rintro e w' ⟨rfl, hB⟩
  go_wp2
  go_ret
  exact ⟨rfl, hB⟩
set_option maxHeartbeats 1600000 in
theorem bsPut_any (u : Int) (b : ByteArray) (hb : b.size ≤ 1000000) (w : World) :
    Calls Try.prog 13 #[.int .i64 u, .string b] w fun e w' => e = .returned (.tuple #[.string (bpS u b), .bool (bpB u b)]) ∧ Below w.heap.size w w' := by
  by_cases h0 : u < 0
  · obtain ⟨p1, p2⟩ := bp_out b (u := u) (by omega)
    have HB : Hid (false = bpB u b) := Lib.hid p1.symm
    have HS : Hid ((⟨#[]⟩ : ByteArray) = bpS u b) := Lib.hid p2.symm
    clear p1 p2
    go_enter Try.func13, Try.ntmps13
    go_wp2
    go_returns
    exact ⟨rets2 (congrArg Value.string HS.out) (congrArg Value.bool HB.out), Below.refl _ _⟩
  · by_cases h7 : 7 < u
    · obtain ⟨p1, p2⟩ := bp_out b (u := u) (by omega)
      have HB : Hid (false = bpB u b) := Lib.hid p1.symm
      have HS : Hid ((⟨#[]⟩ : ByteArray) = bpS u b) := Lib.hid p2.symm
      clear p1 p2
      go_enter Try.func13, Try.ntmps13
      go_wp2
      go_returns
      exact ⟨rets2 (congrArg Value.string HS.out) (congrArg Value.bool HB.out), Below.refl _ _⟩
    · have hu8 : u % 256 = u := by omega
      have hcv := conv_one w u
      have hsz := bpC_size u b
      have HR := Lib.hid (isRight_any (bpC u b) (by rw [hsz]; unfold maxLen; omega))
      have HB := Lib.hid (bp_in b (u := u) (by omega))
      have HC : Hid (strOfNums [u] ++ b = bpC u b) := Lib.hid rfl
      have HS : Hid (bpS u b = if bpB u b = true then bpC u b else ⟨#[]⟩) := Lib.hid rfl
      have hmx : ¬ 9223372036854775807 < (strOfNums [u]).size + b.size := by rw [strOfNums_size]; simp only [List.length_cons, List.length_nil]; omega
      generalize bpC u b = C at *
      generalize bpB u b = B at *
      generalize bpS u b = S at *
      go_enter Try.func13, Try.ntmps13
      go_wp2_with fail
      rw [HC.out]
      refine (HR.out _).mono ?_
      rintro e w1 ⟨rfl, hb1⟩
      have hB1 := ((Below.refl w.heap.size w).alloc (Nat.le_refl _) (.cells #[.int .u8 u] 5)).trans (hb1.mono (by simp))
      rw [← HB.out]
      clear hb1 HR hcv
      cases B
      · have HF : Hid ((⟨#[]⟩ : ByteArray) = S) := Lib.hid (by rw [HS.out]; rfl)
        clear HS HC
        go_wp2
        go_returns
        exact ⟨rets2 (congrArg Value.string HF.out) rfl, hB1⟩
      · have HF : Hid (C = S) := Lib.hid (by rw [HS.out]; rfl)
        clear HS HC
        go_wp2
        go_returns
        exact ⟨rets2 (congrArg Value.string HF.out) rfl, hB1⟩
def bgU (s : ByteArray) : Int := if bsR s = true then bt s 0 else 0
def bgS (s : ByteArray) : ByteArray := if bsR s = true then s.extract 1 s.size else ⟨#[]⟩
set_option maxHeartbeats 1600000 in
theorem bsGet_any (s : ByteArray) (hs : s.size ≤ 281474976710656) (w : World) :
    Calls Try.prog 15 #[.string s] w fun e w' => e = .returned (.tuple #[.int .i64 (bgU s), .string (bgS s), .bool (bsR s)]) ∧ Below w.heap.size w w' := by
  have hb9 : (s.size : Int) ≤ 9223372036854775807 := by omega
  have HR := Lib.hid (isRight_any s (by unfold maxLen; omega))
  cases hr : bsR s
  · have HU : Hid (0 = bgU s) := Lib.hid (by unfold bgU; rw [hr]; rfl)
    have HS : Hid ((⟨#[]⟩ : ByteArray) = bgS s) := Lib.hid (by unfold bgS; rw [hr]; rfl)
    rw [hr] at HR
    clear hr
    go_enter Try.func15, Try.ntmps15
    go_wp2_with fail
    refine (HR.out _).mono ?_
    rintro e w1 ⟨rfl, hb1⟩
    go_wp2
    go_returns
    exact ⟨rets3 (congrArg (Value.int .i64) HU.out) (congrArg Value.string HS.out) rfl, hb1⟩
  · have h0 : 0 < s.size := ((bsR_iff s).1 hr).1
    have HU : Hid (IntKind.i64.wrap (bt s 0) = bgU s) := Lib.hid (by unfold bgU; rw [hr, if_pos rfl, IntKind.wrap_i64]; have := bt_nonneg s 0; have := bt_le s 0; omega)
    have HS : Hid (s.extract 1 s.size = bgS s) := Lib.hid (by unfold bgS; rw [hr]; rfl)
    have HC := Lib.hid (strClone_any (s.extract 1 s.size) (by rw [ByteArray.size_extract]; omega))
    rw [hr] at HR
    have hi0 : (0 : Int) < (s.size : Int) := by omega
    have hi1 : (1 : Int) ≤ (s.size : Int) := by omega
    have g0 := get_bt s 0 h0
    clear hr
    go_enter Try.func15, Try.ntmps15
    go_wp2_with fail
    refine (HR.out _).mono ?_
    rintro e w1 ⟨rfl, hb1⟩
    have hx0 := bt_nonneg s 0
    have hx1 := bt_le s 0
    obtain ⟨r, hr⟩ : ∃ r, s.extract 1 s.size = r := ⟨_, rfl⟩
    rw [hr] at HC HS
    go_wp2
    go_region_with (go_at_call 22; first | rw [hr] | skip; refine (HC.out _).mono ?_; rintro e w5 ⟨rfl, hb5⟩)
    all_goals
      have hbd : Below w.heap.size w w1.drew := ⟨hb1.os, hb1.tape, hb1.output, hb1.size, hb1.block⟩
      have hB5 := hbd.trans (hb5.mono hbd.size)
      clear hb5 hbd
      go_wp2
      go_returns
      exact ⟨rets3 (congrArg (Value.int .i64) HU.out) (congrArg Value.string HS.out) rfl, hB5⟩
end Go.Proofs.Ytpdehfcpeoiepaa
