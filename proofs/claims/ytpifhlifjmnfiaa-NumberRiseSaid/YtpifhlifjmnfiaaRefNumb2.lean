/- What the reference's Put and Get of numbers give. Of every value and text. -/
import Derived.Test.YtpifhlifjmnfiaaRefNumb
import Derived.Test.YtpifhlifjmnfiaaNumGet
namespace Go.Proofs.Ytpifhlifjmnfiaa
open Go.RowKit Go.PlainAid
set_option linter.unusedVariables false
theorem tdiv_exact (m : Int) : (m - m % 256).tdiv 256 = m / 256 := by
  have e : m - m % 256 = m / 256 * 256 := by omega
  rw [e, Int.mul_tdiv_cancel _ (by decide)]
theorem low_neg (m : Int) (h : m.tmod 256 < 0) : m.tmod 256 + 256 = m % 256 ∧ -255 ≤ m.tmod 256 := by
  have e := Int.tmod_eq_emod (a := m) (b := 256)
  have h2 := Int.emod_nonneg m (show (256 : Int) ≠ 0 by decide)
  have h3 := Int.emod_lt_of_pos m (show (0 : Int) < 256 by decide)
  have h4 : Int.natAbs 256 = 256 := rfl
  split at e
  · omega
  · rename_i hn
    have : m % 256 ≠ 0 := by intro h; exact hn (.inr (Int.dvd_of_emod_eq_zero h))
    omega
theorem low_pos (m : Int) (h : ¬ m.tmod 256 < 0) : m.tmod 256 = m % 256 := by
  have e := Int.tmod_eq_emod (a := m) (b := 256)
  have h2 := Int.emod_nonneg m (show (256 : Int) ≠ 0 by decide)
  have h3 := Int.emod_lt_of_pos m (show (0 : Int) < 256 by decide)
  have h4 : Int.natAbs 256 = 256 := rfl
  split at e
  · omega
  · omega
/-- The last one is told. -/
theorem last_low (m : Int) (hs : -128 ≤ m ∧ m ≤ 127) : (m / 256 = 0 ∧ m % 256 < 128) ∨ (m / 256 = -1 ∧ ¬ m % 256 < 128 ∧ 127 < m % 256) := by omega
theorem more_low (m : Int) (hs : ¬ (-128 ≤ m ∧ m ≤ 127)) : (m / 256 = 0 ∧ ¬ m % 256 < 128) ∨ (m / 256 = -1 ∧ ¬ 127 < m % 256) ∨ (m / 256 ≠ 0 ∧ m / 256 ≠ -1) := by omega
set_option maxRecDepth 100000 in
set_option maxHeartbeats 1600000 in
theorem refNumPut_any (n : Int) (hn : -9223372036854775808 ≤ n ∧ n ≤ 9223372036854775807) (w : World) :
    Calls Try.prog 16 #[.int .i64 n] w fun e w' => e = .returned (.string (strOfNums (hiI n))) ∧ Below w.heap.size w w' := by
  obtain ⟨n0, n1⟩ := hn
  go_enter Try.func16, Try.ntmps16
  go_wp2
  go_loopw [0, 3, 4] (fun mv sv iv wr => ∃ (m : Int) (g c : Nat) (l : List Int), mv = .int .i64 m ∧ iv = .int .i64 (l.length : Int) ∧ (-9223372036854775808 ≤ m ∧ m ≤ 9223372036854775807) ∧ l.length ≤ 7 ∧ Hid ((loI m).length + l.length ≤ 8) ∧ Hid (hiI m ++ l = hiI n) ∧ sv = .slice (some ⟨g, 0, none⟩) l.length c ∧ Hid (Sl wr 5 (.slice (some ⟨g, 0, none⟩) l.length c) (u8s l) g) ∧ w.heap.size ≤ g ∧ Hid (Below w.heap.size w wr)) (fun _ _ iv _ => 8 - (intOf iv).toNat)
  case atStart => exact ⟨n, w.heap.size, 0, [], rfl, rfl, ⟨n0, n1⟩, by decide, Lib.hid (by have := loI_le8 ⟨n0, n1⟩; simpa using this), Lib.hid (by simp), rfl, Lib.hid (by have := sl_new_bytes w [] (by simp [maxLen]); simpa [u8s] using this), Nat.le_refl _, Lib.hid (by go_grown)⟩
  case round =>
    obtain ⟨m, g, c, l, rfl, rfl, ⟨m0, m1⟩, hi, HK, HT, rfl, HS, hg, HB⟩ := hrel
    have htm := tdiv_exact m
    have hlow : (m.tmod 256 < 0 ∧ (m.tmod 256 + 256 = m % 256 ∧ -255 ≤ m.tmod 256)) ∨ (¬ m.tmod 256 < 0 ∧ m.tmod 256 = m % 256) := by
      by_cases ht : m.tmod 256 < 0
      · exact .inl ⟨ht, low_neg m ht⟩
      · exact .inr ⟨ht, low_pos m ht⟩
    have hlo0 := Int.emod_nonneg m (show (256 : Int) ≠ 0 by decide)
    have hlo1 := Int.emod_lt_of_pos m (show (0 : Int) < 256 by decide)
    have hli : (l.length : Int) < 8 := by omega
    have hcase : (-128 ≤ m ∧ m ≤ 127) ∧ ((m / 256 = 0 ∧ m % 256 < 128) ∨ (m / 256 = -1 ∧ ¬ m % 256 < 128 ∧ 127 < m % 256)) ∨ ¬ (-128 ≤ m ∧ m ≤ 127) ∧ ((m / 256 = 0 ∧ ¬ m % 256 < 128) ∨ (m / 256 = -1 ∧ ¬ 127 < m % 256) ∨ (m / 256 ≠ 0 ∧ m / 256 ≠ -1)) := by
      by_cases hs : -128 ≤ m ∧ m ≤ 127
      · exact .inl ⟨hs, last_low m hs⟩
      · exact .inr ⟨hs, more_low m hs⟩
    have HSM := Lib.hid (fun (h : -128 ≤ m ∧ m ≤ 127) => hiI_small h)
    have HBG := Lib.hid (fun (h : ¬ (-128 ≤ m ∧ m ≤ 127)) => hiI_big h)
    have HBL := Lib.hid (fun (h : ¬ (-128 ≤ m ∧ m ≤ 127)) => loI_big h)
    have hsub0 : -9223372036854775808 ≤ m - m % 256 := by omega
    have hsub1 : m - m % 256 ≤ 9223372036854775807 := by omega
    have hq0 : -9223372036854775808 ≤ m / 256 := by omega
    have hq1 : m / 256 ≤ 9223372036854775807 := by omega
    have HC1 := Lib.hid (HS.out.alloc (.cells (u8s [m % 256]).toArray 5)).cells_u8
    generalize hz : m.tmod 256 = t at *
    generalize hlo : m % 256 = lo at *
    generalize hq : m / 256 = q at *
    have hl8 : lo % 256 = lo := by omega
    rcases hlow with ⟨ht, he, ht2⟩ | ⟨ht, he⟩
    all_goals
      go_wp2_with (at_builtin; refine wpList_append_bytes rfl (.tmp 19) (.tmp 20) rfl (l := [lo]) (g := wr.heap.size) rfl (sl_new_bytes wr [lo] (by simp [maxLen])) g l.length c l rfl rfl HC1.out (by simp; omega) ?_)
      intro v' w1 g' hsl hg1 hgr1
      have hsl : Sl w1 5 v' (u8s (lo :: l)) g' := hsl
      obtain ⟨L, HLL⟩ : ∃ L, Hid (L = lo :: l) := ⟨_, Lib.hid rfl⟩
      rw [← HLL.out] at hsl
      have hll : L.length = l.length + 1 := by rw [HLL.out]; simp
      obtain ⟨c', rfl, _, _⟩ := hsl.open (n := L.length) (u8s_length _)
      have hsz := HB.out.size
      have HS1 := Lib.hid hsl
      have HB1 := Lib.hid ((HB.out.alloc hsz (.cells (u8s [lo]).toArray 5)).grown hgr1 (by simp; omega) (by intro k hk; cases hk; exact hsz))
      have hcv := conv_bytes hsl
      have hg2 : w.heap.size ≤ g' := by rcases hg1 with h | h <;> first | omega | (simp at h; omega)
      have HLN := Lib.hid hll
      clear hsl hgr1 HC1 HS HB hz ht hl8 hg1 hll
      rcases hcase with ⟨hs, ⟨hq2, hl2⟩ | ⟨hq2, hl2, hl3⟩⟩ | ⟨hs, hw⟩
      · subst hq2
        have HF : Hid (L = hiI n) := Lib.hid (by rw [HLL.out, ← HT.out, HSM.out hs]; rfl)
        go_wp2
        go_returns
        exact ⟨rets1 (congrArg (fun z => Value.string (strOfNums z)) HF.out), HB1.out⟩
      · subst hq2
        have HF : Hid (L = hiI n) := Lib.hid (by rw [HLL.out, ← HT.out, HSM.out hs]; rfl)
        go_wp2
        go_returns
        exact ⟨rets1 (congrArg (fun z => Value.string (strOfNums z)) HF.out), HB1.out⟩
      · have HF : Hid (hiI q ++ L = hiI n) := Lib.hid (by rw [HLL.out, ← HT.out, HBG.out hs]; simp)
        have HK2 := HK.out
        have hq1' := loI_ge1 q
        rw [HBL.out hs, List.length_cons] at HK2
        have HK3 : Hid ((loI q).length + L.length ≤ 8) := Lib.hid (by rw [HLN.out]; omega)
        have HL7 : Hid (L.length ≤ 7) := Lib.hid (by rw [HLN.out]; omega)
        have hl6 : l.length ≤ 6 := by omega
        clear HK2 hq1' hcv
        rcases hw with ⟨hq2, hl2⟩ | ⟨hq2, hl2⟩ | ⟨hq2, hq3⟩
        · subst hq2
          go_wp2
          go_roundw
          case rel => exact ⟨0, g', c', L, rfl, by rw [HLN.out]; simp, ⟨by decide, by decide⟩, HL7.out, HK3, HF, rfl, HS1, hg2, HB1⟩
          case measure => simp [intOf]; omega
        · subst hq2
          go_wp2
          go_roundw
          case rel => exact ⟨-1, g', c', L, rfl, by rw [HLN.out]; simp, ⟨by decide, by decide⟩, HL7.out, HK3, HF, rfl, HS1, hg2, HB1⟩
          case measure => simp [intOf]; omega
        · have b0 : (q == 0) = false := by simpa using hq2
          have b1 : (q == -1) = false := by simpa using hq3
          go_wp2
          go_roundw
          case rel => exact ⟨q, g', c', L, rfl, by rw [HLN.out]; simp, ⟨hq0, hq1⟩, HL7.out, HK3, HF, rfl, HS1, hg2, HB1⟩
          case measure => simp [intOf]; omega
set_option maxRecDepth 100000 in
set_option maxHeartbeats 1600000 in
theorem refNumGet_any (b : ByteArray) (hb : b.size ≤ maxLen) (w : World) :
    Calls Try.prog 14 #[.string b] w fun e w' => e = .returned (.tuple #[.int .i64 (ngV b), .bool (ngB b)]) ∧ w' = w := by
  have hb9 : (b.size : Int) ≤ 9223372036854775807 := by unfold maxLen at hb; omega
  have HI := Lib.hid (refWrong_any 2 b.size b hb)
  have hNW := numOk_wrong b
  generalize nmWrong 2 b.size b = at_ at *
  by_cases hz : b.size = 0
  · have hz0 : ((b.size : Int) == 0) = true := beq_iff_eq.2 (by omega)
    have hno : ¬ numOk (bl b) = true := by intro h; have := (numOk_iff.1 h).1; rw [bl_length] at this; omega
    have HV : Hid (0 = ngV b) := Lib.hid (by unfold ngV; rw [if_neg (fun h => hno h.1)])
    have HB : Hid (false = ngB b) := Lib.hid (by unfold ngB; exact (decide_eq_false (fun h => hno h.1)).symm)
    clear hNW hno HI hz
    go_enter Try.func14, Try.ntmps14
    go_wp2
    go_returns
    exact ⟨rets2 (congrArg (Value.int .i64) HV.out) (congrArg Value.bool HB.out), rfl⟩
  · have hz0 : ((b.size : Int) == 0) = false := beq_eq_false_iff_ne.2 (by omega)
    by_cases h8 : b.size ≤ 8
    · have h8i : ¬ (8 : Int) < (b.size : Int) := by omega
      by_cases hok : at_ = -1
      · have hyes := hNW.2 hok
        subst hok
        have h1 : 1 ≤ b.size := by omega
        have HV : Hid (ngV b = sval ((bl b).take b.size)) := Lib.hid (by unfold ngV; rw [if_pos ⟨hyes, h8⟩, sval_all])
        have HB : Hid (ngB b = true) := Lib.hid (by unfold ngB; exact decide_eq_true ⟨hyes, h8⟩)
        have HS1 := Lib.hid (sval_one b h1)
        have HSS := Lib.hid (sval_step b)
        have HSF := Lib.hid (sval_fit b)
        generalize hV : (fun i => sval ((bl b).take i)) = V at *
        have hVi : ∀ i, sval ((bl b).take i) = V i := fun i => by rw [← hV]
        simp only [hVi] at HV HS1 HSS HSF
        clear hV hVi hyes hNW
        have hbt0 := get_bt b 0 h1
        have hx0 := bt_nonneg b 0
        have hx1 := bt_le b 0
        have HGB := Lib.hid (get_bt b)
        have HX0 := Lib.hid (bt_nonneg b)
        have HX1 := Lib.hid (bt_le b)
        obtain ⟨x, hx⟩ : ∃ x, bt b 0 = x := ⟨_, rfl⟩
        rw [hx] at hbt0 hx0 hx1 HS1
        have h1i : (0 : Int) < (b.size : Int) := by omega
        clear hx hz h8
        by_cases h127 : 127 < x
        case' pos => have HV1 : Hid (V 1 = x - 256) := Lib.hid (by rw [HS1.out, if_pos h127])
        case' neg => have HV1 : Hid (V 1 = x) := Lib.hid (by rw [HS1.out, if_neg h127])
        all_goals
          clear HS1
          go_enter Try.func14, Try.ntmps14
          go_wp2_with fail
          refine (HI.out _).mono ?_
          rintro e w1 ⟨rfl, rfl⟩
          go_wp2
          go_loopw [4, 5] (fun nv iv wr => ∃ (i : Nat), nv = .int .i64 (V i) ∧ iv = .int .i64 (i : Int) ∧ 1 ≤ i ∧ i ≤ b.size ∧ wr = w1) (fun _ iv _ => b.size - (intOf iv).toNat)
          case atStart => exact ⟨1, by rw [HV1.out], rfl, by omega, by omega, rfl⟩
          case round =>
            obtain ⟨i, rfl, rfl, hi1, hi, rfl⟩ := hrel
            by_cases hlt : i < b.size
            · have hbt := HGB.out i hlt
              have hy0 := HX0.out i
              have hy1 := HX1.out i
              have hs := HSS.out i hi1 hlt
              have hf := HSF.out (i + 1) (by omega) (by omega) (by omega)
              have hfi := HSF.out i hi1 hi (by omega)
              generalize bt b i = y at *
              rw [hs] at hf
              have HS := Lib.hid (show 256 * V i + y = V (i + 1) by omega)
              have hm0 : -9223372036854775808 ≤ 256 * V i := by omega
              have hm1 : 256 * V i ≤ 9223372036854775807 := by omega
              have hm2 : -9223372036854775808 ≤ 256 * V i + y := by omega
              have hm3 : 256 * V i + y ≤ 9223372036854775807 := by omega
              clear hs hbt0 hf
              go_wp2
              go_roundw
              case rel => exact ⟨i + 1, by rw [HS.out], by simp, by omega, by omega, by trivial⟩
              case measure => simp [intOf]; omega
            · have hne : ¬ (i : Int) < (b.size : Int) := by omega
              have hib : i = b.size := by omega
              subst hib
              go_wp2
              go_returns
              exact ⟨rets2 (congrArg (Value.int .i64) HV.out.symm) (congrArg Value.bool HB.out.symm), by trivial⟩
      · have hno : ¬ numOk (bl b) = true := fun h => hok (hNW.1 h)
        have HV : Hid (0 = ngV b) := Lib.hid (by unfold ngV; rw [if_neg (fun h => hno h.1)])
        have HB : Hid (false = ngB b) := Lib.hid (by unfold ngB; exact (decide_eq_false (fun h => hno h.1)).symm)
        have hne : (at_ != -1) = true := by simpa using hok
        clear hNW hno hok hz h8
        go_enter Try.func14, Try.ntmps14
        go_wp2_with fail
        refine (HI.out _).mono ?_
        rintro e w1 ⟨rfl, rfl⟩
        go_wp2
        go_returns
        exact ⟨rets2 (congrArg (Value.int .i64) HV.out) (congrArg Value.bool HB.out), rfl⟩
    · have h8i : (8 : Int) < (b.size : Int) := by omega
      have HV : Hid (0 = ngV b) := Lib.hid (by unfold ngV; rw [if_neg (fun h => h8 h.2)])
      have HB : Hid (false = ngB b) := Lib.hid (by unfold ngB; exact (decide_eq_false (fun h => h8 h.2)).symm)
      clear hNW hz h8 HI
      go_enter Try.func14, Try.ntmps14
      go_wp2
      go_returns
      exact ⟨rets2 (congrArg (Value.int .i64) HV.out) (congrArg Value.bool HB.out), rfl⟩
end Go.Proofs.Ytpifhlifjmnfiaa
