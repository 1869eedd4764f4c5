/- What number's Put and Get give: the landed code's contracts. Of every value and every text. -/
import Derived.Test.YtpifhlifjmnfiaaNumCode
import Derived.Laws.BytesArg
import Derived.Handy
import Derived.Deep.RegionWith
import Derived.Deep.RegionHeld3
namespace Go.Proofs.Ytpifhlifjmnfiaa
open Go.RowKit Go.PlainAid
set_option linter.unusedVariables false
theorem i8_wrap (m : Int) : IntKind.i8.wrap m = (m + 128) % 256 - 128 := by
  simp only [IntKind.wrap, IntKind.bits, IntKind.signed]; simp <;> omega
theorem i8_small {m : Int} (h : -128 ≤ m ∧ m ≤ 127) : (m != wrap64 (IntKind.i8.wrap m)) = false := by
  rw [i8_wrap, show wrap64 ((m + 128) % 256 - 128) = m by unfold wrap64; omega]; simp
theorem i8_big {m : Int} (h : ¬ (-128 ≤ m ∧ m ≤ 127)) : (m != wrap64 (IntKind.i8.wrap m)) = true := by
  have : m ≠ wrap64 ((m + 128) % 256 - 128) := by unfold wrap64; omega
  rw [i8_wrap]; simpa using this
theorem len8 : Try.prog.arrayLen 46 = 8 := by kernel_rfl
theorem elem8 : Try.prog.elem 46 = 5 := by kernel_rfl
theorem rest8 (g r : Nat) (hr : r ≤ 7) (w : World) : (Instr.sliceAt 46 (.pointer (some ⟨g, 0, none⟩)) (some (.int .i64 (r : Int))) none none).run Try.prog w = .ok (.slice (some ⟨g, r, none⟩) (8 - r) (8 - r)) w := by
  rw [run_sliceAt_array_l (ht := by rw [len8, elem8]; exact Try.underlying46) (h0 := by omega) (h1 := by rw [len8]; omega), elem8, Try.sizeOf5, len8]
  simp only [Result.andThen_ok, slicedAt, Int.toNat_natCast]
  rw [if_neg (by omega), Nat.mul_one, addr0]
set_option maxHeartbeats 1600000 in
theorem numPut_any (n : Int) (hn : -9223372036854775808 ≤ n ∧ n ≤ 9223372036854775807) (w : World) :
    Calls Try.prog 15 #[.int .i64 n] w fun e w' => e = .returned (.string (strOfNums (hiI n))) ∧ Below w.heap.size w w' := by
  obtain ⟨n0, n1⟩ := hn
  go_enter Try.func15, Try.ntmps15
  go_wp2
  go_loopw [0, 4] (fun mv iv wr => ∃ (m : Int) (k : Nat) (T L : List Int), mv = .int .i64 m ∧ iv = .int .i64 (k : Int) ∧ (-9223372036854775808 ≤ m ∧ m ≤ 9223372036854775807) ∧ k ≤ 7 ∧ Hid ((loI m).length ≤ k + 1) ∧ Hid (hiI m ++ T = hiI n) ∧ Hid (L.drop k = m % 256 :: T) ∧ Hid (L.length = 8) ∧ Hid (Row wr w.heap.size 46 (u8s L)) ∧ Hid (Below w.heap.size w wr)) (fun _ iv _ => (intOf iv).toNat)
  case atStart => exact ⟨n, 7, [], [0, 0, 0, 0, 0, 0, 0, n % 256], rfl, rfl, ⟨n0, n1⟩, by decide, Lib.hid (loI_le8 ⟨n0, n1⟩), Lib.hid (by simp), Lib.hid rfl, Lib.hid rfl, Lib.hid (Row.new w 46 (u8s [0, 0, 0, 0, 0, 0, 0, n % 256])), Lib.hid (by go_grown)⟩
  case round =>
    obtain ⟨m, k, T, L, rfl, rfl, ⟨m0, m1⟩, hk, HK, HT, HD, HL, HR, HB⟩ := hrel
    by_cases hs : -128 ≤ m ∧ m ≤ 127
    · have hne := i8_small hs
      have HF : Hid (hiI n = L.drop k) := Lib.hid (by rw [HD.out, ← HT.out, hiI_small hs]; rfl)
      have hsl := rest8 w.heap.size k hk wr
      have hcv := run_convert_bytes_arg (P := Try.prog) wr 47 5 Try.underlying47 Try.underlying5 w.heap.size k (8 - k) (8 - k) (L.drop k) (by rw [List.length_drop, HL.out]) (fun i hi => by
        have hlt : k + i < L.length := by rw [HL.out]; omega
        rw [HR.out.cell (k + i), u8s_at hlt]
        simp [List.getD, hlt]) 9 Try.underlying9
      rw [← HF.out] at hcv
      go_wp2
      go_returns
      exact ⟨rfl, HB.out⟩
    · have hne := i8_big hs
      obtain ⟨j, rfl⟩ : ∃ j, k = j + 1 := ⟨k - 1, by have h1 := HK.out; have h2 := loI_ge1 (m / 256); rw [loI_big hs, List.length_cons] at h1; omega⟩
      have hj : j < L.length := by rw [HL.out]; omega
      have h0 := (HR.out.cell j).trans (u8s_at hj)
      have f0 := HR.out.frozen j
      go_wp2
      go_roundw
      case rel =>
        refine ⟨m / 256, j, m % 256 :: T, L.set j (m / 256 % 256), by simp, by simp, by omega, by omega, Lib.hid (by have := HK.out; rw [loI_big hs, List.length_cons] at this; omega), Lib.hid (by rw [← HT.out, hiI_big hs]; simp), Lib.hid ?_, Lib.hid (by rw [List.length_set]; exact HL.out), Lib.hid ?_, Lib.hid (HB.out.setCell (Nat.le_refl _) _)⟩
        · rw [← HD.out, List.drop_eq_getElem_cons (by rw [List.length_set]; exact hj), List.getElem_set_self, List.drop_set_of_lt (by omega)]
        · have := HR.out.set j (.int .u8 (m / 256 % 256))
          rwa [show (u8s L).set j (.int .u8 (m / 256 % 256)) = u8s (L.set j (m / 256 % 256)) by simp [u8s, List.map_set]] at this
      case measure => simp [intOf]
theorem row_kept {a W w5 : World} {g : Nat} {t : TypeId} {l : List Value} (hb : Below W.heap.size W w5) (hR : Row a g t l) (hd : W.heap = a.heap) : Row w5 g t l := by
  have h : Row W g t l := by unfold Row; rw [hd]; exact hR
  exact h.below hb h.lt
theorem num_kept {a W w5 : World} {g : Nat} {x : Int} (hb : Below W.heap.size W w5) (hR : Row a g 26 [.int .u8 x]) (hd : W.heap = a.heap) : w5.cell? ⟨g, 0, none⟩ = some (.int .u8 x) ∧ w5.frozen? ⟨g, 0, none⟩ = false :=
  ⟨(row_kept hb hR hd).cell 0, (row_kept hb hR hd).frozen 0⟩
theorem num_new_kept {X w5 : World} {x : Int} (h : Below (X.alloc (.cells #[.int .u8 x] 26)).heap.size (X.alloc (.cells #[.int .u8 x] 26)) w5) : w5.cell? ⟨X.heap.size, 0, none⟩ = some (.int .u8 x) ∧ w5.frozen? ⟨X.heap.size, 0, none⟩ = false :=
  num_kept h (Row.new X 26 [.int .u8 x]) rfl
theorem num_new_kept2 {X w5 : World} {x : Int} (h : Below (X.alloc (.cells #[.int .u8 x] 26)).drew.heap.size (X.alloc (.cells #[.int .u8 x] 26)).drew w5) : w5.cell? ⟨X.heap.size, 0, none⟩ = some (.int .u8 x) ∧ w5.frozen? ⟨X.heap.size, 0, none⟩ = false :=
  num_kept h (Row.new X 26 [.int .u8 x]) rfl
theorem below_kept {o a W w5 : World} (hb : Below W.heap.size W w5) (hB : Below o.heap.size o a) (hd : W.heap = a.heap) (h1 : W.os = a.os) (h2 : W.tape = a.tape) (h3 : W.output = a.output) : Below o.heap.size o w5 := by
  have h : Below o.heap.size o W := ⟨h1.trans hB.os, h2.trans hB.tape, h3.trans hB.output, by rw [hd]; exact hB.size, by intro k hk; rw [hd]; exact hB.block k hk⟩
  exact h.trans (hb.mono h.size)
set_option maxHeartbeats 1600000 in
theorem isInteger_any (b : ByteArray) (hb : b.size ≤ maxLen) (w : World) :
    Calls Try.prog 21 #[.string b] w fun e w' => e = .returned (.bool (numOk (bl b))) ∧ Below w.heap.size w w' := by
  have hb9 : (b.size : Int) ≤ 9223372036854775807 := by unfold maxLen at hb; omega
  have HW := Lib.hid (numOk_wrong b)
  have HX0 := Lib.hid (bt_nonneg b)
  have HX1 := Lib.hid (bt_le b)
  have HGB := Lib.hid (get_bt b)
  have HST := Lib.hid (fun (i : Nat) (z : Int) hok hi hk hx hy h0 => nm_step 2 b.size b.size i (bt b 0) (bt b 1) z hok hi hk hx hy h0)
  have HOK := Lib.hid (nmOk_iff 2 b.size b.size (bt b 0) (bt b 1))
  have HRG := Lib.hid (And.intro (nW_range 2 b.size b.size (bt b 0) (bt b 1)) (nW_len 2 b.size b.size (bt b 0) (bt b 1)))
  have HAR := Lib.hid (nmAt_range 2 (bt b 0))
  unfold nmWrong at HW
  generalize hat : nW 2 (b.size : Int) b.size (bt b 0) (bt b 1) = at_ at *
  have HS := Lib.hid (nmStart_any 2 b.size)
  have HF0 : Hid (∀ ok, nmOk 2 b.size = ok → 0 ≤ (if ok = true then nmFirst 2 else 0) ∧ (if ok = true then nmFirst 2 else 0) ≤ 5 ∧ (ok = true → nmOk 2 b.size = true ∧ (if ok = true then nmFirst 2 else 0) = nmAt 2 (bt b 0) 0 ∧ ¬ (0 ≤ at_ ∧ at_ ≤ 0)) ∧ (ok = false → at_ ≠ -1)) := Lib.hid (by
    intro ok h
    have h2 := HOK.out
    rw [h] at h2
    cases ok
    · simp; simp at h2; omega
    · simp [nmFirst, nmAt]; simp at h2; exact ⟨h, by omega⟩)
  generalize hok : nmOk 2 b.size = ok0 at *
  have HF1 := Lib.hid (HF0.out ok0 rfl)
  clear HF0
  generalize (if ok0 = true then nmFirst 2 else 0) = s0 at *
  go_enter Try.func21, Try.ntmps21
  go_wp2_with fail
  refine (HS.out _).mono ?_
  rintro e w1 ⟨rfl, hB1⟩
  go_wp2
  go_loopw [4, 5] (fun ov iv wr => ∃ (ok : Bool) (i : Nat) (s : Int), ov = .bool ok ∧ iv = .int .i64 (i : Int) ∧ i ≤ b.size ∧ (0 ≤ s ∧ s ≤ 5) ∧ Hid (Row wr w1.heap.size 26 [.int .u8 s]) ∧ Hid (Below w.heap.size w wr) ∧ Hid (ok = true → ok0 = true ∧ s = nmAt 2 (bt b 0) i ∧ ¬ (0 ≤ at_ ∧ at_ ≤ (i : Int))) ∧ Hid (ok = false → at_ ≠ -1)) (fun _ iv _ => b.size - (intOf iv).toNat)
  case atStart => exact ⟨ok0, 0, s0, rfl, rfl, by omega, ⟨HF1.out.1, HF1.out.2.1⟩, Lib.hid (Row.new w1 26 _), Lib.hid (hB1.alloc hB1.size _), Lib.hid HF1.out.2.2.1, Lib.hid HF1.out.2.2.2⟩
  case round =>
    obtain ⟨ok, i, s, rfl, rfl, hi, ⟨s0, s1⟩, HR, HB, HT, HN⟩ := hrel
    cases ok
    · have HF : Hid (false = numOk (bl b)) := Lib.hid (by have h1 := HW.out; have h2 := HN.out rfl; cases hn : numOk (bl b); rfl; exact absurd (h1.1 hn) h2)
      go_wp2
      go_returns
      exact ⟨rets1 (congrArg Value.bool HF.out), HB.out⟩
    · by_cases hlt : i < b.size
      · have hbt := HGB.out i hlt
        have hx0 := HX0.out i
        have hx1 := HX1.out i
        obtain ⟨x, hX⟩ : ∃ x, bt b i = x := ⟨_, rfl⟩
        rw [hX] at hbt hx0 hx1
        have HX := Lib.hid hX
        have HP := Lib.hid (nmPush_any s x ⟨s0, s1⟩ ⟨hx0, hx1⟩)
        have HSP : Hid (0 ≤ (nmPush s x).1 ∧ (nmPush s x).1 ≤ 5 ∧ ((nmPush s x).2 = true → ok0 = true ∧ (nmPush s x).1 = nmAt 2 (bt b 0) (i + 1) ∧ ¬ (0 ≤ at_ ∧ at_ ≤ ((i + 1 : Nat) : Int))) ∧ ((nmPush s x).2 = false → at_ ≠ -1)) := Lib.hid (by
          obtain ⟨t1, t2, t3⟩ := HT.out rfl
          have h := HST.out i x t1 hlt (Int.le_refl _) (by rintro rfl; exact hX.symm) (by rintro rfl; exact hX.symm) t3
          have hr := HAR.out (i + 1)
          rw [← t2] at h
          rw [h]
          split
          · exact ⟨by decide, by decide, (by intro h; cases h), (by intro _; omega)⟩
          · exact ⟨hr.1, hr.2, (fun _ => ⟨t1, rfl, by omega⟩), (by intro h; cases h)⟩)
        have h0 := HR.out.cell 0
        have f0 := HR.out.frozen 0
        have hls := HR.out.lt
        clear hX
        generalize nmPush s x = p at *
        obtain ⟨s', ok'⟩ := p
        simp only at HP HSP
        go_wp2
        go_region_with (go_at_call 12; refine (HP.out _).mono ?_; rintro e w5 ⟨rfl, hb5⟩; obtain ⟨hc5, hf5⟩ := num_kept hb5 HR.out rfl)
        all_goals
          have HR5 := Lib.hid ((row_kept hb5 HR.out rfl).set 0 (.int .u8 s'))
          have HB5 := Lib.hid ((below_kept hb5 HB.out rfl rfl rfl rfl).setCell (p := ⟨w1.heap.size, 0, none⟩) hB1.size (.int .u8 s'))
          clear hb5 hc5 hf5 h0 f0 hls
          go_wp2
          go_roundw
          case rel => exact ⟨ok', i + 1, s', rfl, by simp, by omega, ⟨HSP.out.1, HSP.out.2.1⟩, HR5, HB5, Lib.hid HSP.out.2.2.1, Lib.hid HSP.out.2.2.2⟩
          case measure => simp [intOf]; omega
      · have HF : Hid (true = numOk (bl b)) := Lib.hid (by have h1 := HW.out; have h2 := HT.out rfl; have h3 := HRG.out; exact (h1.2 (by omega)).symm)
        have hne : ¬ (i : Int) < (b.size : Int) := by omega
        go_wp2
        go_returns
        exact ⟨rets1 (congrArg Value.bool HF.out), HB.out⟩
end Go.Proofs.Ytpifhlifjmnfiaa
