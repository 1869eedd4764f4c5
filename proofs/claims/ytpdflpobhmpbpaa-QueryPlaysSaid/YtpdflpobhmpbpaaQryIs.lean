/- Package query's isSerial: is a text a serial number? Of any text. -/
import Derived.Test.YtpdflpobhmpbpaaQryCell
import Derived.Test.YtpdflpobhmpbpaaNumCode
import Derived.Test.YtpdflpobhmpbpaaMem2
import Derived.Handy
namespace Go.Proofs.Ytpdflpobhmpbpaa
open Go.RowKit Go.PlainAid
set_option linter.unusedVariables false
theorem qRow_kept {a W w5 : World} {g : Nat} {t : TypeId} {l : List Value} (hb : Below W.heap.size W w5) (hR : Row a g t l) (hd : W.heap = a.heap) : Row w5 g t l := by
  have h : Row W g t l := by unfold Row; rw [hd]; exact hR
  exact h.below hb h.lt
theorem qNum_kept {a W w5 : World} {g : Nat} {x : Int} (hb : Below W.heap.size W w5) (hR : Row a g 59 [.int .u8 x]) (hd : W.heap = a.heap) : w5.cell? ⟨g, 0, none⟩ = some (.int .u8 x) ∧ w5.frozen? ⟨g, 0, none⟩ = false :=
  ⟨(qRow_kept hb hR hd).cell 0, (qRow_kept hb hR hd).frozen 0⟩
theorem qBelow_kept {o a W w5 : World} (hb : Below W.heap.size W w5) (hB : Below o.heap.size o a) (hd : W.heap = a.heap) (h1 : W.os = a.os) (h2 : W.tape = a.tape) (h3 : W.output = a.output) : Below o.heap.size o w5 := by
  have h : Below o.heap.size o W := ⟨h1.trans hB.os, h2.trans hB.tape, h3.trans hB.output, by rw [hd]; exact hB.size, by intro k hk; rw [hd]; exact hB.block k hk⟩
  exact h.trans (hb.mono h.size)
/-- Whether it is right, told by the byte with which it is wrong. -/
theorem serR_wrong (s : ByteArray) (h : s.size ≤ 20) : serR s = true ↔ nW 2 (s.size : Int) s.size (bt s 0) (bt s 1) = -1 := by
  unfold serR nmWrong
  rw [decide_eq_true_eq]
  refine ⟨fun h => h.2.2, fun h1 => ⟨?_, h, h1⟩⟩
  rcases Nat.eq_zero_or_pos s.size with h0 | h0
  · rw [h0] at h1
    simp [nW] at h1
  · exact h0
set_option maxRecDepth 100000 in
set_option maxHeartbeats 1600000 in
theorem isSerial_small (b : ByteArray) (hl : b.size ≤ 20) (w : World) :
    Calls Try.prog 20 #[.string b] w fun e w' => e = .returned (.bool (serR b)) ∧ Below w.heap.size w w' := by
  have hb9 : (b.size : Int) ≤ 9223372036854775807 := by omega
  have hl20 : (b.size : Int) ≤ 20 := by omega
  have hl20' : ¬ (20 : Int) < (b.size : Int) := by omega
  have HW := Lib.hid (serR_wrong b hl)
  have HX0 := Lib.hid (bt_nonneg b)
  have HX1 := Lib.hid (bt_le b)
  have HGB := Lib.hid (get_bt b)
  have HST := Lib.hid (fun (i : Nat) (z : Int) hok hi hk hx hy h0 => nm_step 2 b.size b.size i (bt b 0) (bt b 1) z hok hi hk hx hy h0)
  have HOK := Lib.hid (nmOk_iff 2 b.size b.size (bt b 0) (bt b 1))
  have HRG := Lib.hid (And.intro (nW_range 2 b.size b.size (bt b 0) (bt b 1)) (nW_len 2 b.size b.size (bt b 0) (bt b 1)))
  have HAR := Lib.hid (nmAt_range 2 (bt b 0))
  generalize hat : nW 2 (b.size : Int) b.size (bt b 0) (bt b 1) = at_ at *
  have HS := Lib.hid (nmStart_any 2 b.size)
  have HF0 : Hid (∀ ok, nmOk 2 b.size = ok → 0 ≤ (if ok = true then nmFirst 2 else 0) ∧ (if ok = true then nmFirst 2 else 0) ≤ 5 ∧ (ok = true → nmOk 2 b.size = true ∧ (if ok = true then nmFirst 2 else 0) = nmAt 2 (bt b 0) 0 ∧ ¬ (0 ≤ at_ ∧ at_ ≤ 0)) ∧ (ok = false → at_ ≠ -1)) := Lib.hid (by
    intro ok h
    have h2 := HOK.out
    rw [h] at h2
    cases ok
    · simp; simp at h2; omega
    · simp [nmFirst, nmAt]; simp at h2; exact ⟨h, by omega⟩)
  generalize hok : nmOk 2 b.size = ok0 at *
  have HF1 := Lib.hid (HF0.out ok0 rfl)
  clear HF0
  generalize (if ok0 = true then nmFirst 2 else 0) = s0 at *
  go_enter Try.func20, Try.ntmps20
  go_wp2_with fail
  refine (HS.out _).mono ?_
  rintro e w1 ⟨rfl, hB1⟩
  go_wp2
  go_loopw [4, 5] (fun ov iv wr => ∃ (ok : Bool) (i : Nat) (s : Int), ov = .bool ok ∧ iv = .int .i64 (i : Int) ∧ i ≤ b.size ∧ (0 ≤ s ∧ s ≤ 5) ∧ Hid (Row wr w1.heap.size 59 [.int .u8 s]) ∧ Hid (Below w.heap.size w wr) ∧ Hid (ok = true → ok0 = true ∧ s = nmAt 2 (bt b 0) i ∧ ¬ (0 ≤ at_ ∧ at_ ≤ (i : Int))) ∧ Hid (ok = false → at_ ≠ -1)) (fun _ iv _ => b.size - (intOf iv).toNat)
  case atStart => exact ⟨ok0, 0, s0, rfl, rfl, by omega, ⟨HF1.out.1, HF1.out.2.1⟩, Lib.hid (Row.new w1 59 _), Lib.hid (hB1.alloc hB1.size _), Lib.hid HF1.out.2.2.1, Lib.hid HF1.out.2.2.2⟩
  case round =>
    obtain ⟨ok, i, s, rfl, rfl, hi, ⟨s0, s1⟩, HR, HB, HT, HN⟩ := hrel
    cases ok
    · have HF : Hid (false = serR b) := Lib.hid (by have h1 := HW.out; have h2 := HN.out rfl; cases hn : serR b; rfl; exact absurd (h1.1 hn) h2)
      go_wp2
      go_returns
      exact ⟨rets1 (congrArg Value.bool HF.out), HB.out⟩
    · by_cases hlt : i < b.size
      · have hbt := HGB.out i hlt
        have hx0 := HX0.out i
        have hx1 := HX1.out i
        obtain ⟨x, hX⟩ : ∃ x, bt b i = x := ⟨_, rfl⟩
        rw [hX] at hbt hx0 hx1
        have HX := Lib.hid hX
        have HP := Lib.hid (nmPush_any s x ⟨s0, s1⟩ ⟨hx0, hx1⟩)
        have HSP : Hid (0 ≤ (nmPush s x).1 ∧ (nmPush s x).1 ≤ 5 ∧ ((nmPush s x).2 = true → ok0 = true ∧ (nmPush s x).1 = nmAt 2 (bt b 0) (i + 1) ∧ ¬ (0 ≤ at_ ∧ at_ ≤ ((i + 1 : Nat) : Int))) ∧ ((nmPush s x).2 = false → at_ ≠ -1)) := Lib.hid (by
          obtain ⟨t1, t2, t3⟩ := HT.out rfl
          have h := HST.out i x t1 hlt (Int.le_refl _) (by rintro rfl; exact hX.symm) (by rintro rfl; exact hX.symm) t3
          have hr := HAR.out (i + 1)
          rw [← t2] at h
          rw [h]
          split
          · exact ⟨by decide, by decide, (by intro h; cases h), (by intro _; omega)⟩
          · exact ⟨hr.1, hr.2, (fun _ => ⟨t1, rfl, by omega⟩), (by intro h; cases h)⟩)
        have h0 := HR.out.cell 0
        have f0 := HR.out.frozen 0
        have hls := HR.out.lt
        clear hX
        generalize nmPush s x = p at *
        obtain ⟨s', ok'⟩ := p
        simp only at HP HSP
        go_wp2
        go_region_with (go_at_call 26; refine (HP.out _).mono ?_; rintro e w5 ⟨rfl, hb5⟩; obtain ⟨hc5, hf5⟩ := qNum_kept hb5 HR.out rfl)
        all_goals
          have HR5 := Lib.hid ((qRow_kept hb5 HR.out rfl).set 0 (.int .u8 s'))
          have HB5 := Lib.hid ((qBelow_kept hb5 HB.out rfl rfl rfl rfl).setCell (p := ⟨w1.heap.size, 0, none⟩) hB1.size (.int .u8 s'))
          clear hb5 hc5 hf5 h0 f0 hls
          go_wp2
          go_roundw
          case rel => exact ⟨ok', i + 1, s', rfl, by simp, by omega, ⟨HSP.out.1, HSP.out.2.1⟩, HR5, HB5, Lib.hid HSP.out.2.2.1, Lib.hid HSP.out.2.2.2⟩
          case measure => simp [intOf]; omega
      · have HF : Hid (true = serR b) := Lib.hid (by have h1 := HW.out; have h2 := HT.out rfl; have h3 := HRG.out; exact (h1.2 (by omega)).symm)
        have hne : ¬ (i : Int) < (b.size : Int) := by omega
        go_wp2
        go_returns
        exact ⟨rets1 (congrArg Value.bool HF.out), HB.out⟩
set_option maxHeartbeats 1600000 in
theorem isSerial_any (b : ByteArray) (hm : b.size ≤ maxLen) (w : World) :
    Calls Try.prog 20 #[.string b] w fun e w' => e = .returned (.bool (serR b)) ∧ Below w.heap.size w w' := by
  by_cases hl : b.size ≤ 20
  · exact isSerial_small b hl w
  · have HO : Hid (serR b = false) := Lib.hid (by unfold serR; simp; omega)
    have hl2 : (20 : Int) < (b.size : Int) := by omega
    have hb9 : (b.size : Int) ≤ 9223372036854775807 := by unfold maxLen at hm; omega
    clear hm
    go_enter Try.func20, Try.ntmps20
    go_wp2
    go_returns
    exact ⟨rets1 (by rw [HO.out]; rfl), Below.refl _ _⟩
end Go.Proofs.Ytpdflpobhmpbpaa
