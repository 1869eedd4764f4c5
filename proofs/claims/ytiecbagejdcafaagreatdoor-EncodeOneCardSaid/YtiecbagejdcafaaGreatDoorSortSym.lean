/- The library's stable sort over a row: two ascending ranges merged in place, of any lengths. Of rows of any elements of one cell. -/
import Derived.Test.YtiecbagejdcafaaGreatDoorS1
namespace Go.Proofs.YtiecbagejdcafaaGreatDoor
open Go.Shelf Go.RowKit Go.Lib Go.Sort
set_option linter.unusedVariables false
set_option linter.unusedSectionVars false
variable {α : Type} [Inhabited α] {enc : α → Value} {lt : α → α → Bool} {s : SF}
section
variable {f f1 : Nat → α} {a m b t mid e : Nat}
theorem asc_rot1 (hr : ∀ k, f1 k = rotF f t m e k) (h1 : t ≤ m) (h2 : m ≤ e) (h : AscF lt f a m) : AscF lt f1 a t := fun i j hi hij hj => by
 rw [hr, hr, rotF_else _ h1 h2 (by omega), rotF_else _ h1 h2 (by omega)]
 exact h i j hi hij (by omega)
theorem asc_rot2 (hr : ∀ k, f1 k = rotF f t m e k) (h1 : t ≤ m) (h2 : m ≤ e) (h3 : e ≤ b) (h5 : t + e = mid + m) (h : AscF lt f m b) : AscF lt f1 t mid := fun i j hi hij hj => by
 rw [hr, hr, rotF_left _ (by omega) (by omega), rotF_left _ (by omega) (by omega)]
 exact h _ _ (by omega) (by omega) (by omega)
theorem asc_rot3 (hr : ∀ k, f1 k = rotF f t m e k) (h0 : a ≤ t) (h1 : t ≤ m) (h2 : m ≤ e) (h5 : t + e = mid + m) (h : AscF lt f a m) : AscF lt f1 mid e := fun i j hi hij hj => by
 rw [hr, hr, rotF_right _ (by omega) (by omega), rotF_right _ (by omega) (by omega)]
 exact h _ _ (by omega) (by omega) (by omega)
theorem asc_rot4 (hr : ∀ k, f1 k = rotF f t m e k) (h1 : t ≤ m) (h2 : m ≤ e) (h : AscF lt f m b) : AscF lt f1 e b := fun i j hi hij hj => by
 rw [hr, hr, rotF_else _ h1 h2 (by omega), rotF_else _ h1 h2 (by omega)]
 exact h i j (by omega) hij hj
theorem asc_same {g : Nat → α} (hg : ∀ k, a ≤ k → k < b → g k = f k) (h : AscF lt f a b) : AscF lt g a b := fun i j hi hij hj => by
 rw [hg i hi (by omega), hg j (by omega) hj]; exact h i j hi hij hj
end
abbrev MergeSays (enc : α → Value) (lt : α → α → Bool) (s : SF) (d : Array α) (w : World) (a m b : Nat) : Prop :=
 Calls Tryz.prog 155 #[s.data, .int .i64 (a : Int), .int .i64 (m : Int), .int .i64 (b : Int)] w fun e w' => e = .returned (.tuple #[]) ∧ Left enc s d w (fun f => MrgF lt (fun k => d[k]!) f a m b) w'
set_option maxRecDepth 100000 in
set_option maxHeartbeats 16000000 in
theorem merge_step (hO : SWO lt) (N : Nat) (ih : ∀ (d : Array α) (w : World), Can enc lt s d w → ∀ (a m b : Nat), b - a ≤ N → a < m → m < b → b ≤ d.size → AscF lt (fun k => d[k]!) a m → AscF lt (fun k => d[k]!) m b → MergeSays enc lt s d w a m b)
  {d : Array α} {w : World} (h : Can enc lt s d w) (a m b : Nat) (hN : b - a ≤ N + 1) (ham : a + 1 < m) (hmb : m + 1 < b) (hb : b ≤ d.size) (h1 : AscF lt (fun k => d[k]!) a m) (h2 : AscF lt (fun k => d[k]!) m b) : MergeSays enc lt s d w a m b := by
 have hsz := h.size
 have eg := h.enter
 obtain ⟨hb1, hb2⟩ := h.box
 have HB1 := Lib.hid hb1
 have HB2 := Lib.hid hb2
 have HA1 := Lib.hid h1
 have HA2 := Lib.hid h2
 have HC := Lib.hid (fun (d1 : Array α) (w1 : World) (k : SW enc (w.alloc s.box) s.blk s.off d1 w1) => h.cells k)
 have HW := Lib.hid h.blk
 have IH := Lib.hid ih
 clear hb1 hb2 h h1 h2 ih
 have hm0 : ((m : Int) - (a : Int) == 1) = false := by simp; omega
 have hm1 : ((b : Int) - (m : Int) == 1) = false := by simp; omega
 have hhalf0 := half_of a b
 obtain ⟨mid, hmid⟩ : ∃ mid, (a + b) / 2 = mid := ⟨_, rfl⟩
 rw [hmid] at hhalf0
 have hmid1 : 2 * mid ≤ a + b ∧ a + b ≤ 2 * mid + 1 := by omega
 clear hmid
 obtain ⟨st0, r0, hst0, hst1, hst2, hst3, hr0, hsel⟩ : ∃ st0 r0 : Nat, a ≤ st0 ∧ (st0 = a ∨ st0 + b = mid + m) ∧ st0 ≤ r0 ∧ r0 ≤ mid ∧ (r0 ≤ m ∧ (r0 = mid ∨ r0 = m)) ∧ ((mid < m ∧ st0 + b = mid + m ∧ r0 = mid) ∨ (¬ mid < m ∧ st0 = a ∧ r0 = m)) := by
  by_cases hc : mid < m
  ·exact ⟨mid + m - b, mid, by omega, by omega, by omega, by omega, by omega, .inl ⟨hc, by omega, rfl⟩⟩
  ·exact ⟨a, m, by omega, by omega, by omega, by omega, by omega, .inr ⟨hc, rfl, rfl⟩⟩
 have hstb : mid + m ≤ st0 + b := by omega
 have HR0 := Lib.hid hr0
 have HST := Lib.hid hst1
 clear hst1
 have hr0m : r0 ≤ m := hr0.1
 clear hr0
 rcases hsel with ⟨hc, hse, hre⟩ | ⟨hc, hse, hre⟩
 all_goals
  first
   |have hci : (mid : Int) < (m : Int) := by omega
    have hsti : (mid : Int) + (m : Int) - (b : Int) = (st0 : Int) := by omega
    have hx1 : (mid : Int) = (r0 : Int) := by omega
    have HX1 := Lib.hid hx1
    clear hx1 hse hre hc
    have hx2 : (0 : Int) ≤ 1 := by decide
   |have hci : ¬ (mid : Int) < (m : Int) := by omega
    have hsti : (a : Int) = (st0 : Int) := by omega
    have hx1 : (m : Int) = (r0 : Int) := by omega
    have HX1 := Lib.hid hx1
    have HX2 := Lib.hid hsti
    clear hx1 hse hre hc hsti
  unfold MergeSays SF.data
  go_enter Tryz.func155, Tryz.ntmps155
  go_wp2_with fail
  have hX : w.alloc (.cells #[.func (.func s.g) #[] s.lb, .func (.func s.sf) #[] s.sb] 174) = w.alloc s.box := rfl
  rw [hX]
  clear hX
  go_loopg [18, 19] (r0 - st0) (fun gk iv jv wr => ∃ (i j : Nat), iv = .int .i64 (i : Int) ∧ jv = .int .i64 (j : Int) ∧ st0 ≤ i ∧ i ≤ j ∧ j ≤ r0 ∧ j - i ≤ gk ∧ Hid (SW enc (w.alloc s.box) s.blk s.off d wr) ∧ Hid (i = st0 ∨ lt d[mid + m - i]! d[i - 1]! = false) ∧ Hid (j = r0 ∨ lt d[mid + m - 1 - j]! d[j]! = true))
  case atStart => exact ⟨st0, r0, by first | rfl | rw [HX2.out], by first | rfl | rw [HX1.out], by omega, by omega, by omega, by omega, Lib.hid (SW.start HB2.out.holds), Lib.hid (.inl rfl), Lib.hid (.inl rfl)⟩
  case round =>
   obtain ⟨i, j, rfl, rfl, hi, hij, hj, hgk, HS, HI, HJ⟩ := hrel
   by_cases hlt : i < j
   ·obtain ⟨c0, c1⟩ := HC.out _ _ HS.out
    have hlt2 : (i : Int) < (j : Int) := by omega
    have hhalf := half_of i j
    obtain ⟨p, hp⟩ : ∃ p, (i + j) / 2 = p := ⟨_, rfl⟩
    have hpi : i ≤ p := by omega
    have hpj : p < j := by omega
    rw [hp] at hhalf
    obtain ⟨q, hq⟩ : ∃ q, mid + m - 1 - p = q := ⟨_, rfl⟩
    have hqi : (mid : Int) + (m : Int) - 1 - (p : Int) = (q : Int) := by omega
    have hl := HS.out.less HB2.out.less rfl q p (by omega) (by omega)
    have HL := Lib.hid hl
    clear hl hp
    cases hv : lt d[q]! d[p]! with
    |false =>
     rw [hv] at HL
     have HS2 := Lib.hid (fun q => HS.out.drewN q)
     have HI2 : Hid (p + 1 = st0 ∨ lt d[mid + m - (p + 1)]! d[p + 1 - 1]! = false) := Lib.hid (.inr (by rw [Nat.add_sub_cancel, show mid + m - (p + 1) = q by omega]; exact hv))
     clear hv HS HI hq
     go_wp2_with fail
     refine HL.out.mono ?_
     rintro e w3 ⟨rfl, q3, rfl⟩
     go_wp2_with fail
     go_roundg (j - (p + 1))
     case measure => omega
     case rel => exact ⟨p + 1, j, by simp, rfl, by omega, by omega, hj, by omega, Lib.hid (HS2.out q3), HI2, HJ⟩
    |true =>
     rw [hv] at HL
     have HS2 := Lib.hid (fun q => HS.out.drewN q)
     have HJ2 : Hid (p = r0 ∨ lt d[mid + m - 1 - p]! d[p]! = true) := Lib.hid (.inr (by rw [hq]; exact hv))
     clear hv HS HJ hq
     go_wp2_with fail
     refine HL.out.mono ?_
     rintro e w3 ⟨rfl, q3, rfl⟩
     go_wp2_with fail
     go_roundg (p - i)
     case measure => omega
     case rel => exact ⟨i, p, rfl, rfl, hi, hpi, by omega, by omega, Lib.hid (HS2.out q3), HI, HJ2⟩
   ·have hlt2 : ¬ (i : Int) < (j : Int) := by omega
    obtain rfl : i = j := by omega
    obtain ⟨e, he⟩ : ∃ e, mid + m - i = e := ⟨_, rfl⟩
    have hei : (mid : Int) + (m : Int) - (i : Int) = (e : Int) := by omega
    have he5 : i + e = mid + m := by omega
    have him : i ≤ m := by omega
    have hme : m ≤ e := by omega
    have heb : e ≤ b := by omega
    have hmide : mid ≤ e := by omega
    have himid : i ≤ mid := by omega
    have hai : a ≤ i := by omega
    have HX : Hid (∀ i' j', a ≤ i' → i' < i → e ≤ j' → j' < b → lt d[j']! d[i']! = false) := Lib.hid (fun i' j' g1 g2 g3 g4 => by
     rcases HI.out with h | h
     ·rcases HST.out with h' | h' <;> omega
     ·rw [he] at h
      have k1 : lt d[j']! d[i - 1]! = false := by
       by_cases e1 : j' = e
       ·subst e1; exact h
       ·exact hO.ntrans _ _ _ (HA2.out e j' (by omega) (by omega) g4) h
      by_cases e2 : i' = i - 1
      ·subst e2; exact k1
      ·exact hO.ntrans _ _ _ k1 (HA1.out i' (i - 1) g1 (by omega) (by omega)))
    have HY : Hid (∀ i' j', i ≤ i' → i' < m → m ≤ j' → j' < e → lt d[j']! d[i']! = true) := Lib.hid (fun i' j' g1 g2 g3 g4 => by
     rcases HJ.out with h | h
     ·rcases HR0.out.2 with h' | h' <;> omega
     ·rw [show mid + m - 1 - i = e - 1 by omega] at h
      have k1 : lt d[j']! d[i]! = true := by
       by_cases e1 : j' = e - 1
       ·subst e1; exact h
       ·exact lt_of_le_lt hO (HA2.out j' (e - 1) g3 (by omega) (by omega)) h
      by_cases e2 : i' = i
      ·subst e2; exact k1
      ·exact lt_of_lt_le hO k1 (HA1.out i i' hai (by omega) g2))
    have he6 : i + e ≤ mid + m ∧ mid + m ≤ i + e := by omega
    have HE5 := Lib.hid he5
    clear HI HJ hlt hi hj hij HR0 HST he he5
    by_cases g1 : i = m
    ·by_cases g2 : m < mid
     ·have g1a : m ≤ i := by omega
      have g1b : e ≤ mid := by omega
      clear g1
      have fim : ¬ (i : Int) < (m : Int) := by omega
      have fai : (a : Int) < (i : Int) := by omega
      have fmide : ¬ (mid : Int) < (e : Int) := by omega
      have fimid : (i : Int) < (mid : Int) := by omega
      obtain ⟨d1, hd1⟩ : ∃ d1, d1 = d := ⟨_, rfl⟩
      obtain ⟨w1, hw1⟩ : ∃ w1, w1 = wr := ⟨_, rfl⟩
      have hs1 : d1.size = d.size := by rw [hd1]
      have HS1 : Hid (SW enc (w.alloc s.box) s.blk s.off d1 w1) := by rw [hd1, hw1]; exact HS
      have HK1 : Hid (∀ k, d1[k]! = rotF (fun k => d[k]!) i m e k) := Lib.hid (fun k => by rw [hd1]; exact (rotF_none _ i m e hme him (by omega) k).symm)
      rw [← hw1]
      clear hd1 hw1 HS
      obtain ⟨c0, c1⟩ := HC.out _ _ HS1.out
      have hC := IH.out _ _ (HB2.out.on HS1.out hs1) a i mid (by omega) (by omega) (by omega) (by omega) (asc_rot1 HK1.out him hme HA1.out) (asc_rot2 HK1.out him hme heb HE5.out HA2.out)
      have HCC := Lib.hid hC
      clear hC
      unfold MergeSays SF.data at HCC
      go_wp2_with fail
      refine HCC.out.mono ?_
      rintro r w2 ⟨rfl, d2, hs2, hS2, hK2⟩
      have HS2 := Lib.hid (sw_trans HS1.out HB2.out.blk hS2 hs2)
      have HK2 : Hid ((a < i ∧ i < mid ∧ MrgF lt (fun k => d1[k]!) (fun k => d2[k]!) a i mid) ∨ (¬ (a < i ∧ i < mid) ∧ (fun k : Nat => d2[k]!) = (fun k : Nat => d1[k]!))) := Lib.hid (.inl ⟨by omega, by omega, hK2⟩)
      have HO2 : Hid (∀ k, mid ≤ k → d2[k]! = d1[k]!) := Lib.hid (fun k hk => hK2.1 k (.inr hk))
      have hs2 : d2.size = d.size := by omega
      clear hS2 hK2 HCC c0 c1
      obtain ⟨d3, hd3⟩ : ∃ d3, d3 = d2 := ⟨_, rfl⟩
      obtain ⟨w3, hw3⟩ : ∃ w3, w3 = w2 := ⟨_, rfl⟩
      have hs3 : d3.size = d.size := by rw [hd3]; exact hs2
      have HS3 : Hid (SW enc (w.alloc s.box) s.blk s.off d3 w3) := by rw [hd3, hw3]; exact HS2
      have HK3 : Hid ((mid < e ∧ e < b ∧ MrgF lt (fun k => d2[k]!) (fun k => d3[k]!) mid e b) ∨ (¬ (mid < e ∧ e < b) ∧ (fun k : Nat => d3[k]!) = (fun k : Nat => d2[k]!))) := Lib.hid (.inr ⟨by omega, by rw [hd3]⟩)
      rw [← hw3]
      clear hd3 hw3
      have hD : Left enc s d w (fun f => MrgF lt (fun k => d[k]!) f a m b) w3 := ⟨d3, hs3, sw_trans HB1.out HW.out HS3.out hs3, mrgF_parts hai him hme heb HE5.out himid hmide HX.out HY.out HK1.out HK2.out HK3.out⟩
      have HD := Lib.hid hD
      clear hD HS1 HS2 HS3 HK1 HK2 HK3 HO2 HX HY IH HA1 HA2 HB1 HB2 HC
      go_wp2_with fail
      all_goals
       go_end0
       exact ⟨rfl, HD.out⟩
     ·have g1a : m ≤ i := by omega
      have g1b : e ≤ mid := by omega
      clear g1
      have fim : ¬ (i : Int) < (m : Int) := by omega
      have fai : (a : Int) < (i : Int) := by omega
      have fmide : ¬ (mid : Int) < (e : Int) := by omega
      have fimid : ¬ (i : Int) < (mid : Int) := by omega
      obtain ⟨d1, hd1⟩ : ∃ d1, d1 = d := ⟨_, rfl⟩
      obtain ⟨w1, hw1⟩ : ∃ w1, w1 = wr := ⟨_, rfl⟩
      have hs1 : d1.size = d.size := by rw [hd1]
      have HS1 : Hid (SW enc (w.alloc s.box) s.blk s.off d1 w1) := by rw [hd1, hw1]; exact HS
      have HK1 : Hid (∀ k, d1[k]! = rotF (fun k => d[k]!) i m e k) := Lib.hid (fun k => by rw [hd1]; exact (rotF_none _ i m e hme him (by omega) k).symm)
      rw [← hw1]
      clear hd1 hw1 HS
      obtain ⟨d2, hd2⟩ : ∃ d2, d2 = d1 := ⟨_, rfl⟩
      obtain ⟨w2, hw2⟩ : ∃ w2, w2 = w1 := ⟨_, rfl⟩
      have hs2 : d2.size = d.size := by rw [hd2]; exact hs1
      have HS2 : Hid (SW enc (w.alloc s.box) s.blk s.off d2 w2) := by rw [hd2, hw2]; exact HS1
      have HK2 : Hid ((a < i ∧ i < mid ∧ MrgF lt (fun k => d1[k]!) (fun k => d2[k]!) a i mid) ∨ (¬ (a < i ∧ i < mid) ∧ (fun k : Nat => d2[k]!) = (fun k : Nat => d1[k]!))) := Lib.hid (.inr ⟨by omega, by rw [hd2]⟩)
      have HO2 : Hid (∀ k, mid ≤ k → d2[k]! = d1[k]!) := Lib.hid (fun k hk => by rw [hd2])
      rw [← hw2]
      clear hd2 hw2
      obtain ⟨d3, hd3⟩ : ∃ d3, d3 = d2 := ⟨_, rfl⟩
      obtain ⟨w3, hw3⟩ : ∃ w3, w3 = w2 := ⟨_, rfl⟩
      have hs3 : d3.size = d.size := by rw [hd3]; exact hs2
      have HS3 : Hid (SW enc (w.alloc s.box) s.blk s.off d3 w3) := by rw [hd3, hw3]; exact HS2
      have HK3 : Hid ((mid < e ∧ e < b ∧ MrgF lt (fun k => d2[k]!) (fun k => d3[k]!) mid e b) ∨ (¬ (mid < e ∧ e < b) ∧ (fun k : Nat => d3[k]!) = (fun k : Nat => d2[k]!))) := Lib.hid (.inr ⟨by omega, by rw [hd3]⟩)
      rw [← hw3]
      clear hd3 hw3
      have hD : Left enc s d w (fun f => MrgF lt (fun k => d[k]!) f a m b) w3 := ⟨d3, hs3, sw_trans HB1.out HW.out HS3.out hs3, mrgF_parts hai him hme heb HE5.out himid hmide HX.out HY.out HK1.out HK2.out HK3.out⟩
      have HD := Lib.hid hD
      clear hD HS1 HS2 HS3 HK1 HK2 HK3 HO2 HX HY IH HA1 HA2 HB1 HB2 HC
      go_wp2_with fail
      all_goals
       go_end0
       exact ⟨rfl, HD.out⟩
    ·by_cases g2 : e = m
     ·have g2a : e ≤ m := by omega
      have g2b : mid ≤ i := by omega
      clear g2
      have fim : (i : Int) < (m : Int) := by omega
      have fme : ¬ (m : Int) < (e : Int) := by omega
      have fai : (a : Int) < (i : Int) := by omega
      have fimid : ¬ (i : Int) < (mid : Int) := by omega
      have fmide : (mid : Int) < (e : Int) := by omega
      have feb : (e : Int) < (b : Int) := by omega
      obtain ⟨d1, hd1⟩ : ∃ d1, d1 = d := ⟨_, rfl⟩
      obtain ⟨w1, hw1⟩ : ∃ w1, w1 = wr := ⟨_, rfl⟩
      have hs1 : d1.size = d.size := by rw [hd1]
      have HS1 : Hid (SW enc (w.alloc s.box) s.blk s.off d1 w1) := by rw [hd1, hw1]; exact HS
      have HK1 : Hid (∀ k, d1[k]! = rotF (fun k => d[k]!) i m e k) := Lib.hid (fun k => by rw [hd1]; exact (rotF_none _ i m e hme him (by omega) k).symm)
      rw [← hw1]
      clear hd1 hw1 HS
      obtain ⟨d2, hd2⟩ : ∃ d2, d2 = d1 := ⟨_, rfl⟩
      obtain ⟨w2, hw2⟩ : ∃ w2, w2 = w1 := ⟨_, rfl⟩
      have hs2 : d2.size = d.size := by rw [hd2]; exact hs1
      have HS2 : Hid (SW enc (w.alloc s.box) s.blk s.off d2 w2) := by rw [hd2, hw2]; exact HS1
      have HK2 : Hid ((a < i ∧ i < mid ∧ MrgF lt (fun k => d1[k]!) (fun k => d2[k]!) a i mid) ∨ (¬ (a < i ∧ i < mid) ∧ (fun k : Nat => d2[k]!) = (fun k : Nat => d1[k]!))) := Lib.hid (.inr ⟨by omega, by rw [hd2]⟩)
      have HO2 : Hid (∀ k, mid ≤ k → d2[k]! = d1[k]!) := Lib.hid (fun k hk => by rw [hd2])
      rw [← hw2]
      clear hd2 hw2
      obtain ⟨c0, c1⟩ := HC.out _ _ HS2.out
      have hC := IH.out _ _ (HB2.out.on HS2.out hs2) mid e b (by omega) (by omega) (by omega) (by omega) (asc_same (fun k h1 h2 => HO2.out k h1) (asc_rot3 HK1.out hai him hme HE5.out HA1.out)) (asc_same (fun k h1 h2 => HO2.out k (by omega)) (asc_rot4 HK1.out him hme HA2.out))
      have HCC := Lib.hid hC
      clear hC
      unfold MergeSays SF.data at HCC
      go_wp2_with fail
      refine HCC.out.mono ?_
      rintro r w3 ⟨rfl, d3, hs3, hS3, hK3⟩
      have HS3 := Lib.hid (sw_trans HS2.out HB2.out.blk hS3 hs3)
      have HK3 : Hid ((mid < e ∧ e < b ∧ MrgF lt (fun k => d2[k]!) (fun k => d3[k]!) mid e b) ∨ (¬ (mid < e ∧ e < b) ∧ (fun k : Nat => d3[k]!) = (fun k : Nat => d2[k]!))) := Lib.hid (.inl ⟨by omega, by omega, hK3⟩)
      have hs3 : d3.size = d.size := by omega
      clear hS3 hK3 HCC c0 c1
      have hD : Left enc s d w (fun f => MrgF lt (fun k => d[k]!) f a m b) w3 := ⟨d3, hs3, sw_trans HB1.out HW.out HS3.out hs3, mrgF_parts hai him hme heb HE5.out himid hmide HX.out HY.out HK1.out HK2.out HK3.out⟩
      have HD := Lib.hid hD
      clear hD HS1 HS2 HS3 HK1 HK2 HK3 HO2 HX HY IH HA1 HA2 HB1 HB2 HC
      go_wp2_with fail
      all_goals
       go_end0
       exact ⟨rfl, HD.out⟩
     ·have hpre : i < mid ∧ mid < e := by omega
      by_cases g3 : a < i
      ·by_cases g4 : e < b
       ·have fim : (i : Int) < (m : Int) := by omega
        have fme : (m : Int) < (e : Int) := by omega
        have fimid : (i : Int) < (mid : Int) := by omega
        have fmide : (mid : Int) < (e : Int) := by omega
        have fai : (a : Int) < (i : Int) := by omega
        have feb : (e : Int) < (b : Int) := by omega
        obtain ⟨c0, c1⟩ := HC.out _ _ HS.out
        have hC := rotate_any (HB2.out.on HS.out rfl) i m e (by omega) (by omega) (by omega)
        have HCC := Lib.hid hC
        clear hC
        unfold SF.data at HCC
        go_wp2_with fail
        refine HCC.out.mono ?_
        rintro r w1 ⟨rfl, d1, hs1, hS1, hK1⟩
        have HS1 := Lib.hid (sw_trans HS.out HB2.out.blk hS1 hs1)
        have HK1 := Lib.hid hK1
        clear hS1 hK1 HCC c0 c1
        obtain ⟨c0, c1⟩ := HC.out _ _ HS1.out
        have hC := IH.out _ _ (HB2.out.on HS1.out hs1) a i mid (by omega) (by omega) (by omega) (by omega) (asc_rot1 HK1.out him hme HA1.out) (asc_rot2 HK1.out him hme heb HE5.out HA2.out)
        have HCC := Lib.hid hC
        clear hC
        unfold MergeSays SF.data at HCC
        go_wp2_with fail
        refine HCC.out.mono ?_
        rintro r w2 ⟨rfl, d2, hs2, hS2, hK2⟩
        have HS2 := Lib.hid (sw_trans HS1.out HB2.out.blk hS2 hs2)
        have HK2 : Hid ((a < i ∧ i < mid ∧ MrgF lt (fun k => d1[k]!) (fun k => d2[k]!) a i mid) ∨ (¬ (a < i ∧ i < mid) ∧ (fun k : Nat => d2[k]!) = (fun k : Nat => d1[k]!))) := Lib.hid (.inl ⟨by omega, by omega, hK2⟩)
        have HO2 : Hid (∀ k, mid ≤ k → d2[k]! = d1[k]!) := Lib.hid (fun k hk => hK2.1 k (.inr hk))
        have hs2 : d2.size = d.size := by omega
        clear hS2 hK2 HCC c0 c1
        obtain ⟨c0, c1⟩ := HC.out _ _ HS2.out
        have hC := IH.out _ _ (HB2.out.on HS2.out hs2) mid e b (by omega) (by omega) (by omega) (by omega) (asc_same (fun k h1 h2 => HO2.out k h1) (asc_rot3 HK1.out hai him hme HE5.out HA1.out)) (asc_same (fun k h1 h2 => HO2.out k (by omega)) (asc_rot4 HK1.out him hme HA2.out))
        have HCC := Lib.hid hC
        clear hC
        unfold MergeSays SF.data at HCC
        go_wp2_with fail
        refine HCC.out.mono ?_
        rintro r w3 ⟨rfl, d3, hs3, hS3, hK3⟩
        have HS3 := Lib.hid (sw_trans HS2.out HB2.out.blk hS3 hs3)
        have HK3 : Hid ((mid < e ∧ e < b ∧ MrgF lt (fun k => d2[k]!) (fun k => d3[k]!) mid e b) ∨ (¬ (mid < e ∧ e < b) ∧ (fun k : Nat => d3[k]!) = (fun k : Nat => d2[k]!))) := Lib.hid (.inl ⟨by omega, by omega, hK3⟩)
        have hs3 : d3.size = d.size := by omega
        clear hS3 hK3 HCC c0 c1
        have hD : Left enc s d w (fun f => MrgF lt (fun k => d[k]!) f a m b) w3 := ⟨d3, hs3, sw_trans HB1.out HW.out HS3.out hs3, mrgF_parts hai him hme heb HE5.out himid hmide HX.out HY.out HK1.out HK2.out HK3.out⟩
        have HD := Lib.hid hD
        clear hD HS1 HS2 HS3 HK1 HK2 HK3 HO2 HX HY IH HA1 HA2 HB1 HB2 HC
        go_wp2_with fail
        all_goals
         go_end0
         exact ⟨rfl, HD.out⟩
       ·have fim : (i : Int) < (m : Int) := by omega
        have fme : (m : Int) < (e : Int) := by omega
        have fimid : (i : Int) < (mid : Int) := by omega
        have fmide : (mid : Int) < (e : Int) := by omega
        have fai : (a : Int) < (i : Int) := by omega
        have feb : ¬ (e : Int) < (b : Int) := by omega
        obtain ⟨c0, c1⟩ := HC.out _ _ HS.out
        have hC := rotate_any (HB2.out.on HS.out rfl) i m e (by omega) (by omega) (by omega)
        have HCC := Lib.hid hC
        clear hC
        unfold SF.data at HCC
        go_wp2_with fail
        refine HCC.out.mono ?_
        rintro r w1 ⟨rfl, d1, hs1, hS1, hK1⟩
        have HS1 := Lib.hid (sw_trans HS.out HB2.out.blk hS1 hs1)
        have HK1 := Lib.hid hK1
        clear hS1 hK1 HCC c0 c1
        obtain ⟨c0, c1⟩ := HC.out _ _ HS1.out
        have hC := IH.out _ _ (HB2.out.on HS1.out hs1) a i mid (by omega) (by omega) (by omega) (by omega) (asc_rot1 HK1.out him hme HA1.out) (asc_rot2 HK1.out him hme heb HE5.out HA2.out)
        have HCC := Lib.hid hC
        clear hC
        unfold MergeSays SF.data at HCC
        go_wp2_with fail
        refine HCC.out.mono ?_
        rintro r w2 ⟨rfl, d2, hs2, hS2, hK2⟩
        have HS2 := Lib.hid (sw_trans HS1.out HB2.out.blk hS2 hs2)
        have HK2 : Hid ((a < i ∧ i < mid ∧ MrgF lt (fun k => d1[k]!) (fun k => d2[k]!) a i mid) ∨ (¬ (a < i ∧ i < mid) ∧ (fun k : Nat => d2[k]!) = (fun k : Nat => d1[k]!))) := Lib.hid (.inl ⟨by omega, by omega, hK2⟩)
        have HO2 : Hid (∀ k, mid ≤ k → d2[k]! = d1[k]!) := Lib.hid (fun k hk => hK2.1 k (.inr hk))
        have hs2 : d2.size = d.size := by omega
        clear hS2 hK2 HCC c0 c1
        obtain ⟨d3, hd3⟩ : ∃ d3, d3 = d2 := ⟨_, rfl⟩
        obtain ⟨w3, hw3⟩ : ∃ w3, w3 = w2 := ⟨_, rfl⟩
        have hs3 : d3.size = d.size := by rw [hd3]; exact hs2
        have HS3 : Hid (SW enc (w.alloc s.box) s.blk s.off d3 w3) := by rw [hd3, hw3]; exact HS2
        have HK3 : Hid ((mid < e ∧ e < b ∧ MrgF lt (fun k => d2[k]!) (fun k => d3[k]!) mid e b) ∨ (¬ (mid < e ∧ e < b) ∧ (fun k : Nat => d3[k]!) = (fun k : Nat => d2[k]!))) := Lib.hid (.inr ⟨by omega, by rw [hd3]⟩)
        rw [← hw3]
        clear hd3 hw3
        have hD : Left enc s d w (fun f => MrgF lt (fun k => d[k]!) f a m b) w3 := ⟨d3, hs3, sw_trans HB1.out HW.out HS3.out hs3, mrgF_parts hai him hme heb HE5.out himid hmide HX.out HY.out HK1.out HK2.out HK3.out⟩
        have HD := Lib.hid hD
        clear hD HS1 HS2 HS3 HK1 HK2 HK3 HO2 HX HY IH HA1 HA2 HB1 HB2 HC
        go_wp2_with fail
        all_goals
         go_end0
         exact ⟨rfl, HD.out⟩
      ·by_cases g4 : e < b
       ·have fim : (i : Int) < (m : Int) := by omega
        have fme : (m : Int) < (e : Int) := by omega
        have fimid : (i : Int) < (mid : Int) := by omega
        have fmide : (mid : Int) < (e : Int) := by omega
        have fai : ¬ (a : Int) < (i : Int) := by omega
        have feb : (e : Int) < (b : Int) := by omega
        obtain ⟨c0, c1⟩ := HC.out _ _ HS.out
        have hC := rotate_any (HB2.out.on HS.out rfl) i m e (by omega) (by omega) (by omega)
        have HCC := Lib.hid hC
        clear hC
        unfold SF.data at HCC
        go_wp2_with fail
        refine HCC.out.mono ?_
        rintro r w1 ⟨rfl, d1, hs1, hS1, hK1⟩
        have HS1 := Lib.hid (sw_trans HS.out HB2.out.blk hS1 hs1)
        have HK1 := Lib.hid hK1
        clear hS1 hK1 HCC c0 c1
        obtain ⟨d2, hd2⟩ : ∃ d2, d2 = d1 := ⟨_, rfl⟩
        obtain ⟨w2, hw2⟩ : ∃ w2, w2 = w1 := ⟨_, rfl⟩
        have hs2 : d2.size = d.size := by rw [hd2]; exact hs1
        have HS2 : Hid (SW enc (w.alloc s.box) s.blk s.off d2 w2) := by rw [hd2, hw2]; exact HS1
        have HK2 : Hid ((a < i ∧ i < mid ∧ MrgF lt (fun k => d1[k]!) (fun k => d2[k]!) a i mid) ∨ (¬ (a < i ∧ i < mid) ∧ (fun k : Nat => d2[k]!) = (fun k : Nat => d1[k]!))) := Lib.hid (.inr ⟨by omega, by rw [hd2]⟩)
        have HO2 : Hid (∀ k, mid ≤ k → d2[k]! = d1[k]!) := Lib.hid (fun k hk => by rw [hd2])
        rw [← hw2]
        clear hd2 hw2
        obtain ⟨c0, c1⟩ := HC.out _ _ HS2.out
        have hC := IH.out _ _ (HB2.out.on HS2.out hs2) mid e b (by omega) (by omega) (by omega) (by omega) (asc_same (fun k h1 h2 => HO2.out k h1) (asc_rot3 HK1.out hai him hme HE5.out HA1.out)) (asc_same (fun k h1 h2 => HO2.out k (by omega)) (asc_rot4 HK1.out him hme HA2.out))
        have HCC := Lib.hid hC
        clear hC
        unfold MergeSays SF.data at HCC
        go_wp2_with fail
        refine HCC.out.mono ?_
        rintro r w3 ⟨rfl, d3, hs3, hS3, hK3⟩
        have HS3 := Lib.hid (sw_trans HS2.out HB2.out.blk hS3 hs3)
        have HK3 : Hid ((mid < e ∧ e < b ∧ MrgF lt (fun k => d2[k]!) (fun k => d3[k]!) mid e b) ∨ (¬ (mid < e ∧ e < b) ∧ (fun k : Nat => d3[k]!) = (fun k : Nat => d2[k]!))) := Lib.hid (.inl ⟨by omega, by omega, hK3⟩)
        have hs3 : d3.size = d.size := by omega
        clear hS3 hK3 HCC c0 c1
        have hD : Left enc s d w (fun f => MrgF lt (fun k => d[k]!) f a m b) w3 := ⟨d3, hs3, sw_trans HB1.out HW.out HS3.out hs3, mrgF_parts hai him hme heb HE5.out himid hmide HX.out HY.out HK1.out HK2.out HK3.out⟩
        have HD := Lib.hid hD
        clear hD HS1 HS2 HS3 HK1 HK2 HK3 HO2 HX HY IH HA1 HA2 HB1 HB2 HC
        go_wp2_with fail
        all_goals
         go_end0
         exact ⟨rfl, HD.out⟩
       ·have fim : (i : Int) < (m : Int) := by omega
        have fme : (m : Int) < (e : Int) := by omega
        have fimid : (i : Int) < (mid : Int) := by omega
        have fmide : (mid : Int) < (e : Int) := by omega
        have fai : ¬ (a : Int) < (i : Int) := by omega
        have feb : ¬ (e : Int) < (b : Int) := by omega
        obtain ⟨c0, c1⟩ := HC.out _ _ HS.out
        have hC := rotate_any (HB2.out.on HS.out rfl) i m e (by omega) (by omega) (by omega)
        have HCC := Lib.hid hC
        clear hC
        unfold SF.data at HCC
        go_wp2_with fail
        refine HCC.out.mono ?_
        rintro r w1 ⟨rfl, d1, hs1, hS1, hK1⟩
        have HS1 := Lib.hid (sw_trans HS.out HB2.out.blk hS1 hs1)
        have HK1 := Lib.hid hK1
        clear hS1 hK1 HCC c0 c1
        obtain ⟨d2, hd2⟩ : ∃ d2, d2 = d1 := ⟨_, rfl⟩
        obtain ⟨w2, hw2⟩ : ∃ w2, w2 = w1 := ⟨_, rfl⟩
        have hs2 : d2.size = d.size := by rw [hd2]; exact hs1
        have HS2 : Hid (SW enc (w.alloc s.box) s.blk s.off d2 w2) := by rw [hd2, hw2]; exact HS1
        have HK2 : Hid ((a < i ∧ i < mid ∧ MrgF lt (fun k => d1[k]!) (fun k => d2[k]!) a i mid) ∨ (¬ (a < i ∧ i < mid) ∧ (fun k : Nat => d2[k]!) = (fun k : Nat => d1[k]!))) := Lib.hid (.inr ⟨by omega, by rw [hd2]⟩)
        have HO2 : Hid (∀ k, mid ≤ k → d2[k]! = d1[k]!) := Lib.hid (fun k hk => by rw [hd2])
        rw [← hw2]
        clear hd2 hw2
        obtain ⟨d3, hd3⟩ : ∃ d3, d3 = d2 := ⟨_, rfl⟩
        obtain ⟨w3, hw3⟩ : ∃ w3, w3 = w2 := ⟨_, rfl⟩
        have hs3 : d3.size = d.size := by rw [hd3]; exact hs2
        have HS3 : Hid (SW enc (w.alloc s.box) s.blk s.off d3 w3) := by rw [hd3, hw3]; exact HS2
        have HK3 : Hid ((mid < e ∧ e < b ∧ MrgF lt (fun k => d2[k]!) (fun k => d3[k]!) mid e b) ∨ (¬ (mid < e ∧ e < b) ∧ (fun k : Nat => d3[k]!) = (fun k : Nat => d2[k]!))) := Lib.hid (.inr ⟨by omega, by rw [hd3]⟩)
        rw [← hw3]
        clear hd3 hw3
        have hD : Left enc s d w (fun f => MrgF lt (fun k => d[k]!) f a m b) w3 := ⟨d3, hs3, sw_trans HB1.out HW.out HS3.out hs3, mrgF_parts hai him hme heb HE5.out himid hmide HX.out HY.out HK1.out HK2.out HK3.out⟩
        have HD := Lib.hid hD
        clear hD HS1 HS2 HS3 HK1 HK2 HK3 HO2 HX HY IH HA1 HA2 HB1 HB2 HC
        go_wp2_with fail
        all_goals
         go_end0
         exact ⟨rfl, HD.out⟩
theorem merge_any (hO : SWO lt) : ∀ (N : Nat) {d : Array α} {w : World}, Can enc lt s d w → ∀ (a m b : Nat), b - a ≤ N → a < m → m < b → b ≤ d.size → AscF lt (fun k => d[k]!) a m → AscF lt (fun k => d[k]!) m b → MergeSays enc lt s d w a m b := by
 intro N
 induction N with
 |zero => intro d w h a m b hN ham hmb; omega
 |succ N ih =>
  intro d w h a m b hN ham hmb hb h1 h2
  by_cases e1 : m = a + 1
  ·subst e1; exact merge_first hO h a b hmb hb h2
  ·by_cases e2 : b = m + 1
   ·subst e2; exact merge_last hO h a m (by omega) hb h1
   ·exact merge_step hO N (fun d w h => ih h) h a m b hN (by omega) (by omega) hb h1 h2
end Go.Proofs.YtiecbagejdcafaaGreatDoor
