/- The library's stable sort over a row: two ranges that change places, and a rotation. Of rows of any elements of one cell. -/
import Derived.Test.YtnlhpldjficecaaSortMem
namespace Go.Proofs.Ytnlhpldjficecaa
open Go.Shelf Go.RowKit Go.Lib Go.Sort
set_option linter.unusedVariables false
set_option linter.unusedSectionVars false
variable {α : Type} [Inhabited α] {enc : α → Value} {lt : α → α → Bool} {s : SF} {d : Array α} {w : World}
/-- What a step of the sort leaves: the row holds another one, of like many elements. -/
def Left (enc : α → Value) (s : SF) (d : Array α) (w : World) (p : (Nat → α) → Prop) (w' : World) : Prop := ∃ d' : Array α, d'.size = d.size ∧ SW enc w s.blk s.off d' w' ∧ p (fun k => d'[k]!)
theorem swrF_next (f : Nat → α) {a b i : Nat} (hab : a + i < b) (k : Nat) : swrF f a b (i + 1) k = if k = b + i then swrF f a b i (a + i) else if k = a + i then swrF f a b i (b + i) else swrF f a b i k := by
  unfold swrF
  by_cases h1 : k = b + i
  · subst h1
    rw [if_pos rfl, if_neg (show ¬ (a ≤ b + i ∧ b + i < a + (i + 1)) by omega), if_pos (show b ≤ b + i ∧ b + i < b + (i + 1) by omega), if_neg (show ¬ (a ≤ a + i ∧ a + i < a + i) by omega), if_neg (show ¬ (b ≤ a + i ∧ a + i < b + i) by omega)]
    congr 1; omega
  · rw [if_neg h1]
    by_cases h2 : k = a + i
    · subst h2
      rw [if_pos rfl, if_pos (show a ≤ a + i ∧ a + i < a + (i + 1) by omega), if_neg (show ¬ (a ≤ b + i ∧ b + i < a + i) by omega), if_neg (show ¬ (b ≤ b + i ∧ b + i < b + i) by omega)]
      congr 1; omega
    · rw [if_neg h2]
      by_cases h3 : a ≤ k ∧ k < a + i
      · rw [if_pos h3, if_pos (show a ≤ k ∧ k < a + (i + 1) by omega)]
      · rw [if_neg h3, if_neg (show ¬ (a ≤ k ∧ k < a + (i + 1)) by omega)]
        by_cases h4 : b ≤ k ∧ k < b + i
        · rw [if_pos h4, if_pos (show b ≤ k ∧ k < b + (i + 1) by omega)]
        · rw [if_neg h4, if_neg (show ¬ (b ≤ k ∧ k < b + (i + 1)) by omega)]
theorem swrF_zero (f : Nat → α) (a b k : Nat) : swrF f a b 0 k = f k := by unfold swrF; rw [if_neg (by omega), if_neg (by omega)]
set_option maxRecDepth 100000 in
set_option maxHeartbeats 8000000 in
theorem swapRange_any (h : Can enc lt s d w) (a b n : Nat) (hab : a + n ≤ b) (hbn : b + n ≤ d.size) :
    Calls Try.prog 49 #[s.data, .int .i64 (a : Int), .int .i64 (b : Int), .int .i64 (n : Int)] w fun e w' => e = .returned (.tuple #[]) ∧ Left enc s d w (fun f => ∀ k, f k = swrF (fun k => d[k]!) a b n k) w' := by
  have hsz := h.size
  obtain ⟨hb1, hb2⟩ := h.box
  have HB1 := Lib.hid hb1
  have HB2 := Lib.hid hb2
  have HC := Lib.hid (fun (d1 : Array α) (w1 : World) (k : SW enc (w.alloc s.box) s.blk s.off d1 w1) => h.cells k)
  have HW := Lib.hid h.blk
  clear hb1 hb2 h
  unfold SF.data
  go_enter Try.func49, Try.ntmps49
  go_wp2_with fail
  have hX : w.alloc (.cells #[.func (.func s.g) #[] s.lb, .func (.func s.sf) #[] s.sb] 65) = w.alloc s.box := rfl
  rw [hX]
  clear hX
  go_loopg [8] n (fun gk iv wr => ∃ (i : Nat) (dk : Array α), iv = .int .i64 (i : Int) ∧ i ≤ n ∧ n - i ≤ gk ∧ dk.size = d.size ∧ Hid (SW enc (w.alloc s.box) s.blk s.off dk wr) ∧ Hid (∀ k, dk[k]! = swrF (fun k => d[k]!) a b i k))
  case atStart => exact ⟨0, d, rfl, by omega, by omega, rfl, Lib.hid (SW.start HB2.out.holds), Lib.hid (fun k => (swrF_zero _ a b k).symm)⟩
  case round =>
    obtain ⟨i, dk, rfl, hi, hgk, hs, HS, HK⟩ := hrel
    by_cases hlt : i < n
    · have hlt2 : (i : Int) < (n : Int) := by omega
      obtain ⟨c0, c1⟩ := HC.out _ _ HS.out
      obtain ⟨w2, hrun, hS2⟩ := HB2.out.swaps HS.out hs (i := a + i) (j := b + i) (by omega) (by omega)
      have HS2 := Lib.hid hS2
      rw [show (((a + i : Nat)) : Int) = (a : Int) + (i : Int) by omega, show (((b + i : Nat)) : Int) = (b : Int) + (i : Int) by omega] at hrun
      have HK2 : Hid (∀ k, (swp dk (a + i) (b + i))[k]! = swrF (fun k => d[k]!) a b (i + 1) k) := Lib.hid (fun k => by
        rw [swp_at dk (by omega) (by omega), swrF_next _ (by omega), HK.out, HK.out, HK.out])
      clear hS2 HS
      go_wp2_with fail
      go_roundg (n - (i + 1))
      case measure => omega
      case rel => exact ⟨i + 1, _, by simp, by omega, by omega, by rw [size_swp]; exact hs, HS2, HK2⟩
    · have hlt2 : ¬ (i : Int) < (n : Int) := by omega
      obtain rfl : i = n := by omega
      have hD : Left enc s d w (fun f => ∀ k, f k = swrF (fun k => d[k]!) a b i k) wr := ⟨dk, hs, sw_trans HB1.out HW.out HS.out hs, HK.out⟩
      have HD := Lib.hid hD
      clear hD HS HK HB1 HB2 HC
      go_wp2_with fail
      go_end0
      exact ⟨rfl, HD.out⟩
set_option maxRecDepth 100000 in
set_option maxHeartbeats 8000000 in
theorem rotate_any (h : Can enc lt s d w) (a m b : Nat) (ham : a < m) (hmb : m < b) (hb : b ≤ d.size) :
    Calls Try.prog 48 #[s.data, .int .i64 (a : Int), .int .i64 (m : Int), .int .i64 (b : Int)] w fun e w' => e = .returned (.tuple #[]) ∧ Left enc s d w (fun f => ∀ k, f k = rotF (fun k => d[k]!) a m b k) w' := by
  have hsz := h.size
  obtain ⟨hb1, hb2⟩ := h.box
  have HB1 := Lib.hid hb1
  have HB2 := Lib.hid hb2
  have HC := Lib.hid (fun (d1 : Array α) (w1 : World) (k : SW enc (w.alloc s.box) s.blk s.off d1 w1) => h.cells k)
  have HW := Lib.hid h.blk
  clear hb1 hb2 h
  unfold SF.data
  go_enter Try.func48, Try.ntmps48
  go_wp2_with fail
  have hX : w.alloc (.cells #[.func (.func s.g) #[] s.lb, .func (.func s.sf) #[] s.sb] 65) = w.alloc s.box := rfl
  rw [hX]
  clear hX
  go_loopg [8, 9] (b - a) (fun gk iv jv wr => ∃ (i j : Nat) (dk : Array α), iv = .int .i64 (i : Int) ∧ jv = .int .i64 (j : Int) ∧ 1 ≤ i ∧ 1 ≤ j ∧ i + a ≤ m ∧ m + j ≤ b ∧ i + j ≤ gk ∧ dk.size = d.size ∧ Hid (SW enc (w.alloc s.box) s.blk s.off dk wr) ∧ Hid (∀ k, rotF (fun k => dk[k]!) (m - i) m (m + j) k = rotF (fun k => d[k]!) a m b k))
  case atStart => exact ⟨m - a, b - m, d, by go_num, by go_num, by omega, by omega, by omega, by omega, by omega, rfl, Lib.hid (SW.start HB2.out.holds), Lib.hid (fun k => by rw [show m - (m - a) = a by omega, show m + (b - m) = b by omega])⟩
  case round =>
    obtain ⟨i, j, dk, rfl, rfl, hi, hj, hia, hjb, hgk, hs, HS, HK⟩ := hrel
    obtain ⟨c0, c1⟩ := HC.out _ _ HS.out
    by_cases hij : i = j
    · subst hij
      have hq : ((i : Int) != (i : Int)) = false := by simp
      have hC := swapRange_any (HB2.out.on HS.out hs) (m - i) m i (by omega) (by omega)
      rw [show ((m - i : Nat) : Int) = (m : Int) - (i : Int) by omega] at hC
      have HCC := Lib.hid hC
      clear hC
      unfold SF.data at HCC
      go_wp2_with fail
      refine HCC.out.mono ?_
      rintro e w3 ⟨rfl, d3, hs3, hS3, hK3⟩
      have hD : Left enc s d w (fun f => ∀ k, f k = rotF (fun k => d[k]!) a m b k) w3 :=
        ⟨d3, by omega, sw_trans HB1.out HW.out (sw_trans HS.out (by exact (HB2.out).blk) hS3 hs3) (by omega), fun k => by rw [← HK.out]; exact rot_same (fun k => dk[k]!) (fun k => d3[k]!) (by omega) hK3 k⟩
      have HD := Lib.hid hD
      clear hD hS3 hK3 HS HK HB1 HB2 HC HCC
      go_wp2_with fail
      go_end0
      exact ⟨rfl, HD.out⟩
    · have hq : ((i : Int) != (j : Int)) = true := by simp; omega
      by_cases hlt : j < i
      · have hlt2 : (j : Int) < (i : Int) := by omega
        have hC := swapRange_any (HB2.out.on HS.out hs) (m - i) m j (by omega) (by omega)
        rw [show ((m - i : Nat) : Int) = (m : Int) - (i : Int) by omega] at hC
        have HCC := Lib.hid hC
        clear hC
        unfold SF.data at HCC
        go_wp2_with fail
        refine HCC.out.mono ?_
        rintro e w3 ⟨rfl, d3, hs3, hS3, hK3⟩
        have HS3 := Lib.hid (sw_trans HS.out (HB2.out).blk hS3 hs3)
        have HK3 : Hid (∀ k, rotF (fun k => d3[k]!) (m - (i - j)) m (m + j) k = rotF (fun k => d[k]!) a m b k) := Lib.hid (fun k => by rw [← HK.out]; exact rot_more (fun k => dk[k]!) (fun k => d3[k]!) (by omega) hlt hK3 k)
        clear hS3 hK3 HS HK HCC c0 c1
        go_wp2_with fail
        go_roundg (i - j + j)
        case measure => omega
        case rel => exact ⟨i - j, j, d3, by go_num, rfl, by omega, hj, by omega, hjb, by omega, by omega, HS3, HK3⟩
      · have hlt2 : ¬ (j : Int) < (i : Int) := by omega
        have hC := swapRange_any (HB2.out.on HS.out hs) (m - i) (m + j - i) i (by omega) (by omega)
        rw [show ((m - i : Nat) : Int) = (m : Int) - (i : Int) by omega, show ((m + j - i : Nat) : Int) = (m : Int) + (j : Int) - (i : Int) by omega] at hC
        have HCC := Lib.hid hC
        clear hC
        unfold SF.data at HCC
        go_wp2_with fail
        refine HCC.out.mono ?_
        rintro e w3 ⟨rfl, d3, hs3, hS3, hK3⟩
        have HS3 := Lib.hid (sw_trans HS.out (HB2.out).blk hS3 hs3)
        have HK3 : Hid (∀ k, rotF (fun k => d3[k]!) (m - i) m (m + (j - i)) k = rotF (fun k => d[k]!) a m b k) := Lib.hid (fun k => by rw [← HK.out]; exact rot_less (fun k => dk[k]!) (fun k => d3[k]!) (by omega) (by omega) hK3 k)
        clear hS3 hK3 HS HK HCC c0 c1
        go_wp2_with fail
        go_roundg (i + (j - i))
        case measure => omega
        case rel => exact ⟨i, j - i, d3, rfl, by go_num, hi, by omega, hia, by omega, by omega, by omega, HS3, HK3⟩
end Go.Proofs.Ytnlhpldjficecaa
