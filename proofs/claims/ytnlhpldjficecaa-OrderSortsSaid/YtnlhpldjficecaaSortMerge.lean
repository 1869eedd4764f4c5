/- The library's stable sort over a row: two ascending ranges merged in place. Of rows of any elements of one cell. -/
import Derived.Test.YtnlhpldjficecaaSortRange
import Derived.Handy
namespace Go.Proofs.Ytnlhpldjficecaa
open Go.Shelf Go.RowKit Go.Lib Go.Sort
set_option linter.unusedVariables false
set_option linter.unusedSectionVars false
variable {α : Type} [Inhabited α] {enc : α → Value} {lt : α → α → Bool} {s : SF}
theorem rot_right (f : Nat → α) {a k : Nat} (hk : a ≤ k) (t : Nat) : rotF f a (a + 1) (k + 2) t = if t = k + 1 then rotF f a (a + 1) (k + 1) k else if t = k then rotF f a (a + 1) (k + 1) (k + 1) else rotF f a (a + 1) (k + 1) t := by
  by_cases h1 : t = k + 1
  · subst h1
    rw [if_pos rfl, rotF_right _ (by omega) (by omega), rotF_right _ (by omega) (by omega)]
    congr 1; omega
  · rw [if_neg h1]
    by_cases h2 : t = k
    · subst h2
      rw [if_pos rfl, rotF_left _ (by omega) (by omega), rotF_else _ (by omega) (by omega) (by omega)]
      congr 1; omega
    · rw [if_neg h2]
      by_cases h3 : t < a
      · rw [rotF_else _ (by omega) (by omega) (by omega), rotF_else _ (by omega) (by omega) (by omega)]
      · by_cases h4 : t < k
        · rw [rotF_left _ (by omega) (by omega), rotF_left _ (by omega) (by omega)]
        · rw [rotF_else _ (by omega) (by omega) (by omega), rotF_else _ (by omega) (by omega) (by omega)]
theorem rot_down (f : Nat → α) {k m : Nat} (hk : k + 1 ≤ m) (t : Nat) : rotF f k m (m + 1) t = if t = k then rotF f (k + 1) m (m + 1) (k + 1) else if t = k + 1 then rotF f (k + 1) m (m + 1) k else rotF f (k + 1) m (m + 1) t := by
  by_cases h1 : t = k
  · subst h1
    rw [if_pos rfl, rotF_left _ (by omega) (by omega), rotF_left _ (by omega) (by omega)]
    congr 1; omega
  · rw [if_neg h1]
    by_cases h2 : t = k + 1
    · subst h2
      rw [if_pos rfl, rotF_right _ (by omega) (by omega), rotF_else _ (by omega) (by omega) (by omega)]
      congr 1; omega
    · rw [if_neg h2]
      by_cases h3 : t < k ∨ m + 1 ≤ t
      · rw [rotF_else _ (by omega) (by omega) (by omega), rotF_else _ (by omega) (by omega) (by omega)]
      · rw [rotF_right _ (by omega) (by omega), rotF_right _ (by omega) (by omega)]
theorem half_of (x y : Nat) : (((x : Int) + (y : Int)) / 2) = (((x + y) / 2 : Nat) : Int) := by omega
set_option maxRecDepth 100000 in
set_option maxHeartbeats 8000000 in
/-- One element ahead of the others. -/
theorem merge_first (hO : SWO lt) {d : Array α} {w : World} (h : Can enc lt s d w) (a b : Nat) (hmb : a + 1 < b) (hb : b ≤ d.size) (h2 : AscF lt (fun k => d[k]!) (a + 1) b) :
    Calls Try.prog 47 #[s.data, .int .i64 (a : Int), .int .i64 ((a + 1 : Nat) : Int), .int .i64 (b : Int)] w fun e w' => e = .returned (.tuple #[]) ∧ Left enc s d w (fun f => MrgF lt (fun k => d[k]!) f a (a + 1) b) w' := by
  have hsz := h.size
  have eg := h.enter
  obtain ⟨hb1, hb2⟩ := h.box
  have HB1 := Lib.hid hb1
  have HB2 := Lib.hid hb2
  have HA := Lib.hid h2
  have HC := Lib.hid (fun (d1 : Array α) (w1 : World) (k : SW enc (w.alloc s.box) s.blk s.off d1 w1) => h.cells k)
  have HW := Lib.hid h.blk
  clear hb1 hb2 h h2
  obtain ⟨m, hm⟩ : ∃ m, a + 1 = m := ⟨_, rfl⟩
  rw [hm]
  have hm1 : ((m : Int) - (a : Int) == 1) = true := by simp; omega
  unfold SF.data
  go_enter Try.func47, Try.ntmps47
  go_wp2_with fail
  have hX : w.alloc (.cells #[.func (.func s.g) #[] s.lb, .func (.func s.sf) #[] s.sb] 65) = w.alloc s.box := rfl
  rw [hX]
  clear hX
  go_loopg [8, 9] (b - a) (fun gk iv jv wr => ∃ (i j : Nat), iv = .int .i64 (i : Int) ∧ jv = .int .i64 (j : Int) ∧ m ≤ i ∧ i ≤ j ∧ j ≤ b ∧ j - i ≤ gk ∧ Hid (SW enc (w.alloc s.box) s.blk s.off d wr) ∧ Hid (i = m ∨ lt d[i - 1]! d[a]! = true) ∧ Hid (j = b ∨ lt d[j]! d[a]! = false))
  case atStart => exact ⟨m, b, rfl, rfl, by omega, by omega, by omega, by omega, Lib.hid (SW.start HB2.out.holds), Lib.hid (.inl rfl), Lib.hid (.inl rfl)⟩
  case round =>
    obtain ⟨i, j, rfl, rfl, hi, hij, hj, hgk, HS, HI, HJ⟩ := hrel
    obtain ⟨c0, c1⟩ := HC.out _ _ HS.out
    by_cases hlt : i < j
    · have hlt2 : (i : Int) < (j : Int) := by omega
      have hhalf := half_of i j
      obtain ⟨p, hp⟩ : ∃ p, (i + j) / 2 = p := ⟨_, rfl⟩
      have hpi : i ≤ p := by omega
      have hpj : p < j := by omega
      rw [hp] at hhalf
      have hl := HS.out.less HB2.out.less rfl p a (by omega) (by omega)
      have HL := Lib.hid hl
      clear hl hp
      cases hv : lt d[p]! d[a]! with
      | true =>
        rw [hv] at HL
        have HS2 := Lib.hid (fun q => HS.out.drewN q)
        have HI2 : Hid (p + 1 = m ∨ lt d[p + 1 - 1]! d[a]! = true) := Lib.hid (.inr (by rw [Nat.add_sub_cancel]; exact hv))
        clear hv HS HI
        go_wp2_with fail
        refine HL.out.mono ?_
        rintro e w3 ⟨rfl, q, rfl⟩
        go_wp2_with fail
        go_roundg (j - (p + 1))
        case measure => omega
        case rel => exact ⟨p + 1, j, by simp, rfl, by omega, by omega, hj, by omega, Lib.hid (HS2.out q), HI2, HJ⟩
      | false =>
        rw [hv] at HL
        have HS2 := Lib.hid (fun q => HS.out.drewN q)
        have HJ2 : Hid (p = b ∨ lt d[p]! d[a]! = false) := Lib.hid (.inr hv)
        clear hv HS HJ
        go_wp2_with fail
        refine HL.out.mono ?_
        rintro e w3 ⟨rfl, q, rfl⟩
        go_wp2_with fail
        go_roundg (p - i)
        case measure => omega
        case rel => exact ⟨i, p, rfl, rfl, hi, hpi, by omega, by omega, Lib.hid (HS2.out q), HI, HJ2⟩
    · have hlt2 : ¬ (i : Int) < (j : Int) := by omega
      obtain rfl : i = j := by omega
      have HL1 : Hid (∀ t, m ≤ t → t < i → lt d[t]! d[a]! = true) := Lib.hid (fun t h1 h2 => by
        rcases HI.out with h | h
        · omega
        · by_cases e : t = i - 1
          · subst e; exact h
          · exact lt_of_le_lt hO (HA.out t (i - 1) (by omega) (by omega) (by omega)) h)
      have HL2 : Hid (∀ t, i ≤ t → t < b → lt d[t]! d[a]! = false) := Lib.hid (fun t h1 h2 => by
        rcases HJ.out with h | h
        · omega
        · by_cases e : t = i
          · subst e; exact h
          · exact hO.ntrans _ _ _ (HA.out i t (by omega) (by omega) h2) h)
      clear HI HJ c0 c1 hlt
      obtain ⟨W1, rfl⟩ : ∃ W1, W1 = wr := ⟨_, rfl⟩
      go_wp2_with fail
      go_loopg [11] (i - 1 - a) (fun gk kv wr2 => ∃ (k : Nat) (dk : Array α), kv = .int .i64 (k : Int) ∧ a ≤ k ∧ k + 1 ≤ i ∧ i - 1 - k ≤ gk ∧ dk.size = d.size ∧ Hid (SW enc (w.alloc s.box) s.blk s.off dk wr2) ∧ Hid (∀ t, dk[t]! = rotF (fun k => d[k]!) a (a + 1) (k + 1) t))
      case atStart => exact ⟨a, d, rfl, by omega, by omega, by omega, rfl, HS, Lib.hid (fun t => (rotF_none _ a (a + 1) (a + 1) (by omega) (by omega) (.inr rfl) t).symm)⟩
      case round =>
        obtain ⟨k, dk, rfl, hk, hki, hgk2, hs, HSk, HK⟩ := hrel
        by_cases hlt : k < i - 1
        · have hlt3 : (k : Int) < (i : Int) - 1 := by omega
          obtain ⟨c0, c1⟩ := HC.out _ _ HSk.out
          obtain ⟨w2, hrun, hS2⟩ := HB2.out.swaps HSk.out hs (i := k) (j := k + 1) (by omega) (by omega)
          have HS2 := Lib.hid hS2
          rw [show (((k + 1 : Nat)) : Int) = (k : Int) + 1 by omega] at hrun
          have HK2 : Hid (∀ t, (swp dk k (k + 1))[t]! = rotF (fun k => d[k]!) a (a + 1) (k + 1 + 1) t) := Lib.hid (fun t => by
            rw [swp_at dk (by omega) (by omega), rot_right _ hk, HK.out, HK.out, HK.out])
          clear hS2 HSk
          go_wp2_with fail
          go_roundg (i - 1 - (k + 1))
          case measure => omega
          case rel => exact ⟨k + 1, _, by simp, by omega, by omega, by omega, by rw [size_swp]; exact hs, HS2, HK2⟩
        · have hlt3 : ¬ (k : Int) < (i : Int) - 1 := by omega
          obtain rfl : i = k + 1 := by omega
          have hD : Left enc s d w (fun f => MrgF lt (fun k => d[k]!) f a (a + 1) b) wr := ⟨dk, hs, sw_trans HB1.out HW.out HSk.out hs, mrgF_first (by omega) (by omega) (fun j h1 h2 => HL1.out j (by omega) h2) HL2.out HK.out⟩
          have HD : Hid (Left enc s d w (fun f => MrgF lt (fun k => d[k]!) f a m b) wr) := Lib.hid (by rw [← hm]; exact hD)
          clear hD HSk HK HB1 HB2 HC HL1 HL2 HS HA
          go_wp2_with fail
          first | go_returns | go_ret | go_end0
          exact ⟨rfl, HD.out⟩
set_option maxRecDepth 100000 in
set_option maxHeartbeats 8000000 in
/-- One element behind the others. -/
theorem merge_last (hO : SWO lt) {d : Array α} {w : World} (h : Can enc lt s d w) (a m : Nat) (ham : a + 1 < m) (hb : m + 1 ≤ d.size) (h2 : AscF lt (fun k => d[k]!) a m) :
    Calls Try.prog 47 #[s.data, .int .i64 (a : Int), .int .i64 (m : Int), .int .i64 ((m + 1 : Nat) : Int)] w fun e w' => e = .returned (.tuple #[]) ∧ Left enc s d w (fun f => MrgF lt (fun k => d[k]!) f a m (m + 1)) w' := by
  have hsz := h.size
  have eg := h.enter
  obtain ⟨hb1, hb2⟩ := h.box
  have HB1 := Lib.hid hb1
  have HB2 := Lib.hid hb2
  have HA := Lib.hid h2
  have HC := Lib.hid (fun (d1 : Array α) (w1 : World) (k : SW enc (w.alloc s.box) s.blk s.off d1 w1) => h.cells k)
  have HW := Lib.hid h.blk
  clear hb1 hb2 h h2
  obtain ⟨b, hm⟩ : ∃ b, m + 1 = b := ⟨_, rfl⟩
  rw [hm]
  have hm0 : ((m : Int) - (a : Int) == 1) = false := by simp; omega
  have hm1 : ((b : Int) - (m : Int) == 1) = true := by simp; omega
  unfold SF.data
  go_enter Try.func47, Try.ntmps47
  go_wp2_with fail
  have hX : w.alloc (.cells #[.func (.func s.g) #[] s.lb, .func (.func s.sf) #[] s.sb] 65) = w.alloc s.box := rfl
  rw [hX]
  clear hX
  go_loopg [12, 13] (m - a) (fun gk iv jv wr => ∃ (i j : Nat), iv = .int .i64 (i : Int) ∧ jv = .int .i64 (j : Int) ∧ a ≤ i ∧ i ≤ j ∧ j ≤ m ∧ j - i ≤ gk ∧ Hid (SW enc (w.alloc s.box) s.blk s.off d wr) ∧ Hid (i = a ∨ lt d[m]! d[i - 1]! = false) ∧ Hid (j = m ∨ lt d[m]! d[j]! = true))
  case atStart => exact ⟨a, m, rfl, rfl, by omega, by omega, by omega, by omega, Lib.hid (SW.start HB2.out.holds), Lib.hid (.inl rfl), Lib.hid (.inl rfl)⟩
  case round =>
    obtain ⟨i, j, rfl, rfl, hi, hij, hj, hgk, HS, HI, HJ⟩ := hrel
    obtain ⟨c0, c1⟩ := HC.out _ _ HS.out
    by_cases hlt : i < j
    · have hlt2 : (i : Int) < (j : Int) := by omega
      have hhalf := half_of i j
      obtain ⟨p, hp⟩ : ∃ p, (i + j) / 2 = p := ⟨_, rfl⟩
      have hpi : i ≤ p := by omega
      have hpj : p < j := by omega
      rw [hp] at hhalf
      have hl := HS.out.less HB2.out.less rfl m p (by omega) (by omega)
      have HL := Lib.hid hl
      clear hl hp
      cases hv : lt d[m]! d[p]! with
      | false =>
        rw [hv] at HL
        have HS2 := Lib.hid (fun q => HS.out.drewN q)
        have HI2 : Hid (p + 1 = a ∨ lt d[m]! d[p + 1 - 1]! = false) := Lib.hid (.inr (by rw [Nat.add_sub_cancel]; exact hv))
        clear hv HS HI
        go_wp2_with fail
        refine HL.out.mono ?_
        rintro e w3 ⟨rfl, q, rfl⟩
        go_wp2_with fail
        go_roundg (j - (p + 1))
        case measure => omega
        case rel => exact ⟨p + 1, j, by simp, rfl, by omega, by omega, hj, by omega, Lib.hid (HS2.out q), HI2, HJ⟩
      | true =>
        rw [hv] at HL
        have HS2 := Lib.hid (fun q => HS.out.drewN q)
        have HJ2 : Hid (p = m ∨ lt d[m]! d[p]! = true) := Lib.hid (.inr hv)
        clear hv HS HJ
        go_wp2_with fail
        refine HL.out.mono ?_
        rintro e w3 ⟨rfl, q, rfl⟩
        go_wp2_with fail
        go_roundg (p - i)
        case measure => omega
        case rel => exact ⟨i, p, rfl, rfl, hi, hpi, by omega, by omega, Lib.hid (HS2.out q), HI, HJ2⟩
    · have hlt2 : ¬ (i : Int) < (j : Int) := by omega
      obtain rfl : i = j := by omega
      have HL1 : Hid (∀ t, a ≤ t → t < i → lt d[m]! d[t]! = false) := Lib.hid (fun t h1 h2 => by
        rcases HI.out with h | h
        · omega
        · by_cases e : t = i - 1
          · subst e; exact h
          · exact hO.ntrans _ _ _ h (HA.out t (i - 1) (by omega) (by omega) (by omega)))
      have HL2 : Hid (∀ t, i ≤ t → t < m → lt d[m]! d[t]! = true) := Lib.hid (fun t h1 h2 => by
        rcases HJ.out with h | h
        · omega
        · by_cases e : t = i
          · subst e; exact h
          · exact lt_of_lt_le hO h (HA.out i t (by omega) (by omega) h2))
      clear HI HJ c0 c1 hlt
      obtain ⟨W1, rfl⟩ : ∃ W1, W1 = wr := ⟨_, rfl⟩
      go_wp2_with fail
      go_loopg [15] (m - i) (fun gk kv wr2 => ∃ (k : Nat) (dk : Array α), kv = .int .i64 (k : Int) ∧ i ≤ k ∧ k ≤ m ∧ k - i ≤ gk ∧ dk.size = d.size ∧ Hid (SW enc (w.alloc s.box) s.blk s.off dk wr2) ∧ Hid (∀ t, dk[t]! = rotF (fun k => d[k]!) k m (m + 1) t))
      case atStart => exact ⟨m, d, rfl, by omega, by omega, by omega, rfl, HS, Lib.hid (fun t => (rotF_none _ m m (m + 1) (by omega) (by omega) (.inl rfl) t).symm)⟩
      case round =>
        obtain ⟨k, dk, rfl, hk, hki, hgk2, hs, HSk, HK⟩ := hrel
        by_cases hlt : i < k
        · have hlt3 : (i : Int) < (k : Int) := by omega
          obtain ⟨k', rfl⟩ : ∃ k', k = k' + 1 := ⟨k - 1, by omega⟩
          obtain ⟨c0, c1⟩ := HC.out _ _ HSk.out
          obtain ⟨w2, hrun, hS2⟩ := HB2.out.swaps HSk.out hs (i := k' + 1) (j := k') (by omega) (by omega)
          have HS2 := Lib.hid hS2
          rw [show (((k' + 1 : Nat)) : Int) = (k' : Int) + 1 by omega] at hrun
          have hk1 : (k' : Int) + 1 - 1 = (k' : Int) := by omega
          have HK2 : Hid (∀ t, (swp dk (k' + 1) k')[t]! = rotF (fun k => d[k]!) k' m (m + 1) t) := Lib.hid (fun t => by
            rw [swp_at dk (by omega) (by omega), rot_down _ hki, HK.out, HK.out, HK.out])
          clear hS2 HSk
          go_wp2_with fail
          go_roundg (k' - i)
          case measure => omega
          case rel => exact ⟨k', _, by simp, by omega, by omega, by omega, by rw [size_swp]; exact hs, HS2, HK2⟩
        · have hlt3 : ¬ (i : Int) < (k : Int) := by omega
          obtain rfl : i = k := by omega
          have hD : Left enc s d w (fun f => MrgF lt (fun k => d[k]!) f a m (m + 1)) wr := ⟨dk, hs, sw_trans HB1.out HW.out HSk.out hs, mrgF_last (by omega) (by omega) HL1.out HL2.out HK.out⟩
          have HD : Hid (Left enc s d w (fun f => MrgF lt (fun k => d[k]!) f a m b) wr) := Lib.hid (by rw [← hm]; exact hD)
          clear hD HSk HK HB1 HB2 HC HL1 HL2 HS HA
          go_wp2_with fail
          first | go_returns | go_ret | go_end0
          exact ⟨rfl, HD.out⟩
end Go.Proofs.Ytnlhpldjficecaa
