/- What layer 18's reference gives: Right, All, New, and Date. -/
import Derived.Test.YtpdflpobhmpbpaaQrySpec
import Derived.Test.YtpdflpobhmpbpaaRefNumb
namespace Go.Proofs.Ytpdflpobhmpbpaa
open Go.RowKit Go.PlainAid
set_option linter.unusedVariables false
theorem refRight_any (s : ByteArray) (hs : s.size ≤ maxLen) (w : World) :
    Calls Try.prog 19 #[.string s] w fun e w' => e = .returned (.bool (serR s)) ∧ w' = w := by
  have hb9 : (s.size : Int) ≤ 9223372036854775807 := by unfold maxLen at hs; omega
  have HW := Lib.hid (refNumInt_any 2 s.size s hs (by omega) (.inl rfl))
  have HR : Hid (serR s = decide (0 < s.size ∧ s.size ≤ 20 ∧ nmWrong 2 s.size s = -1)) := Lib.hid rfl
  generalize serR s = R at *
  generalize nmWrong 2 s.size s = W at *
  by_cases h0 : (0 : Int) < (s.size : Int)
  · by_cases h20 : (s.size : Int) ≤ 20
    · have HF : Hid ((W == -1) = R) := Lib.hid (by rw [HR.out]; by_cases h : W = -1 <;> simp [h] <;> omega)
      clear HR
      go_enter Try.func19, Try.ntmps19
      go_wp2_with fail
      refine (HW.out _).mono ?_
      rintro e w1 ⟨rfl, rfl⟩
      clear HW
      go_wp2
      go_returns
      exact ⟨rets1 (congrArg Value.bool HF.out), rfl⟩
    · have HF : Hid (false = R) := Lib.hid (by rw [HR.out, decide_eq_false]; omega)
      clear HR HW
      go_enter Try.func19, Try.ntmps19
      go_wp2
      go_returns
      exact ⟨rets1 (congrArg Value.bool HF.out), rfl⟩
  · have HF : Hid (false = R) := Lib.hid (by rw [HR.out, decide_eq_false]; omega)
    clear HR HW
    go_enter Try.func19, Try.ntmps19
    go_wp2
    go_returns
    exact ⟨rets1 (congrArg Value.bool HF.out), rfl⟩
theorem take_all {l : List ByteArray} {i : Nat} (h : i < l.length) (p : ByteArray → Bool) : (l.take (i + 1)).all p = ((l.take i).all p && p l[i]) := by
  rw [List.take_succ_eq_append_getElem h, List.all_append]; simp
theorem all_false {l : List ByteArray} {i : Nat} (h : i < l.length) {p : ByteArray → Bool} (hp : p l[i] = false) : l.all p = false := by
  rw [Bool.eq_false_iff]
  intro h'
  rw [List.all_eq_true] at h'
  rw [h' _ (List.getElem_mem h)] at hp
  cases hp
/-- A text of a slice that came in. -/
theorem came_str {w : World} {ox : Option Addr} {l : List ByteArray} (h : Came w ox (svs l)) {i : Nat} (hi : i < l.length) : ∃ ad, ox = some ad ∧ ad.block < w.heap.size ∧ w.cell? (ad.add i) = some (.string l[i]) := by
  obtain ⟨ad, h1, h2, h3⟩ := h.first (by rw [svs_length]; omega)
  exact ⟨ad, h1, h2, h3 i _ (svs_get hi)⟩
set_option maxRecDepth 100000 in
set_option maxHeartbeats 4000000 in
theorem refAll_any (ox : Option Addr) (c : Nat) (l : List ByteArray) (w : World) (h : Came w ox (svs l)) (hl : l.length ≤ c) (hc : c ≤ maxLen) (hs : ∀ x ∈ l, x.size ≤ maxLen) :
    Calls Try.prog 11 #[.slice ox l.length c] w fun e w' => e = .returned (.bool (serAll l)) ∧ w' = w := by
  have hl9 : (l.length : Int) ≤ 9223372036854775807 := by unfold maxLen at hc; omega
  have HC := Lib.hid h
  have HS := Lib.hid hs
  clear h hs
  go_enter Try.func11, Try.ntmps11
  go_wp2_with fail
  go_loopg [3] l.length (fun gk iv wr => ∃ i : Nat, iv = .int .i64 (i : Int) ∧ i ≤ l.length ∧ l.length - i ≤ gk ∧ Hid (wr = w) ∧ Hid ((l.take i).all serR = true))
  case atStart => exact ⟨0, rfl, by omega, by omega, Lib.hid rfl, Lib.hid rfl⟩
  case round =>
    obtain ⟨i, rfl, hi, hgk, HW, HT⟩ := hrel
    by_cases hlt : i < l.length
    · have hlt2 : (i : Int) < (l.length : Int) := by omega
      have hw := HW.out
      subst hw
      obtain ⟨ad, rfl, _, hcell⟩ := came_str HC.out hlt
      have HR := Lib.hid (refRight_any l[i] (HS.out _ (List.getElem_mem hlt)) wr)
      have HT2 := Lib.hid (take_all hlt serR)
      have HF : Hid (serR l[i] = false → serAll l = false) := Lib.hid (fun h => by unfold serAll; rw [all_false hlt h, Bool.false_and])
      rw [HT.out] at HT2
      generalize l[i] = x at *
      cases hx : serR x with
      | true =>
        rw [hx] at HT2 HR
        clear hx HF HS
        go_wp2_with fail
        refine HR.out.mono ?_
        rintro e w1 ⟨rfl, rfl⟩
        clear HR
        go_wp2
        go_roundg (l.length - (i + 1))
        case measure => omega
        case rel => exact ⟨i + 1, by simp, by omega, by omega, Lib.hid rfl, Lib.hid HT2.out⟩
      | false =>
        have HF2 : Hid (false = serAll l) := Lib.hid (HF.out hx).symm
        rw [hx] at HR
        clear hx HF HS HT2
        go_wp2_with fail
        refine HR.out.mono ?_
        rintro e w1 ⟨rfl, rfl⟩
        clear HR
        go_wp2
        go_returns
        exact ⟨rets1 (congrArg Value.bool HF2.out), rfl⟩
    · have hlt2 : ¬ (i : Int) < (l.length : Int) := by omega
      have HF : Hid (decide ((l.length : Int) ≤ 64) = serAll l) := Lib.hid (by
        have := HT.out
        rw [List.take_of_length_le (by omega)] at this
        unfold serAll
        rw [this, Bool.true_and]
        by_cases h : l.length ≤ 64
        · rw [decide_eq_true h, decide_eq_true (by omega)]
        · rw [decide_eq_false h, decide_eq_false (by omega)])
      have hw := HW.out
      subst hw
      clear HT HC HS HW
      go_wp2
      go_returns
      exact ⟨rets1 (congrArg Value.bool HF.out), rfl⟩
end Go.Proofs.Ytpdflpobhmpbpaa
