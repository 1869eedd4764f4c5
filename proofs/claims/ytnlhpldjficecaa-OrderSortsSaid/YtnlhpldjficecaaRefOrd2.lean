/- What layer 16's reference gives of lists of elements: Great, Same, Sort. Of every list that came in or that a call has made; Sort of at most 1000 elements of at most 100000 bytes each. -/
import Derived.Test.YtnlhpldjficecaaRefOrd
import Derived.Test.YtnlhpldjficecaaStrs
import Derived.Deep.QuietTactic
import Derived.BigQuiet
import Derived.Deep.Cut
import Derived.Deep.RegionLaw
namespace Go.Proofs.Ytnlhpldjficecaa
open Go.RowKit Go.PlainAid
set_option linter.unusedVariables false
/-- More elements, or longer ones, than are played. -/
def grL (l : List ByteArray) : Bool := decide (100 < l.length) || l.any (fun x => decide (300 < x.size))
theorem grL_len {l : List ByteArray} (h : 100 < l.length) : grL l = true := by unfold grL; rw [decide_eq_true h]; rfl
theorem grL_at {l : List ByteArray} {i : Nat} (hi : i < l.length) (h : 300 < l[i].size) : grL l = true := by
  unfold grL
  rw [List.any_eq_true.2 ⟨l[i], List.getElem_mem hi, decide_eq_true h⟩, Bool.or_true]
theorem grL_no {l : List ByteArray} (h : ¬ 100 < l.length) (h2 : ∀ i (hi : i < l.length), ¬ 300 < l[i].size) : grL l = false := by
  unfold grL
  rw [decide_eq_false h, Bool.false_or, List.any_eq_false]
  intro x hx
  obtain ⟨i, hi, rfl⟩ := List.getElem_of_mem hx
  simpa using h2 i hi
theorem grL_false {l : List ByteArray} (h : grL l = false) : l.length ≤ 100 ∧ ∀ x ∈ l, x.size ≤ 300 := by
  unfold grL at h
  rw [Bool.or_eq_false_iff, List.any_eq_false] at h
  refine ⟨by have := of_decide_eq_false h.1; omega, fun x hx => by have := h.2 x hx; simp at this; omega⟩
theorem came_str {w : World} {o : Option Addr} {l : List ByteArray} (h : Came w o (svs l)) {i : Nat} (hi : i < l.length) : ∃ a, o = some a ∧ w.cell? (a.add i) = some (.string l[i]) := h i _ (svs_get hi)
set_option maxRecDepth 100000 in
set_option maxHeartbeats 4000000 in
theorem refGreat_any (o : Option Addr) (c : Nat) (l : List ByteArray) (hl : l.length ≤ c) (hc : c ≤ maxLen) (w : World) (h : Came w o (svs l)) (hs : ∀ x ∈ l, x.size ≤ maxLen) :
    Calls Try.prog 18 #[.slice o l.length c] w fun e w' => e = .returned (.bool (grL l)) ∧ w' = w := by
  have hmx : l.length ≤ maxLen := by omega
  have hm9 : (l.length : Int) ≤ 9223372036854775807 := by unfold maxLen at hmx; omega
  by_cases h1 : 100 < l.length
  · rw [grL_len h1]
    have h2 : (100 : Int) < (l.length : Int) := by omega
    clear h hs
    go_enter Try.func18, Try.ntmps18
    go_wp2
    go_returns
    exact ⟨rfl, rfl⟩
  · have h2 : ¬ (100 : Int) < (l.length : Int) := by omega
    obtain ⟨B, hB⟩ : ∃ B, grL l = B := ⟨_, rfl⟩
    rw [hB]
    have HB := Lib.hid hB
    have HC := Lib.hid h
    have HS := Lib.hid hs
    clear hB h hs
    go_enter Try.func18, Try.ntmps18
    go_wp2_with fail
    go_loopg [3] l.length (fun gk iv wr => ∃ i : Nat, iv = .int .i64 (i : Int) ∧ i ≤ l.length ∧ l.length - i ≤ gk ∧ w = wr ∧ Hid (∀ j (hj : j < l.length), j < i → ¬ 300 < l[j].size))
    case atStart => exact ⟨0, rfl, by omega, by omega, rfl, Lib.hid (fun j _ h => by omega)⟩
    case round =>
      obtain ⟨i, rfl, hi, hgk, rfl, HP⟩ := hrel
      by_cases hlt : i < l.length
      · have hlt2 : (i : Int) < (l.length : Int) := by omega
        obtain ⟨ad, rfl, hx⟩ := came_str HC.out hlt
        have hc1 : i < c := by omega
        have hsz : l[i].size ≤ maxLen := HS.out _ (List.getElem_mem hlt)
        by_cases hg : 300 < l[i].size
        · have hBt : B = true := by rw [← HB.out]; exact grL_at hlt hg
          subst hBt
          have hg2 : (300 : Int) < (l[i].size : Int) := by omega
          generalize l[i] = x at *
          clear HP HC HS HB
          go_wp2
          go_returns
          exact ⟨rfl, rfl⟩
        · have hg2 : ¬ (300 : Int) < (l[i].size : Int) := by omega
          have HP2 : Hid (∀ j (hj : j < l.length), j < i + 1 → ¬ 300 < l[j].size) := Lib.hid (fun j hj h => by
            by_cases e : j = i
            · subst e; exact hg
            · exact HP.out j hj (by omega))
          generalize hxx : l[i] = x at *
          clear HP hxx
          go_wp2_with fail
          go_roundg (l.length - (i + 1))
          case measure => omega
          case rel => exact ⟨i + 1, by simp, by omega, by omega, rfl, HP2⟩
      · have hlt2 : ¬ (i : Int) < (l.length : Int) := by omega
        have hBf : B = false := by rw [← HB.out]; exact grL_no h1 (fun j hj => HP.out j hj (by omega))
        subst hBf
        clear HP HB HC HS
        go_wp2
        go_returns
        exact ⟨rfl, rfl⟩
set_option maxRecDepth 100000 in
set_option maxHeartbeats 4000000 in
theorem refSameS_any (o1 o2 : Option Addr) (c1 c2 : Nat) (l : List ByteArray) (hl1 : l.length ≤ c1) (hc1 : c1 ≤ maxLen) (hl2 : l.length ≤ c2) (hc2 : c2 ≤ maxLen) (w : World) (h1 : Came w o1 (svs l)) (h2 : Came w o2 (svs l)) :
    Calls Try.prog 20 #[.slice o1 l.length c1, .slice o2 l.length c2] w fun e w' => e = .returned (.bool true) ∧ ∃ n, w' = w.drewN n := by
  have hmx : l.length ≤ maxLen := by omega
  have hm9 : (l.length : Int) ≤ 9223372036854775807 := by unfold maxLen at hmx; omega
  have HC1 := Lib.hid h1
  have HC2 := Lib.hid h2
  clear h1 h2
  go_enter Try.func20, Try.ntmps20
  go_wp2_with fail
  go_loopg [5] l.length (fun gk iv wr => ∃ i n : Nat, iv = .int .i64 (i : Int) ∧ i ≤ l.length ∧ l.length - i ≤ gk ∧ Hid (wr = w.drewN n))
  case atStart => exact ⟨0, 0, rfl, by omega, by omega, Lib.hid rfl⟩
  case round =>
    obtain ⟨i, n, rfl, hi, hgk, HW⟩ := hrel
    by_cases hlt : i < l.length
    · have hlt2 : (i : Int) < (l.length : Int) := by omega
      obtain ⟨a1, rfl, hx1⟩ := came_str HC1.out hlt
      obtain ⟨a2, rfl, hx2⟩ := came_str HC2.out hlt
      have hx1' : wr.cell? (a1.add i) = some (.string l[i]) := by rw [HW.out]; exact hx1
      have hx2' : wr.cell? (a2.add i) = some (.string l[i]) := by rw [HW.out]; exact hx2
      have he : (l[i].toList == l[i].toList) = true := by simp
      clear hx1 hx2
      have hci1 : i < c1 := by omega
      have hci2 : i < c2 := by omega
      generalize l[i] = x at *
      go_wp2_with fail
      go_quiet (fail)
      go_wp2
      go_roundg (l.length - (i + 1))
      case measure => omega
      case rel => exact ⟨i + 1, n + nq, by simp, by omega, by omega, Lib.hid (by rw [HW.out, World.drewN_drewN])⟩
    · have hlt2 : ¬ (i : Int) < (l.length : Int) := by omega
      have hw := HW.out
      clear HC1 HC2 HW
      go_wp2
      go_returns
      exact ⟨rfl, n, by first | rfl | exact hw⟩
end Go.Proofs.Ytnlhpldjficecaa
