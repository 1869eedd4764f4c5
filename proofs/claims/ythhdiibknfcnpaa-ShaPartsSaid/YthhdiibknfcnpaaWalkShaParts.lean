/- The walk of ShaParts. -/
import Derived.Test.YthhdiibknfcnpaaShaAwake
import Derived.Test.YthhdiibknfcnpaaCame
namespace Go.Proofs.Ythhdiibknfcnpaa
open Go.RowKit Go.PlainAid
set_option linter.unusedVariables false
def gS : Nat → List ByteArray → Bool
  | n, [] => decide (2000 < n)
  | n, s :: r => if 2000 < n ∨ 2000 < s.size then true else gS (n + s.size) r
def szs (l : List ByteArray) : Nat := (l.map ByteArray.size).sum
theorem szs_cons (s : ByteArray) (r : List ByteArray) : szs (s :: r) = s.size + szs r := by simp [szs]
theorem gS_no : ∀ (l : List ByteArray) (n : Nat), gS n l = false → n + szs l ≤ 2000
  | [], n, h => by simp [gS] at h; simp [szs]; exact h
  | s :: r, n, h => by
    unfold gS at h
    split at h
    · cases h
    · have := gS_no r _ h
      rw [szs_cons]; omega
theorem svs_at {l : List ByteArray} {i : Nat} (h : i < l.length) : (svs l)[i]? = some (.string l[i]) := by simp [svs, h]
theorem came_at {w wr : World} {oa : Option Addr} {l : List Value} (h : Came w oa l) (hB : Below w.heap.size w wr) {i : Nat} {u : Value} (hu : l[i]? = some u) : ∃ ad, oa = some ad ∧ wr.cell? (ad.add i) = some u := by
  obtain ⟨ad, e, hx, hb⟩ := h.lt hu
  exact ⟨ad, e, by rw [hB.cell (by rw [show (ad.add i).block = ad.block by unfold Addr.add; split <;> rfl]; exact hb)]; exact hx⟩
set_option maxRecDepth 100000 in
set_option maxHeartbeats 1000000 in
theorem great02_any (o : Option Addr) (c : Nat) (l : List ByteArray) (r : Bool) (hr : gS l.length l = r) (hl : l.length ≤ maxLen) (hs : ∀ x ∈ l, x.size ≤ maxLen) (w : World) (hc : Came w o (svs l)) :
    Calls Try.prog 11 #[.slice o l.length c] w fun e w' => e = .returned (.bool r) ∧ w = w' := by
  have HR := Lib.hid hr
  have HC := Lib.hid hc
  have HS := Lib.hid hs
  unfold maxLen at hl
  clear hr hc hs
  go_enter Try.func11, Try.ntmps11
  go_wp2_with fail
  go_loopg [3, 10] l.length (fun gn nv iv wr => ∃ (i n : Nat), i ≤ l.length ∧ n ≤ 9223372036854775807 ∧ gn = l.length - i ∧ iv = .int .i64 (i : Int) ∧ nv = .int .i64 (n : Int) ∧ Hid (gS n (l.drop i) = r) ∧ wr = w)
  case atStart => exact ⟨0, l.length, by omega, by omega, by omega, rfl, rfl, HR, rfl⟩
  case round =>
    clear HR
    obtain ⟨i, n, hi, hn, rfl, rfl, rfl, HR, rfl⟩ := hrel
    by_cases hlt : i < l.length
    · obtain ⟨ad, rfl, hx⟩ := came_at HC.out (Below.refl _ _) (svs_at hlt)
      have hsz := HS.out l[i] (List.getElem_mem _)
      have HD := Lib.hid (List.drop_eq_getElem_cons hlt)
      generalize l[i] = s at *
      unfold maxLen at hsz
      by_cases h1 : 2000 < n
      · have HT : Hid (r = true) := Lib.hid (by rw [← HR.out, HD.out, gS, if_pos (.inl h1)])
        go_wp2_with fail
        go_ret
        exact ⟨ret_bool HT.out.symm, rfl⟩
      · by_cases h2 : 2000 < s.size
        · have HT : Hid (r = true) := Lib.hid (by rw [← HR.out, HD.out, gS, if_pos (.inr h2)])
          go_wp2_with fail
          go_ret
          exact ⟨ret_bool HT.out.symm, rfl⟩
        · have HT : Hid (gS (n + s.size) (l.drop (i + 1)) = r) := Lib.hid (by rw [← HR.out, HD.out, gS, if_neg (by omega)])
          go_wp2_with fail
          go_roundg (l.length - (i + 1))
          case measure => omega
          case rel => exact ⟨i + 1, n + s.size, by omega, by omega, rfl, by go_num, by go_num, HT, rfl⟩
    · have HT : Hid (decide (2000 < (n : Int)) = r) := Lib.hid (by
        have := HR.out
        rw [List.drop_of_length_le (by omega), gS] at this
        rw [← this, decide_eq_decide]; omega)
      go_wp2_with fail
      all_goals
        go_ret
        exact ⟨ret_bool HT.out, rfl⟩
end Go.Proofs.Ythhdiibknfcnpaa
