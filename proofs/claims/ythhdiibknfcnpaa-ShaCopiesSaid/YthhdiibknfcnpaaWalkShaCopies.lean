/- The walk of ShaCopies. -/
import Derived.Test.YthhdiibknfcnpaaShaAwake
namespace Go.Proofs.Ythhdiibknfcnpaa
open Go.RowKit Go.PlainAid
set_option linter.unusedVariables false
theorem HashAt.grown {w w' : World} {g h : Nat} {all : ByteArray} (h1 : HashAt w g all) (hb : w.grownBy w' (some h)) (hg : g ≠ h) : HashAt w' g all := by
  obtain ⟨R, a, b, c⟩ := h1
  exact ⟨R, a, b, c.grown hb (by intro e; cases e; exact hg rfl)⟩
set_option maxRecDepth 100000 in
set_option maxHeartbeats 1000000 in
theorem lawShaCopies (HAB : ABSpec) (a b c : ByteArray) (w : World) :
    Calls Try.prog 5 #[.string a, .string b, .string c] w fun e w' => e = .returned (.bool true) ∧ Below w.heap.size w w' := by
  have HA := Lib.hid (awake02_any HAB)
  have HS := Lib.hid shaSum_any
  have HN := Lib.hid new_any
  have HAB := Lib.hid HAB
  go_enter Try.func5, Try.ntmps5
  go_wp2_with fail
  refine (HA.out _).mono ?_
  rintro e w1 ⟨rfl, hB1⟩
  by_cases hs : a.size > 500 ∨ b.size > 500 ∨ c.size > 500
  · have : ∀ w1, Below w.heap.size w w1 → Calls Try.prog 8 #[] w1 fun e w' => e = .returned (.bool true) ∧ Below w.heap.size w w' := by
      intro w1 hB1
      refine (HA.out w1).mono ?_
      rintro e w2 ⟨rfl, h⟩
      exact ⟨rfl, hB1.trans (h.mono hB1.size)⟩
    have HA2 := Lib.hid this
    clear this HA HS HN HAB
    go_wp2_with fail
    all_goals first
      | (exfalso; omega)
      | (refine (HA2.out _ hB1).mono ?_
         rintro e w2 ⟨rfl, hB2⟩
         go_wp2_with fail
         go_ret
         exact ⟨rfl, hB2⟩)
  · have ha : a.size ≤ 500 := by omega
    have hb : b.size ≤ 500 := by omega
    have hc : c.size ≤ 500 := by omega
    go_wp2_with fail
    refine (HN.out _).mono ?_
    rintro e w2 ⟨g, rfl, hg, hA2, hB2⟩
    have hB2 := hB1.trans (hB2.mono hB1.size)
    have hg : w.heap.size ≤ g := Nat.le_trans hB1.size hg
    have HA2 := Lib.hid hA2
    clear hA2
    go_wp2_with fail
    refine (write_on HAB.out w g _ a _ HA2.out (by show 0 + _ ≤ _; omega) hg hB2).mono ?_
    rintro e w3 ⟨rfl, hA3, hB3, _⟩
    rw [ByteArray.empty_append] at hA3
    have HA3 := Lib.hid hA3
    clear hA3
    go_wp2_with fail
    refine (copy_any g a _ HA3.out).mono ?_
    rintro e w4 ⟨rfl, hC4, hB4⟩
    have HA4 := Lib.hid (HA3.out.below hB4 HA3.out.lt)
    have hgk : g < w3.heap.size := HA3.out.lt
    have HC4 := Lib.hid hC4
    have hk : w.heap.size ≤ w3.heap.size := hB3.size
    have hB4 := hB3.trans (hB4.mono hB3.size)
    clear hC4
    generalize hkk : w3.heap.size = k at HC4 hk hgk
    go_wp2_with fail
    refine (write_on HAB.out w g _ b _ HA4.out (by omega) hg hB4).mono ?_
    rintro e w5 ⟨rfl, hA5, hB5, hG5⟩
    have HC5 := Lib.hid (HC4.out.grown hG5 (by omega))
    have HA5 := Lib.hid hA5
    clear hA5 hG5
    go_wp2_with fail
    refine (write_on HAB.out w k _ c _ HC5.out (by omega) hk hB5).mono ?_
    rintro e w6 ⟨rfl, hC6, hB6, hG6⟩
    have HA6 := Lib.hid (HA5.out.grown hG6 (by omega))
    have HC6 := Lib.hid hC6
    clear hC6 hG6
    go_wp2_with fail
    refine (sum_any HAB.out g _ _ HA6.out (by rw [ByteArray.size_append]; omega)).mono ?_
    rintro e w7 ⟨rfl, hB7⟩
    have HC7 := Lib.hid (HC6.out.below hB7 HC6.out.lt)
    have hB7 := hB6.trans (hB7.mono hB6.size)
    go_wp2_with fail
    refine (HS.out (a ++ b) (by rw [ByteArray.size_append]; omega) _).mono ?_
    rintro e w8 ⟨rfl, hB8⟩
    have HC8 := Lib.hid (HC7.out.below hB8 HC7.out.lt)
    have hB8 := hB7.trans (hB8.mono hB7.size)
    go_wp2_with fail
    refine (sum_any HAB.out k _ _ HC8.out (by rw [ByteArray.size_append]; omega)).mono ?_
    rintro e w9 ⟨rfl, hB9⟩
    have hB9 := hB8.trans (hB9.mono hB8.size)
    go_wp2_with fail
    refine (HS.out (a ++ c) (by rw [ByteArray.size_append]; omega) _).mono ?_
    rintro e wx ⟨rfl, hBx⟩
    have hBx := hB9.trans (hBx.mono hB9.size)
    go_wp2_with fail
    go_ret
    exact ⟨by simp, hBx⟩
end Go.Proofs.Ythhdiibknfcnpaa
