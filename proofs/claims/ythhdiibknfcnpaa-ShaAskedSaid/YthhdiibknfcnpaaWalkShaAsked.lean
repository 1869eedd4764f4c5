/- The walk of ShaAsked. -/
import Derived.Test.YthhdiibknfcnpaaShaAwake
namespace Go.Proofs.Ythhdiibknfcnpaa
open Go.RowKit Go.PlainAid
set_option linter.unusedVariables false
set_option maxRecDepth 100000 in
set_option maxHeartbeats 1000000 in
theorem lawShaAsked (HAB : ABSpec) (a b : ByteArray) (w : World) :
    Calls Try.prog 7 #[.string a, .string b] w fun e w' => e = .returned (.bool true) ∧ Below w.heap.size w w' := by
  have HA := Lib.hid (awake02_any HAB)
  have HS := Lib.hid shaSum_any
  have HN := Lib.hid new_any
  have HAB := Lib.hid HAB
  go_enter Try.func7, Try.ntmps7
  go_wp2_with fail
  refine (HN.out _).mono ?_
  rintro e w0 ⟨g, rfl, hg, hA0, hB0⟩
  have HA0 := Lib.hid hA0
  clear hA0
  go_wp2_with fail
  refine (HA.out _).mono ?_
  rintro e w1 ⟨rfl, hB1⟩
  have HA1 := Lib.hid (HA0.out.below hB1 HA0.out.lt)
  have hB1 := hB0.trans (hB1.mono hB0.size)
  by_cases hs : a.size > 500 ∨ b.size > 500
  · have : ∀ w1, Below w.heap.size w w1 → Calls Try.prog 8 #[] w1 fun e w' => e = .returned (.bool true) ∧ Below w.heap.size w w' := by
      intro w1 hB1
      refine (HA.out w1).mono ?_
      rintro e w2 ⟨rfl, h⟩
      exact ⟨rfl, hB1.trans (h.mono hB1.size)⟩
    have HA2 := Lib.hid this
    clear this HA HS HN HAB
    go_wp2_with fail
    all_goals first
      | (exfalso; omega)
      | (refine (HA2.out _ hB1).mono ?_
         rintro e w2 ⟨rfl, hB2⟩
         go_wp2_with fail
         go_ret
         exact ⟨rfl, hB2⟩)
  · have ha : a.size ≤ 500 := by omega
    have hb : b.size ≤ 500 := by omega
    have hab : (a ++ b).size = a.size + b.size := ByteArray.size_append
    go_wp2_with fail
    refine (write_on HAB.out w g _ a _ HA1.out (by show 0 + _ ≤ _; omega) hg hB1).mono ?_
    rintro e w3 ⟨rfl, hA3, hB3, _⟩
    rw [ByteArray.empty_append] at hA3
    have HA3 := Lib.hid hA3
    clear hA3
    go_wp2_with fail
    refine (sum_any HAB.out g _ _ HA3.out (by omega)).mono ?_
    rintro e w4 ⟨rfl, hB4⟩
    have HA4 := Lib.hid (HA3.out.below hB4 HA3.out.lt)
    have hB4 := hB3.trans (hB4.mono hB3.size)
    go_wp2_with fail
    refine (sum_any HAB.out g _ _ HA4.out (by omega)).mono ?_
    rintro e w5 ⟨rfl, hB5⟩
    have HA5 := Lib.hid (HA4.out.below hB5 HA4.out.lt)
    have hB5 := hB4.trans (hB5.mono hB4.size)
    go_wp2_with fail
    refine (write_on HAB.out w g _ b _ HA5.out (by omega) hg hB5).mono ?_
    rintro e w6 ⟨rfl, hA6, hB6, _⟩
    have HA6 := Lib.hid hA6
    clear hA6
    go_wp2_with fail
    refine (HS.out a (by omega) _).mono ?_
    rintro e w7 ⟨rfl, hB7⟩
    have HA7 := Lib.hid (HA6.out.below hB7 HA6.out.lt)
    have hB7 := hB6.trans (hB7.mono hB6.size)
    have hz := shaB_size a
    go_wp2_with fail
    refine (sum_any HAB.out g _ _ HA7.out (by omega)).mono ?_
    rintro e w8 ⟨rfl, hB8⟩
    have HA8 := Lib.hid (HA7.out.below hB8 HA7.out.lt)
    have hB8 := hB7.trans (hB8.mono hB7.size)
    go_wp2_with fail
    refine (HS.out (a ++ b) (by omega) _).mono ?_
    rintro e w9 ⟨rfl, hB9⟩
    have HA9 := Lib.hid (HA8.out.below hB9 HA8.out.lt)
    have hB9 := hB8.trans (hB9.mono hB8.size)
    go_wp2_with fail
    refine (len_any g _ _ HA9.out).mono ?_
    rintro e wx ⟨rfl, rfl⟩
    rw [hab]
    go_wp2_with fail
    go_ret
    exact ⟨by simp, hB9⟩
end Go.Proofs.Ythhdiibknfcnpaa
