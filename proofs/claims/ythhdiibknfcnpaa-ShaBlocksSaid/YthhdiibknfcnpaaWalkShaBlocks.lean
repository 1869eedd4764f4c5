/- The walk of ShaBlocks. -/
import Derived.Test.YthhdiibknfcnpaaWalkShaCopies
import Derived.Test.YthhdiibknfcnpaaRefSha
namespace Go.Proofs.Ythhdiibknfcnpaa
open Go.RowKit Go.PlainAid
set_option linter.unusedVariables false
set_option maxRecDepth 100000 in
set_option maxHeartbeats 1000000 in
theorem lawShaBlocks (HAB : ABSpec) (a b : ByteArray) (w : World) :
    Calls Try.prog 6 #[.string a, .string b] w fun e w' => e = .returned (.bool true) ∧ Below w.heap.size w w' := by
  have HA := Lib.hid (awake02_any HAB)
  have HN := Lib.hid new_any
  have HAB := Lib.hid HAB
  go_enter Try.func6, Try.ntmps6
  go_wp2_with fail
  refine (HA.out _).mono ?_
  rintro e w1 ⟨rfl, hB1⟩
  by_cases hs : a.size > 300 ∨ b.size > 300
  · have : ∀ w1, Below w.heap.size w w1 → Calls Try.prog 8 #[] w1 fun e w' => e = .returned (.bool true) ∧ Below w.heap.size w w' := by
      intro w1 hB1
      refine (HA.out w1).mono ?_
      rintro e w2 ⟨rfl, h⟩
      exact ⟨rfl, hB1.trans (h.mono hB1.size)⟩
    have HA2 := Lib.hid this
    clear this HA HN HAB
    go_wp2_with fail
    all_goals first
      | (exfalso; omega)
      | (refine (HA2.out _ hB1).mono ?_
         rintro e w2 ⟨rfl, hB2⟩
         go_wp2_with fail
         go_ret
         exact ⟨rfl, hB2⟩)
  · have ha : a.size ≤ 300 := by omega
    have hb : b.size ≤ 300 := by omega
    have hab : (a ++ b).size = a.size + b.size := ByteArray.size_append
    go_wp2_with fail
    refine (HN.out _).mono ?_
    rintro e w2 ⟨g, rfl, hg, hA2, hB2⟩
    have hB2 := hB1.trans (hB2.mono hB1.size)
    have hg : w.heap.size ≤ g := Nat.le_trans hB1.size hg
    have HA2 := Lib.hid hA2
    clear hA2
    go_wp2_with fail
    refine (write_on HAB.out w g _ a _ HA2.out (by show 0 + _ ≤ _; omega) hg hB2).mono ?_
    rintro e w3 ⟨rfl, hA3, hB3, _⟩
    rw [ByteArray.empty_append] at hA3
    have HA3 := Lib.hid hA3
    clear hA3
    go_wp2_with fail
    refine (copy_any g a _ HA3.out).mono ?_
    rintro e w4 ⟨rfl, hC4, hB4⟩
    have HA4 := Lib.hid (HA3.out.below hB4 HA3.out.lt)
    have hgk : g < w3.heap.size := HA3.out.lt
    have HC4 := Lib.hid hC4
    have hk : w.heap.size ≤ w3.heap.size := hB3.size
    have hB4 := hB3.trans (hB4.mono hB3.size)
    clear hC4
    generalize hkk : w3.heap.size = k at HC4 hk hgk
    go_wp2_with fail
    have hE0 : a ++ b.extract 0 0 = a := by
      rw [ByteArray.extract_same]; exact ByteArray.append_empty
    have HE := Lib.hid (fun i (hi : i + 1 ≤ b.size) => (show a ++ b.extract 0 i ++ b.extract i (i + 1) = a ++ b.extract 0 (i + 1) by
      rw [ByteArray.append_assoc, ByteArray.extract_append_extract]; simp))
    have HSZ := Lib.hid (fun i (hi : i ≤ b.size) => (show (a ++ b.extract 0 i).size = a.size + i by rw [ByteArray.size_append, ByteArray.size_extract]; omega))
    go_loopg [33] b.size (fun gn iv wr => ∃ i : Nat, i ≤ b.size ∧ gn = b.size - i ∧ iv = .int .i64 i ∧ Hid (HashAt wr g a) ∧ Hid (HashAt wr k (a ++ b.extract 0 i)) ∧ Below w.heap.size w wr)
    case atStart => exact ⟨0, by omega, by omega, rfl, HA4, by rw [hE0]; exact HC4, hB4⟩
    case round =>
      clear hB4 hE0
      obtain ⟨i, hi, rfl, rfl, HG, HK, hBe⟩ := hrel
      by_cases hlt : i < b.size
      · have h1 := HSZ.out i hi
        have h2 : (b.extract i (i + 1)).size = 1 := by rw [ByteArray.size_extract]; omega
        go_wp2_with fail
        refine (write_on HAB.out w k _ _ _ HK.out (by omega) hk hBe).mono ?_
        rintro e w5 ⟨rfl, hC5, hB5, hG5⟩
        have HG5 := Lib.hid (HG.out.grown hG5 (by omega))
        rw [HE.out i (by omega)] at hC5
        have HC5 := Lib.hid hC5
        clear hC5 hG5
        go_wp2_with fail
        go_roundg (b.size - (i + 1))
        case measure => omega
        case rel => exact ⟨i + 1, by omega, rfl, by go_num, HG5, HC5, hB5⟩
      · have hib : i = b.size := by omega
        subst hib
        have hEB : a ++ b.extract 0 b.size = a ++ b := by rw [ByteArray.extract_zero_size]
        rw [hEB] at HK
        clear hEB
        go_wp2_with fail
        refine (write_on HAB.out w g _ b _ HG.out (by omega) hg hBe).mono ?_
        rintro e w5 ⟨rfl, hA5, hB5, hG5⟩
        have HK5 := Lib.hid (HK.out.grown hG5 (by omega))
        have HG5 := Lib.hid hA5
        clear hA5 hG5
        go_wp2_with fail
        refine (sum_any HAB.out g _ _ HG5.out (by omega)).mono ?_
        rintro e w6 ⟨rfl, hB6⟩
        have HG6 := Lib.hid (HG5.out.below hB6 HG5.out.lt)
        have HK6 := Lib.hid (HK5.out.below hB6 HK5.out.lt)
        have hB6 := hB5.trans (hB6.mono hB5.size)
        go_wp2_with fail
        refine (sum_any HAB.out k _ _ HK6.out (by omega)).mono ?_
        rintro e w7 ⟨rfl, hB7⟩
        have HG7 := Lib.hid (HG6.out.below hB7 HG6.out.lt)
        have HK7 := Lib.hid (HK6.out.below hB7 HK6.out.lt)
        have hB7 := hB6.trans (hB7.mono hB6.size)
        go_wp2_with fail
        refine (len_any g _ _ HG7.out).mono ?_
        rintro e wx ⟨rfl, rfl⟩
        rw [hab]
        go_wp2_with fail
        refine (len_any k _ _ HK7.out).mono ?_
        rintro e wx ⟨rfl, rfl⟩
        rw [hab]
        go_wp2_with fail
        refine (sum_any HAB.out g _ _ HG7.out (by omega)).mono ?_
        rintro e w8 ⟨rfl, hB8⟩
        have hB8 := hB7.trans (hB8.mono hB7.size)
        go_wp2_with fail
        refine (refSum_any (a ++ b) (by omega) _).mono ?_
        rintro e w9 ⟨rfl, hB9⟩
        have hB9 := hB8.trans (hB9.mono hB8.size)
        go_wp2_with fail
        go_ret
        exact ⟨by simp, hB9⟩
end Go.Proofs.Ythhdiibknfcnpaa
