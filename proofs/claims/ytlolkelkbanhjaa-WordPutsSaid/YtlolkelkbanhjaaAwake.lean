/- The document's fixed answers of layer 1 hold: 'awake' returns true. -/
import Derived.Test.YtlolkelkbanhjaaPrimes
namespace Go.Proofs.Ytlolkelkbanhjaa
open Go.RowKit Go.PlainAid

theorem k_get : getI ⟨#[97, 1, 2, 3, 4]⟩ 1 = 16909060 := by decide +kernel
theorem k_turn : turnI 1 1 = 2147483648 := by decide +kernel
theorem k_put4 : putB 16909060 4 = ⟨#[1, 2, 3, 4]⟩ := by decide +kernel
theorem k_put8 : putB 258 8 = ⟨#[0, 0, 0, 0, 0, 0, 1, 2]⟩ := by decide +kernel
theorem k_root26 : rootN 26 3 = 2 := by decide +kernel
theorem k_root27 : rootN 27 3 = 3 := by decide +kernel
theorem k_pl5 : (pl 5).length = 2 := by decide +kernel
theorem k_prime5 : primeB 5 = true := by decide +kernel
theorem pl_third {c : Nat} (h : 3 = (pl c).length) : (natCells (pl c))[2]? = some (.int .u64 5) := by
  have hc : 5 < c := by
    apply Nat.lt_of_not_le
    intro hle
    have := pl_len_mono hle
    rw [k_pl5] at this
    omega
  have h1 := pl_get hc k_prime5
  rw [k_pl5] at h1
  rw [natCells, List.getElem?_map, h1]; rfl

set_option maxHeartbeats 1000000 in
theorem awake01_any (w : World) :
    Calls Try.prog 11 #[] w fun e w' => e = .returned (.bool true) ∧ Below w.heap.size w w' := by
  go_enter Try.func11, Try.ntmps11
  go_wp2_with fail
  refine (get32_in _ 1 (by decide) (by decide +kernel) (by decide +kernel) _).mono ?_
  rintro e w1 ⟨rfl, hb1⟩
  rw [show (1 : Int).toNat = 1 from rfl, k_get]
  go_wp2_with fail
  refine (get32_out _ 0 (.inr (by decide +kernel)) (by decide +kernel) _).mono ?_
  rintro e w2 ⟨rfl, rfl⟩
  go_wp2_with fail
  refine (primes_any 3 _).mono ?_
  rintro e w3 ⟨v, rfl, c, g, cap, rfl, hc, _, hown, hb3⟩
  obtain ⟨g', cap', hv', _, hg, _, _, hcell⟩ := own_open hown (by intro h; cases h)
  obtain ⟨rfl, rfl⟩ : g = g' ∧ cap = cap' := by cases hv'; exact ⟨rfl, rfl⟩
  have hcell2 := hcell 2 _ (pl_third hc)
  have hbb := hb1.trans (hb3.mono hb1.size)
  clear hb1 hb3 hcell hv' hown hc
  go_wp2_with fail
  refine (turn_any 1 1 (by decide) (by decide) _).mono ?_
  rintro e w4 ⟨rfl, rfl⟩
  rw [k_turn]
  go_wp2_with fail
  refine (put32_any 16909060 (by decide) (by decide) _).mono ?_
  rintro e w5 ⟨rfl, hb5⟩
  rw [show (16909060 : Int).toNat = 16909060 from rfl, k_put4]
  have hcell5 := (hb5.cell (p := ⟨g, 2, none⟩) (by exact hg)).trans hcell2
  have hg5 : g < w5.heap.size := Nat.lt_of_lt_of_le hg hb5.size
  have hbb5 := hbb.trans (hb5.mono hbb.size)
  clear hbb hb5 hcell2 hg
  go_wp2_with fail
  refine (put64_any 258 (by decide) (by decide) _).mono ?_
  rintro e w6 ⟨rfl, hb6⟩
  rw [show (258 : Int).toNat = 258 from rfl, k_put8]
  have hcell6 := (hb6.cell (p := ⟨g, 2, none⟩) (by exact hg5)).trans hcell5
  have hbb6 := hbb5.trans (hb6.mono hbb5.size)
  clear hbb5 hb6 hcell5 hg5
  go_wp2_with fail
  refine (root_any 26 3 (by decide) (by decide) _).mono ?_
  rintro e w7 ⟨rfl, rfl⟩
  rw [show (26 : Int).toNat = 26 from rfl, show (3 : Int).toNat = 3 from rfl, k_root26]
  go_wp2_with fail
  refine (root_any 27 3 (by decide) (by decide) _).mono ?_
  rintro e w8 ⟨rfl, rfl⟩
  rw [show (27 : Int).toNat = 27 from rfl, show (3 : Int).toNat = 3 from rfl, k_root27]
  go_wp2
  go_returns
  exact ⟨rfl, hbb6⟩
end Go.Proofs.Ytlolkelkbanhjaa
