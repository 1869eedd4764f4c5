/- The document's fixed answers of layer 2 hold: 'awake' returns true. -/
import Derived.Test.YthhdiibknfcnpaaShaNew
namespace Go.Proofs.Ythhdiibknfcnpaa
open Go.RowKit Go.PlainAid
set_option linter.unusedVariables false
theorem a_bc : ByteArray.empty ++ ⟨#[97]⟩ ++ ⟨#[98, 99]⟩ = (⟨#[97, 98, 99]⟩ : ByteArray) := by decide +kernel
/-- Write on a digest that lies above the start: what a walk needs. -/
theorem write_on (HAB : ABSpec) (a : World) (g : Nat) (all b : ByteArray) (w : World) (h : HashAt w g all) (hs : all.size + b.size ≤ 1000000) (hg : a.heap.size ≤ g) (hB : Below a.heap.size a w) :
    Calls Try.prog 13 #[.pointer (some ⟨g, 0, none⟩), .string b] w fun e w' => e = .returned (.tuple #[]) ∧ HashAt w' g (all ++ b) ∧ Below a.heap.size a w' ∧ w.grownBy w' (some g) := by
  refine (write_any HAB g all b w h hs).mono ?_
  rintro e w' ⟨h1, h2, h3⟩
  exact ⟨h1, h2, grown_to_below hB hg h3, h3⟩
set_option maxRecDepth 100000 in
set_option maxHeartbeats 1000000 in
theorem awake02_any (HAB : ABSpec) (w : World) :
    Calls Try.prog 8 #[] w fun e w' => e = .returned (.bool true) ∧ Below w.heap.size w w' := by
  have HN := Lib.hid new_any
  have HS := Lib.hid shaSum_any
  have HAB := Lib.hid HAB
  go_enter Try.func8, Try.ntmps8
  go_wp2_with fail
  refine (HN.out _).mono ?_
  rintro e w1 ⟨g, rfl, hg, hA1, hB1⟩
  have HA1 := Lib.hid hA1
  clear hA1
  go_wp2_with fail
  refine (write_on HAB.out w g _ _ _ HA1.out (by decide) hg hB1).mono ?_
  rintro e w2 ⟨rfl, hA2, hB2, _⟩
  have HA2 := Lib.hid hA2
  clear hA2
  go_wp2_with fail
  refine (write_on HAB.out w g _ _ _ HA2.out (by decide) hg hB2).mono ?_
  rintro e w3 ⟨rfl, hA3, hB3, _⟩
  rw [a_bc] at hA3
  have HA3 := Lib.hid hA3
  clear hA3
  go_wp2_with fail
  refine (sum_any HAB.out g _ _ HA3.out (by decide)).mono ?_
  rintro e w4 ⟨rfl, hB4⟩
  rw [sha_abc]
  have HA4 := Lib.hid (HA3.out.below hB4 HA3.out.lt)
  have hB4 := hB3.trans (hB4.mono hB3.size)
  go_wp2_with fail
  refine (len_any g _ _ HA4.out).mono ?_
  rintro e w5 ⟨rfl, rfl⟩
  rw [show (((⟨#[97, 98, 99]⟩ : ByteArray).size : Nat) : Int) = 3 from rfl]
  have H0 := HS.out ⟨#[]⟩ (by decide)
  have hd := shaB_size ⟨#[]⟩
  have hx := sha_none
  generalize shaB ⟨#[]⟩ = d at H0 hd hx
  go_wp2_with fail
  refine (H0 _).mono ?_
  rintro e w6 ⟨rfl, hB6⟩
  have hB6 := hB4.trans (hB6.mono hB4.size)
  have hdz : d.size < 2 ^ 63 := by rw [hd]; decide
  go_wp2_with fail
  refine (H0 _).mono ?_
  rintro e w7 ⟨rfl, hB7⟩
  have hB7 := hB6.trans (hB7.mono hB6.size)
  go_wp2_with fail
  go_ret
  exact ⟨rfl, hB7⟩
end Go.Proofs.Ythhdiibknfcnpaa
