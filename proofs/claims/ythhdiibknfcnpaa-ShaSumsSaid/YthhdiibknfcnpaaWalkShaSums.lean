/- The walk of ShaSums. -/
import Derived.Test.YthhdiibknfcnpaaShaAwake
import Derived.Test.YthhdiibknfcnpaaRefSha
namespace Go.Proofs.Ythhdiibknfcnpaa
open Go.RowKit Go.PlainAid
set_option linter.unusedVariables false
set_option maxRecDepth 100000 in
set_option maxHeartbeats 1000000 in
theorem lawShaSums (HAB : ABSpec) (b : ByteArray) (w : World) :
    Calls Try.prog 3 #[.string b] w fun e w' => e = .returned (.bool true) ∧ Below w.heap.size w w' := by
  have HA := Lib.hid (awake02_any HAB)
  have HS := Lib.hid shaSum_any
  clear HAB
  go_enter Try.func3, Try.ntmps3
  go_wp2_with fail
  refine (HA.out _).mono ?_
  rintro e w1 ⟨rfl, hB1⟩
  by_cases hs : b.size > 600
  · go_wp2_with fail
    refine (HA.out _).mono ?_
    rintro e w2 ⟨rfl, hB2⟩
    have hB2 := hB1.trans (hB2.mono hB1.size)
    go_wp2_with fail
    go_ret
    exact ⟨rfl, hB2⟩
  · go_wp2_with fail
    refine (HS.out b (by omega) _).mono ?_
    rintro e w2 ⟨rfl, hB2⟩
    have hB2 := hB1.trans (hB2.mono hB1.size)
    go_wp2_with fail
    refine (refSum_any b (by omega) _).mono ?_
    rintro e w3 ⟨rfl, hB3⟩
    have hB3 := hB2.trans (hB3.mono hB2.size)
    go_wp2_with fail
    go_ret
    exact ⟨by simp, hB3⟩
end Go.Proofs.Ythhdiibknfcnpaa
