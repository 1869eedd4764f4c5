/- The document's fixed answers of layer 10 hold: 'awake' returns true. Over the landed code's contracts. -/
import Derived.Test.YtpifhlifjmnfiaaNumGet
namespace Go.Proofs.Ytpifhlifjmnfiaa
open Go.RowKit Go.PlainAid
set_option linter.unusedVariables false
theorem nmStart_is (tag n : Int) {s : Int} {ok : Bool} (h : nmOk tag n = ok) (h2 : (if ok = true then nmFirst tag else 0) = s) (w : World) :
    Calls Try.prog 11 #[.int .i64 tag, .int .i64 n] w fun e w' => e = .returned (.tuple #[.agg #[.int .u8 s], .bool ok]) ∧ Below w.heap.size w w' := by
  have := nmStart_any tag n w
  rw [h, h2] at this
  exact this
theorem nmPush_is (s b : Int) (hs : 0 ≤ s ∧ s ≤ 5) (hb : 0 ≤ b ∧ b ≤ 255) {s' : Int} {ok : Bool} (h : nmPush s b = (s', ok)) (w : World) :
    Calls Try.prog 12 #[.agg #[.int .u8 s], .int .u8 b] w fun e w' => e = .returned (.tuple #[.agg #[.int .u8 s'], .bool ok]) ∧ Below w.heap.size w w' := by
  have := nmPush_any s b hs hb w
  rw [h] at this
  exact this
theorem kn_p1 : strOfNums (hiI 128) = ⟨#[0, 128]⟩ := by rw [hiI_big (by decide), hiI_small (by decide)]; decide +kernel
theorem kn_p2 : strOfNums (hiI (-129)) = ⟨#[255, 127]⟩ := by rw [hiI_big (by decide), hiI_small (by decide)]; decide +kernel
theorem kn_g1 : ngV ⟨#[255, 127]⟩ = -129 := by decide +kernel
theorem kn_g2 : ngB ⟨#[255, 127]⟩ = true := by decide +kernel
set_option maxRecDepth 100000 in
set_option maxHeartbeats 1600000 in
theorem awake10_any (w : World) :
    Calls Try.prog 9 #[] w fun e w' => e = .returned (.bool true) ∧ Below w.heap.size w w' := by
  have HS1 := Lib.hid (nmStart_is 2 2 (s := 3) (ok := true) (by decide) (by decide))
  have HP1 := Lib.hid (nmPush_is 3 0 (by decide) (by decide) (s' := 4) (ok := true) (by decide))
  have HP2 := Lib.hid (nmPush_is 4 127 (by decide) (by decide) (s' := 0) (ok := false) (by decide))
  have HP3 := Lib.hid (nmPush_is 4 128 (by decide) (by decide) (s' := 1) (ok := true) (by decide))
  have HS2 := Lib.hid (nmStart_is 5 1 (s := 0) (ok := false) (by decide) (by decide))
  go_enter Try.func9, Try.ntmps9
  go_wp2_with fail
  refine (HS1.out _).mono ?_
  rintro e w1 ⟨rfl, hB1⟩
  have hB1 := hB1.alloc hB1.size (.cells #[.int .u8 3] 26)
  go_wp2_with fail
  refine (HP1.out _).mono ?_
  rintro e w2 ⟨rfl, hb⟩
  have hB2 := hB1.trans (hb.mono hB1.size)
  have HR2 := Lib.hid (Row.new w2 26 [.int .u8 4])
  have hB2 := hB2.alloc hB2.size (.cells #[.int .u8 4] 26)
  clear hb hB1
  go_wp2_with fail
  refine (HP2.out _).mono ?_
  rintro e w3 ⟨rfl, hb⟩
  have hB3 := hB2.trans (hb.mono hB2.size)
  have hR3 := HR2.out.below hb HR2.out.lt
  have hc3 := hR3.cell 0
  have hl3 := hR3.lt
  have hB3 := hB3.alloc hB3.size (.cells #[.int .u8 0] 26)
  clear hb hB2 hR3
  go_wp2_with fail
  refine (HP3.out _).mono ?_
  rintro e w4 ⟨rfl, hb⟩
  have hB4 := hB3.trans (hb.mono hB3.size)
  have hB4 := hB4.alloc hB4.size (.cells #[.int .u8 1] 26)
  clear hb hB3 hc3 hl3
  go_wp2_with fail
  refine (HS2.out _).mono ?_
  rintro e w5 ⟨rfl, hb⟩
  have hB5 := hB4.trans (hb.mono hB4.size)
  have hB5 := hB5.alloc hB5.size (.cells #[.int .u8 0] 26)
  clear hb hB4
  go_wp2_with fail
  refine (numGet_any _ (by decide +kernel) _).mono ?_
  rw [kn_g1, kn_g2]
  rintro e w6 ⟨rfl, hb⟩
  have hB6 := hB5.trans (hb.mono hB5.size)
  clear hb hB5
  go_wp2_with fail
  refine (numPut_any 128 (by decide) _).mono ?_
  rw [kn_p1]
  rintro e w7 ⟨rfl, hb⟩
  have hB7 := hB6.trans (hb.mono hB6.size)
  clear hb hB6
  go_wp2_with fail
  refine (numPut_any (-129) (by decide) _).mono ?_
  rw [kn_p2]
  rintro e w8 ⟨rfl, hb⟩
  have hB8 := hB7.trans (hb.mono hB7.size)
  clear hb hB7
  go_wp2
  go_returns
  exact ⟨rfl, hB8⟩
end Go.Proofs.Ytpifhlifjmnfiaa
