/- The document's fixed answers of layer 12 hold: 'awake' returns true. Over the landed code's contracts. -/
import Derived.Test.YtpdehfcpeoiepaaBstrBit
import Derived.Deep.RegionWith
namespace Go.Proofs.Ytpdehfcpeoiepaa
open Go.RowKit Go.PlainAid
set_option linter.unusedVariables false
theorem row_kept {a W w5 : World} {g : Nat} {t : TypeId} {l : List Value} (hb : Below W.heap.size W w5) (hR : Row a g t l) (hd : W.heap = a.heap) : Row w5 g t l := by
  have h : Row W g t l := by unfold Row; rw [hd]; exact hR
  exact h.below hb h.lt
theorem bst_kept {a W w5 : World} {g : Nat} {x : Int} {y : Bool} {z : Int} (hb : Below W.heap.size W w5) (hR : Row a g 25 (bSt x y z)) (hd : W.heap = a.heap) :
    w5.cell? ⟨g, 0, none⟩ = some (.int .i64 x) ∧ w5.frozen? ⟨g, 0, none⟩ = false ∧ w5.cell? ⟨g, 1, none⟩ = some (.bool y) ∧ w5.frozen? ⟨g, 1, none⟩ = false ∧ w5.cell? ⟨g, 2, none⟩ = some (.int .u8 z) ∧ w5.frozen? ⟨g, 2, none⟩ = false :=
  ⟨(row_kept hb hR hd).cell 0, (row_kept hb hR hd).frozen 0, (row_kept hb hR hd).cell 1, (row_kept hb hR hd).frozen 1, (row_kept hb hR hd).cell 2, (row_kept hb hR hd).frozen 2⟩
theorem below_kept {o a W w5 : World} (hb : Below W.heap.size W w5) (hB : Below o.heap.size o a) (hd : W.heap = a.heap) (h1 : W.os = a.os) (h2 : W.tape = a.tape) (h3 : W.output = a.output) : Below o.heap.size o w5 := by
  have h : Below o.heap.size o W := ⟨h1.trans hB.os, h2.trans hB.tape, h3.trans hB.output, by rw [hd]; exact hB.size, by intro k hk; rw [hd]; exact hB.block k hk⟩
  exact h.trans (hb.mono h.size)
theorem pow_half (j : Nat) (h : j < 7) : (2 : Int) ^ (7 - (j + 1)) = 2 ^ (7 - j) / 2 := by
  rcases (by omega : j = 0 ∨ j = 1 ∨ j = 2 ∨ j = 3 ∨ j = 4 ∨ j = 5 ∨ j = 6) with rfl | rfl | rfl | rfl | rfl | rfl | rfl <;> decide
theorem pow7 (j : Nat) : (1 : Int) ≤ 2 ^ (7 - j) ∧ (2 : Int) ^ (7 - j) ≤ 128 := by
  obtain ⟨m, hm, hl⟩ : ∃ m, 7 - j = m ∧ m ≤ 7 := ⟨_, rfl, by omega⟩
  rw [hm]
  rcases (by omega : m = 0 ∨ m = 1 ∨ m = 2 ∨ m = 3 ∨ m = 4 ∨ m = 5 ∨ m = 6 ∨ m = 7) with rfl | rfl | rfl | rfl | rfl | rfl | rfl | rfl <;> decide
theorem bsPush_is (x : Int) (y : Bool) (z b : Int) (hx : -9223372036854775808 ≤ x ∧ x ≤ 9223372036854775807) (hz : 0 ≤ z ∧ z ≤ 7) (hb : 0 ≤ b ∧ b ≤ 255) {x' : Int} {y' : Bool} {z' : Int} {ok : Bool} (h : bPush x y z b = (x', y', z', ok)) (w : World) :
    Calls Try.prog 12 #[.agg #[.int .i64 x, .bool y, .int .u8 z], .int .u8 b] w fun e w' => e = .returned (.tuple #[.agg #[.int .i64 x', .bool y', .int .u8 z'], .bool ok]) ∧ Below w.heap.size w w' := by
  have := bsPush_any x y z b hx hz hb w
  rw [h] at this
  exact this
theorem bsStart_is (n : Int) {x : Int} {ok : Bool} (h : bStart n = x) (h2 : decide (1 ≤ n) = ok) (w : World) :
    Calls Try.prog 11 #[.int .i64 n] w fun e w' => e = .returned (.tuple #[.agg #[.int .i64 x, .bool false, .int .u8 0], .bool ok]) ∧ Below w.heap.size w w' := by
  have := bsStart_any n w
  rw [h, h2] at this
  exact this
theorem bsPut_is (u : Int) (b : ByteArray) (hb : b.size ≤ 1000000) {s : ByteArray} {ok : Bool} (h : bpS u b = s) (h2 : bpB u b = ok) (w : World) :
    Calls Try.prog 13 #[.int .i64 u, .string b] w fun e w' => e = .returned (.tuple #[.string s, .bool ok]) ∧ Below w.heap.size w w' := by
  have := bsPut_any u b hb w
  rw [h, h2] at this
  exact this
theorem bsGet_is (c : ByteArray) (hc : c.size ≤ 281474976710656) {u : Int} {s : ByteArray} {ok : Bool} (h : bgU c = u) (h2 : bgS c = s) (h3 : bsR c = ok) (w : World) :
    Calls Try.prog 15 #[.string c] w fun e w' => e = .returned (.tuple #[.int .i64 u, .string s, .bool ok]) ∧ Below w.heap.size w w' := by
  have := bsGet_any c hc w
  rw [h, h2, h3] at this
  exact this
theorem bsBit_is (s : ByteArray) (i : Int) (hs : s.size ≤ 281474976710656) (hi1 : i ≤ 9223372036854775807) {ok : Bool} (h : bsBit s i = ok) (w : World) :
    Calls Try.prog 17 #[.string s, .int .i64 i] w fun e w' => e = .returned (.bool ok) ∧ Below w.heap.size w w' := by
  have := bsBit_any s i hs hi1 w
  rw [h] at this
  exact this
set_option maxRecDepth 100000 in
set_option maxHeartbeats 8000000 in
theorem awake12_any (w : World) :
    Calls Try.prog 9 #[] w fun e w' => e = .returned (.bool true) ∧ Below w.heap.size w w' := by
  have HP1 := Lib.hid (bsPut_is 5 ⟨#[160]⟩ (by decide +kernel) (s := ⟨#[5, 160]⟩) (ok := true) (by decide +kernel) (by decide +kernel))
  have HP2 := Lib.hid (bsPut_is 5 ⟨#[176]⟩ (by decide +kernel) (s := ⟨#[]⟩) (ok := false) (by decide +kernel) (by decide +kernel))
  have HP3 := Lib.hid (bsPut_is 1 ⟨#[]⟩ (by decide +kernel) (s := ⟨#[]⟩) (ok := false) (by decide +kernel) (by decide +kernel))
  have HG := Lib.hid (bsGet_is ⟨#[5, 160]⟩ (by decide +kernel) (u := 5) (s := ⟨#[160]⟩) (ok := true) (by decide +kernel) (by decide +kernel) (by decide +kernel))
  have HS1 := Lib.hid (bsStart_is 2 (x := 2) (ok := true) (by decide) (by decide))
  have HQ1 := Lib.hid (bsPush_is 2 false 0 5 (by decide) (by decide) (by decide) (x' := 1) (y' := true) (z' := 5) (ok := true) (by decide +kernel))
  have HQ2 := Lib.hid (bsPush_is 1 true 5 176 (by decide) (by decide) (by decide) (x' := 0) (y' := false) (z' := 0) (ok := false) (by decide +kernel))
  have HB0 := Lib.hid (bsBit_is ⟨#[5, 160]⟩ 0 (by decide +kernel) (by decide) (ok := true) (by decide +kernel))
  have HB1 := Lib.hid (bsBit_is ⟨#[5, 160]⟩ 1 (by decide +kernel) (by decide) (ok := false) (by decide +kernel))
  have HB2 := Lib.hid (bsBit_is ⟨#[5, 160]⟩ 2 (by decide +kernel) (by decide) (ok := true) (by decide +kernel))
  have HB3 := Lib.hid (bsBit_is ⟨#[5, 160]⟩ 3 (by decide +kernel) (by decide) (ok := false) (by decide +kernel))
  go_enter Try.func9, Try.ntmps9
  go_wp2_with fail
  refine (HP1.out _).mono ?_
  rintro e w1 ⟨rfl, hB1⟩
  go_wp2_with fail
  refine (HP2.out _).mono ?_
  rintro e w2 ⟨rfl, hb⟩
  have hB2 := hB1.trans (hb.mono hB1.size)
  clear hb hB1
  go_wp2_with fail
  refine (HP3.out _).mono ?_
  rintro e w3 ⟨rfl, hb⟩
  have hB3 := hB2.trans (hb.mono hB2.size)
  clear hb hB2
  go_wp2_with fail
  refine (HG.out _).mono ?_
  rintro e w4 ⟨rfl, hb⟩
  have hB4 := hB3.trans (hb.mono hB3.size)
  clear hb hB3
  go_wp2_with fail
  refine (HS1.out _).mono ?_
  rintro e w5 ⟨rfl, hb⟩
  have hB5 := hB4.trans (hb.mono hB4.size)
  have hB5 := hB5.alloc hB5.size (.cells #[.int .i64 2, .bool false, .int .u8 0] 25)
  clear hb hB4
  go_wp2_with fail
  refine (HQ1.out _).mono ?_
  rintro e w6 ⟨rfl, hb⟩
  have hB6 := hB5.trans (hb.mono hB5.size)
  have hB6 := hB6.alloc hB6.size (.cells #[.int .i64 1, .bool true, .int .u8 5] 25)
  clear hb hB5
  go_wp2_with fail
  refine (HQ2.out _).mono ?_
  rintro e w7 ⟨rfl, hb⟩
  have hB7 := hB6.trans (hb.mono hB6.size)
  have hB7 := hB7.alloc hB7.size (.cells #[.int .i64 0, .bool false, .int .u8 0] 25)
  clear hb hB6
  go_wp2_with fail
  refine (HB0.out _).mono ?_
  rintro e w8 ⟨rfl, hb⟩
  have hB8 := hB7.trans (hb.mono hB7.size)
  clear hb hB7
  go_wp2_with fail
  refine (HB1.out _).mono ?_
  rintro e w9 ⟨rfl, hb⟩
  have hB9 := hB8.trans (hb.mono hB8.size)
  clear hb hB8
  go_wp2_with fail
  refine (HB2.out _).mono ?_
  rintro e w10 ⟨rfl, hb⟩
  have hB10 := hB9.trans (hb.mono hB9.size)
  clear hb hB9
  go_wp2_with fail
  refine (HB3.out _).mono ?_
  rintro e w11 ⟨rfl, hb⟩
  have hB11 := hB10.trans (hb.mono hB10.size)
  clear hb hB10
  go_wp2
  go_returns
  exact ⟨rfl, hB11⟩
end Go.Proofs.Ytpdehfcpeoiepaa
