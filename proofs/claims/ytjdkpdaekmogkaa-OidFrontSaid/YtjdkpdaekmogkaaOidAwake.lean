/- The document's fixed answers of layer 11 hold: 'awake' returns true. Over the landed code's contracts. -/
import Derived.Test.YtjdkpdaekmogkaaOidGet
namespace Go.Proofs.Ytjdkpdaekmogkaa
open Go.RowKit Go.PlainAid
set_option linter.unusedVariables false
theorem oidPush_is (x : Int) (y : Bool) (b : Int) (hx : -9223372036854775808 ≤ x ∧ x ≤ 9223372036854775807) (hb : 0 ≤ b ∧ b ≤ 255) {x' : Int} {y' ok : Bool} (h : oPush x y b = (x', y', ok)) (w : World) :
    Calls Try.prog 12 #[.agg #[.int .i64 x, .bool y], .int .u8 b] w fun e w' => e = .returned (.tuple #[.agg #[.int .i64 x', .bool y'], .bool ok]) ∧ Below w.heap.size w w' := by
  have := oidPush_any x y b hx hb w
  rw [h] at this
  exact this
theorem oidStart_is (n : Int) {x : Int} {ok : Bool} (h : oStart n = x) (h2 : decide (1 ≤ n) = ok) (w : World) :
    Calls Try.prog 11 #[.int .i64 n] w fun e w' => e = .returned (.tuple #[.agg #[.int .i64 x, .bool false], .bool ok]) ∧ Below w.heap.size w w' := by
  have := oidStart_any n w
  rw [h, h2] at this
  exact this
theorem ko_b1 : oB 42 = [42] := by unfold oB gB; rw [show (42 : Int).toNat / 128 = 0 by decide, hiG_zero]; rfl
theorem ko_b2 : oB 840 = [134, 72] := by unfold oB gB; rw [show (840 : Int).toNat / 128 = 6 by decide, hiG_pos (by decide), show 6 / 128 = 0 by decide, hiG_zero]; rfl
theorem ko_b3 : oB 1079 = [136, 55] := by unfold oB gB; rw [show (1079 : Int).toNat / 128 = 8 by decide, hiG_pos (by decide), show 8 / 128 = 0 by decide, hiG_zero]; rfl
theorem ko_p1 : opS [1, 2, 840] = ⟨#[42, 134, 72]⟩ := by
  rw [opS_ok (by decide), oL_eq]
  show strOfNums (oB 42 ++ (oB 840 ++ [])) = _
  rw [ko_b1, ko_b2]; decide +kernel
theorem ko_p2 : opS [2, 999] = ⟨#[136, 55]⟩ := by
  rw [opS_ok (by decide), oL_eq]
  show strOfNums (oB 1079 ++ []) = _
  rw [ko_b3]; decide +kernel
theorem ko_p3 : opS [1, 40] = ⟨#[]⟩ := opS_bad (by decide)
theorem ko_g1 : ogL ⟨#[136, 55]⟩ = [2, 999] := by decide +kernel
theorem ko_g2 : ogB ⟨#[136, 55]⟩ = true := by decide +kernel
theorem put_is (l : List Int) (hl : l.length ≤ 1000000) (hin : ∀ x ∈ l, inK .u64 x) {s : ByteArray} {ok : Bool} (h : opS l = s) (h2 : arcsOk l = ok) (w : World) :
    Calls Try.prog 13 #[.slice (some ⟨w.heap.size, 0, none⟩) l.length l.length] (w.alloc (.cells (ivs .u64 l).toArray 40)) fun e w' => e = .returned (.tuple #[.string s, .bool ok]) ∧ Below w.heap.size w w' := by
  have hml : l.length ≤ maxLen := by unfold maxLen; omega
  have := oidPut_any (some ⟨w.heap.size, 0, none⟩) l.length l hl (Nat.le_refl _) hml hin _ (Came.sl (sl_new_u64 w l hml))
  rw [h, h2] at this
  exact this.mono (fun e w' ⟨h1, h2⟩ => ⟨h1, ((Below.refl _ w).alloc (Nat.le_refl _) _).trans (h2.mono (by simp))⟩)
theorem all_u64 {l : List Int} (h : l.all (fun x => decide (0 ≤ x) && decide (x ≤ 18446744073709551615)) = true) : ∀ x ∈ l, inK .u64 x := by
  intro x hx
  have := List.all_eq_true.1 h x hx
  simp at this
  exact this
set_option maxRecDepth 100000 in
set_option maxHeartbeats 4000000 in
theorem awake11_any (w : World) :
    Calls Try.prog 9 #[] w fun e w' => e = .returned (.bool true) ∧ Below w.heap.size w w' := by
  have HP1 := Lib.hid (put_is [1, 2, 840] (by decide) (all_u64 (by decide)) ko_p1 (ok := true) (by decide))
  have HP2 := Lib.hid (put_is [2, 999] (by decide) (all_u64 (by decide)) ko_p2 (ok := true) (by decide))
  have HP3 := Lib.hid (put_is [1, 40] (by decide) (all_u64 (by decide)) ko_p3 (ok := false) (by decide))
  have HG := Lib.hid (oidGet_any ⟨#[136, 55]⟩ (by decide +kernel))
  rw [ko_g1, ko_g2] at HG
  have HS1 := Lib.hid (oidStart_is 3 (x := 3) (ok := true) (by decide) (by decide))
  have HQ1 := Lib.hid (oidPush_is 3 false 42 (by decide) (by decide) (x' := 2) (y' := false) (ok := true) (by decide))
  have HQ2 := Lib.hid (oidPush_is 2 false 128 (by decide) (by decide) (x' := 0) (y' := false) (ok := false) (by decide))
  have HSM := Lib.hid (fun (o : Option Addr) (c : Nat) (w : World) h1 h2 => refSame_any o (some ⟨w.heap.size, 0, none⟩) c 2 [2, 999] [2, 999] (by decide) (by decide) (w.alloc (.cells (ivs .u64 [2, 999]).toArray 40)) h1 h2)
  go_enter Try.func9, Try.ntmps9
  go_wp2_with fail
  refine (HP1.out _).mono ?_
  rintro e w1 ⟨rfl, hB1⟩
  go_wp2_with fail
  refine (HP2.out _).mono ?_
  rintro e w2 ⟨rfl, hb⟩
  have hB2 := hB1.trans (hb.mono hB1.size)
  clear hb hB1
  go_wp2_with fail
  refine (HP3.out _).mono ?_
  rintro e w3 ⟨rfl, hb⟩
  have hB3 := hB2.trans (hb.mono hB2.size)
  clear hb hB2
  go_wp2_with fail
  refine (HG.out _).mono ?_
  rintro e w4 ⟨og, cg, rfl, hcg, _, _, hb⟩
  have HCG := Lib.hid hcg
  have hB4 := hB3.trans (hb.mono hB3.size)
  clear hb hB3 hcg
  go_wp2_with fail
  refine (HS1.out _).mono ?_
  rintro e w5 ⟨rfl, hb⟩
  have hB5 := hB4.trans (hb.mono hB4.size)
  have HCG5 := Lib.hid ((HCG.out.below hb).alloc (.cells #[.int .i64 3, .bool false] 25))
  have hB5 := hB5.alloc hB5.size (.cells #[.int .i64 3, .bool false] 25)
  clear hb hB4 HCG
  go_wp2_with fail
  refine (HQ1.out _).mono ?_
  rintro e w6 ⟨rfl, hb⟩
  have hB6 := hB5.trans (hb.mono hB5.size)
  have HCG6 := Lib.hid ((HCG5.out.below hb).alloc (.cells #[.int .i64 2, .bool false] 25))
  have HR6 := Lib.hid (Row.new w6 25 (oSt 2 false))
  have hB6 := hB6.alloc hB6.size (.cells #[.int .i64 2, .bool false] 25)
  clear hb hB5 HCG5
  go_wp2_with fail
  refine (HQ2.out _).mono ?_
  rintro e w7 ⟨rfl, hb⟩
  have hB7 := hB6.trans (hb.mono hB6.size)
  have hB7 := hB7.alloc hB7.size (.cells #[.int .i64 0, .bool false] 25)
  have HCG7 := Lib.hid ((HCG6.out.below hb).alloc (.cells #[.int .i64 0, .bool false] 25))
  clear hb hB6 HCG6 HR6
  go_wp2_with fail
  rw [show w7.heap.size + 1 = (w7.alloc (.cells #[.int .i64 0, .bool false] 25)).heap.size by simp]
  generalize hW : w7.alloc (.cells #[.int .i64 0, .bool false] 25) = W7 at *
  refine (HSM.out og cg W7 (HCG7.out.alloc _) (Came.sl (sl_new_u64 W7 [2, 999] (by decide)))).mono ?_
  rintro e w8 ⟨rfl, hb⟩
  have hB8 := (hB7.alloc hB7.size _).trans (hb.mono (Nat.le_trans hB7.size (by simp)))
  clear hb hB7
  go_wp2
  go_returns
  exact ⟨rfl, hB8⟩
end Go.Proofs.Ytjdkpdaekmogkaa
