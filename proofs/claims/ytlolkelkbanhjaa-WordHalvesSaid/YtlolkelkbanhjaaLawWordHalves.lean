/- Eight bytes are those of the upper word, and of the lower one. For every number; no condition. -/
import Derived.Test.YtlolkelkbanhjaaAwake
import Derived.Test.YtlolkelkbanhjaaRows
import Derived.WalkKit
import Derived.ProofKit
import Derived.OpenShut
import Derived.ShutString
import Derived.ChangeOld
import Derived.Below
namespace Go.Proofs.Ytlolkelkbanhjaa
open Go.PlainAid
open Go.ChangeShapes Go.WideShapes Go.ChangeAt Go.RowKit
open Go.ChangeMaps (open_string shut_string)
set_option linter.unusedVariables false
theorem halves_get (x : Int) (h0 : 0 ≤ x) (h1 : x ≤ 18446744073709551615) : getI (putB x.toNat 8) 0 = x / 4294967296 ∧ getI (putB x.toNat 8) 4 = x % 4294967296 := by
  rw [← put8_eq]
  constructor
  · rw [get_put _ _ (x.toNat / 4294967296) (by omega)]
    · omega
    · intro j hj
      rw [Nat.zero_add, bt_append_left (by rw [putB_size]; omega)]
  · rw [get_put _ _ (x.toNat % 4294967296) (by omega)]
    · omega
    · intro j hj
      rw [bt_append_right (by rw [putB_size]; omega), putB_size]
      congr 1
      omega
theorem halves_put (x : Int) (h0 : 0 ≤ x) : putB (x / 4294967296).toNat 4 ++ putB (x % 4294967296).toNat 4 = putB x.toNat 8 := by
  rw [← put8_eq]
  congr 2 <;> omega
theorem halves_or (x : Int) (h0 : 0 ≤ x) (h1 : x ≤ 18446744073709551615) : bits .or .u64 (x / 4294967296 * 4294967296) (x % 4294967296) = x := by
  have := or64_add (x / 4294967296) (x % 4294967296) 32 (by omega) (by omega) (by omega) (by omega)
  simp only [Int.reducePow] at this
  rw [this]; omega
set_option maxRecDepth 100000 in
set_option maxHeartbeats 1000000 in
theorem walkWordHalves (a0 : Int) (b0 : 0 ≤ a0 ∧ a0 ≤ 18446744073709551615) (w : World) :
    Calls Try.prog 9 #[.int .u64 a0] w fun e w' => e = .returned (.bool true) ∧ Below w.heap.size w w' := by
  obtain ⟨x0, x1⟩ := b0
  obtain ⟨hg1, hg2⟩ := halves_get a0 x0 x1
  have HG1 := Lib.hid hg1
  have HG2 := Lib.hid hg2
  have HP := Lib.hid (halves_put a0 x0)
  have HO := Lib.hid (halves_or a0 x0 x1)
  have HS := Lib.hid (putB_size a0.toNat 8)
  clear hg1 hg2
  go_enter Try.func9, Try.ntmps9
  go_wp2_with fail
  refine (put64_any a0 x0 x1 _).mono ?_
  rintro e w1 ⟨rfl, hb1⟩
  go_wp2_with fail
  refine (get32_in _ 0 (by decide) (by rw [HS.out]; decide) (by rw [HS.out]; decide) _).mono ?_
  rintro e w2 ⟨rfl, hb2⟩
  rw [show (0 : Int).toNat = 0 from rfl, HG1.out]
  have hb := hb1.trans (hb2.mono hb1.size)
  clear hb1 hb2
  go_wp2_with fail
  refine (get32_in _ 4 (by decide) (by rw [HS.out]; decide) (by rw [HS.out]; decide) _).mono ?_
  rintro e w3 ⟨rfl, hb3⟩
  rw [show (4 : Int).toNat = 4 from rfl, HG2.out]
  have hbc := hb.trans (hb3.mono hb.size)
  clear hb hb3
  go_wp2_with fail
  refine (awake01_any _).mono ?_
  rintro e w4 ⟨rfl, hb4⟩
  have hbd := hbc.trans (hb4.mono hbc.size)
  clear hbc hb4
  go_wp2_with fail
  refine (put32_any _ (by omega) (by omega) _).mono ?_
  rintro e w5 ⟨rfl, hb5⟩
  have hbe := hbd.trans (hb5.mono hbd.size)
  clear hbd hb5
  go_wp2_with fail
  refine (put32_any _ (by omega) (by omega) _).mono ?_
  rintro e w6 ⟨rfl, hb6⟩
  have hbf := hbe.trans (hb6.mono hbe.size)
  clear hbe hb6
  have hp := HP.out
  have ho := HO.out
  go_wp2
  go_returns
  exact ⟨rfl, hbf⟩

/-! ### WordHalves: the step from the walk to the statement -/
namespace wordHalves
theorem own : ownKnob Try.prog.godebug = none := by kernel_rfl
set_option maxRecDepth 100000 in
theorem lifted (os : Os) (started : os.Started) (H : Type) (enc : TypeId × Value → H) :
    ReturnsInHanded {} Try.checked os 9 .any (Rows.wordHalvesSpec.pre6 enc Try.prog Try.f9 Rows.wordHalvesRow.domain false) (Rows.wordHalvesSpec.post enc Try.prog Try.f9 false true false false) := by
  refine returnsInHanded_of_change (C := Try.checked) own started (by kernel_rfl) Try.func9
    (ChangeSpec.witness6 (enc := enc) (C := Try.checked) false ⟨#[], #[.int .u64 0], []⟩ 8 (by kernel_rfl) (by kernel_rfl) (by kernel_rfl) (by kernel_rfl)) ?_
  intro W base args ds gs before hval0 hW hcnd _
  have hval : ∀ (j : Nat) t v, Try.f9.params[j]? = some t → args[j]? = some v → Value.okWide Try.prog W .any base t v := hval0
  have hW' := hW
  obtain ⟨p, q, hA0, hV, rfl, hfz, hnd⟩ := hW
  have hA : DataW.TrodAll enc Try.prog W 0 (fun _ => true) true Try.f9.params.toList args.toList ds p := hA0
  rw [Try.params9] at hA hval
  obtain ⟨v0, vs0, d0, ds0, p0, q0, hargs, rfl, rfl, h0, r0⟩ := trodAll_cons hA
  obtain ⟨rfl, rfl, rfl⟩ := trodAll_nil r0
  obtain rfl : args = #[v0] := by cases args; simp_all
  obtain ⟨rfl, rfl⟩ := trodVars_none hV
  obtain ⟨a0, rfl, rfl, rfl, w0⟩ := open_int Try.underlying22 (hval 0 22 v0 rfl rfl) h0
  clear hA0 hval0
  simp only [List.append_nil] at hW'
  refine (walkWordHalves a0 (bounds_u64 w0) W).mono fun e W' ⟨he, bel⟩ => ?_
  subst he
  exact ⟨_, rfl, _, _, _, [], [], [], hW', trodAll_mk1 (shut_bool Try.underlying4 _), (trodAll_cons_mk (shut_int Try.underlying22 w0) trodAll_mk0), rfl, bel.frame _, fun h => by cases h⟩
theorem over : Rows.wordHalvesRow.holds Try.pinned (OpenSpec.ofChange Rows.wordHalvesSpec) :=
  OpenClaim.holds_of_wide 9 Try.f9 rfl rfl rfl rfl rfl rfl rfl ⟨rfl, rfl, rfl, rfl, rfl⟩ rfl rfl rfl rfl rfl (by kernel_rfl) Try.func9 (by kernel_rfl)
    (of_decide_eq_true (by kernel_rfl)) (by unfold Func.isWrapper; first | (rw [if_pos (by decide +kernel)]; kernel_rfl) | (rw [if_neg (by decide +kernel)]; exact ⟨rfl, rfl⟩))
    (fun os started H enc _ => lifted os started H enc)
/-- THE STATEMENT. -/
theorem proved : Rows.WordHalvesSaid := over
end wordHalves
end Go.Proofs.Ytlolkelkbanhjaa
