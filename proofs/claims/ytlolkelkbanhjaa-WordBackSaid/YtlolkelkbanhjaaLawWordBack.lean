/- A word that is put is got as it was, whatever stands ahead and behind. For every word and every text (of more than 100 bytes the law asks only for the fixed answers); no condition. -/
import Derived.Test.YtlolkelkbanhjaaAwake
import Derived.Test.YtlolkelkbanhjaaRows
import Derived.WalkKit
import Derived.ProofKit
import Derived.OpenShut
import Derived.ShutString
import Derived.ChangeOld
import Derived.Below
namespace Go.Proofs.Ytlolkelkbanhjaa
open Go.PlainAid
open Go.ChangeShapes Go.WideShapes Go.ChangeAt Go.RowKit
open Go.ChangeMaps (open_string shut_string)
set_option linter.unusedVariables false
theorem back_get (x : Int) (h0 : 0 ≤ x) (h1 : x ≤ 4294967295) (s t : ByteArray) : getI (s ++ putB x.toNat 4 ++ t) s.size = x := by
  rw [get_put _ _ x.toNat (by omega), Int.toNat_of_nonneg h0]
  intro j hj
  rw [bt_append_left (by rw [ByteArray.size_append, putB_size]; omega), bt_append_right (by omega)]
  congr 1
  omega
set_option maxRecDepth 100000 in
set_option maxHeartbeats 1000000 in
theorem walkWordBack (a0 : Int) (a1 : ByteArray) (b0 : 0 ≤ a0 ∧ a0 ≤ 4294967295) (b1 : a1.size ≤ maxLen) (w : World) :
    Calls Try.prog 5 #[.int .u32 a0, .string a1] w fun e w' => e = .returned (.bool true) ∧ Below w.heap.size w w' := by
  obtain ⟨x0, x1⟩ := b0
  by_cases hl : (100 : Int) < (a1.size : Int)
  · clear b1
    go_enter Try.func5, Try.ntmps5
    go_wp2_with fail
    refine (awake01_any _).mono ?_
    rintro e w1 ⟨rfl, hbA⟩
    go_wp2_with fail
    refine (awake01_any _).mono ?_
    rintro e w2 ⟨rfl, hbB⟩
    go_wp2
    go_returns
    exact ⟨rfl, hbA.trans (hbB.mono hbA.size)⟩
  · have hl2 : (a1.size : Int) ≤ 100 := by omega
    have hps := putB_size a0.toNat 4
    have HG := Lib.hid (back_get a0 x0 x1 a1 a1)
    have HS := Lib.hid (show (a1 ++ putB a0.toNat 4 ++ a1).size = a1.size + 4 + a1.size by rw [ByteArray.size_append, ByteArray.size_append, putB_size])
    clear b1
    go_enter Try.func5, Try.ntmps5
    go_wp2_with fail
    refine (awake01_any _).mono ?_
    rintro e w1 ⟨rfl, hbA⟩
    go_wp2_with fail
    refine (put32_any a0 x0 x1 _).mono ?_
    rintro e w2 ⟨rfl, hbB⟩
    go_wp2_with fail
    refine (get32_in _ _ (by omega) (by rw [HS.out]; omega) (by rw [HS.out]; omega) _).mono ?_
    rintro e w3 ⟨rfl, hbC⟩
    rw [Int.toNat_natCast, HG.out]
    have hbb := hbA.trans (hbB.mono hbA.size)
    have hbc := hbb.trans (hbC.mono hbb.size)
    clear hbA hbB hbC hbb
    go_wp2
    go_returns
    exact ⟨rfl, hbc⟩

/-! ### WordBack: the step from the walk to the statement -/
namespace wordBack
theorem own : ownKnob Try.prog.godebug = none := by kernel_rfl
set_option maxRecDepth 100000 in
theorem lifted (os : Os) (started : os.Started) (H : Type) (enc : TypeId × Value → H) :
    ReturnsInHanded {} Try.checked os 5 .any (Rows.wordBackSpec.pre6 enc Try.prog Try.f5 Rows.wordBackRow.domain false) (Rows.wordBackSpec.post enc Try.prog Try.f5 false true false false) := by
  refine returnsInHanded_of_change (C := Try.checked) own started (by kernel_rfl) Try.func5
    (ChangeSpec.witness6 (enc := enc) (C := Try.checked) false ⟨#[], #[.int .u32 0, .string ByteArray.empty], []⟩ 8 (by kernel_rfl) (by kernel_rfl) (by kernel_rfl) (by kernel_rfl)) ?_
  intro W base args ds gs before hval0 hW hcnd _
  have hval : ∀ (j : Nat) t v, Try.f5.params[j]? = some t → args[j]? = some v → Value.okWide Try.prog W .any base t v := hval0
  have hW' := hW
  obtain ⟨p, q, hA0, hV, rfl, hfz, hnd⟩ := hW
  have hA : DataW.TrodAll enc Try.prog W 0 (fun _ => true) true Try.f5.params.toList args.toList ds p := hA0
  rw [Try.params5] at hA hval
  obtain ⟨v0, vs0, d0, ds0, p0, q0, hargs, rfl, rfl, h0, r0⟩ := trodAll_cons hA
  obtain ⟨v1, vs1, d1, ds1, p1, q1, rfl, rfl, rfl, h1, r1⟩ := trodAll_cons r0
  obtain ⟨rfl, rfl, rfl⟩ := trodAll_nil r1
  obtain rfl : args = #[v0, v1] := by cases args; simp_all
  obtain ⟨rfl, rfl⟩ := trodVars_none hV
  obtain ⟨a0, rfl, rfl, rfl, w0⟩ := open_int Try.underlying24 (hval 0 24 v0 rfl rfl) h0
  obtain ⟨a1, rfl, rfl, rfl, w1⟩ := open_string Try.underlying9 (hval 1 9 v1 rfl rfl) h1
  clear hA0 hval0
  simp only [List.append_nil] at hW'
  refine (walkWordBack a0 a1 (bounds_u32 w0) w1 W).mono fun e W' ⟨he, bel⟩ => ?_
  subst he
  exact ⟨_, rfl, _, _, _, [], [], [], hW', trodAll_mk1 (shut_bool Try.underlying4 _), (trodAll_cons_mk (shut_int Try.underlying24 w0) (trodAll_cons_mk (shut_string Try.underlying9 w1) trodAll_mk0)), rfl, bel.frame _, fun h => by cases h⟩
theorem over : Rows.wordBackRow.holds Try.pinned (OpenSpec.ofChange Rows.wordBackSpec) :=
  OpenClaim.holds_of_wide 5 Try.f5 rfl rfl rfl rfl rfl rfl rfl ⟨rfl, rfl, rfl, rfl, rfl⟩ rfl rfl rfl rfl rfl (by kernel_rfl) Try.func5 (by kernel_rfl)
    (of_decide_eq_true (by kernel_rfl)) (by unfold Func.isWrapper; first | (rw [if_pos (by decide +kernel)]; kernel_rfl) | (rw [if_neg (by decide +kernel)]; exact ⟨rfl, rfl⟩))
    (fun os started H enc _ => lifted os started H enc)
/-- THE STATEMENT. -/
theorem proved : Rows.WordBackSaid := over
end wordBack
end Go.Proofs.Ytlolkelkbanhjaa
