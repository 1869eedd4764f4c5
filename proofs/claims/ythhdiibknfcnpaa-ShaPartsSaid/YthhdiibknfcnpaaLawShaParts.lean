/- In whatever parts bytes come, the digest is that of all, also asked in between. For every list of texts (of more than 2000 texts and bytes together the law asks only for the fixed answers); no condition. -/
import Derived.Test.YthhdiibknfcnpaaWalkShaParts
import Derived.Test.YthhdiibknfcnpaaShaNew
import Derived.Test.YthhdiibknfcnpaaRows
import Derived.WalkKit
import Derived.ProofKit
import Derived.OpenShut
import Derived.ShutString
import Derived.ChangeOld
import Derived.Below
import Derived.Carry
namespace Go.Proofs.Ythhdiibknfcnpaa
open Go.ChangeShapes Go.WideShapes Go.ChangeAt Go.RowKit
open Go.ChangeMaps (open_string shut_string)
set_option linter.unusedVariables false
set_option maxRecDepth 100000 in
set_option maxHeartbeats 4000000 in
theorem walkShaParts (o0 : Option Addr) (c0 : Nat) (a0 : List ByteArray) (lc0 : a0.length ≤ c0) (cm0 : c0 ≤ maxLen) (el0 : ∀ x ∈ a0, x.size ≤ maxLen) (w : World) (ca0 : Came w o0 (svs a0)) :
    Calls Try.prog 4 #[.slice o0 a0.length c0] w fun e w' => e = .returned (.bool true) ∧ Below w.heap.size w w' := by
  have HA := Lib.hid (awake02_any ab_any)
  have m0 : a0.length ≤ maxLen := by omega
  cases hgr : gS a0.length a0
  case true =>
    have HG := Lib.hid (fun w (h : Came w o0 (svs a0)) => great02_any o0 c0 a0 true hgr m0 el0 w h)
    have HC := Lib.hid ca0
    clear hgr ca0 el0
    go_enter Try.func4, Try.ntmps4
    go_wp2_with fail
    refine (HA.out _).mono ?_
    rintro e w1 ⟨rfl, hB1⟩
    go_wp2_with fail
    refine (HG.out _ (HC.out.below hB1)).mono ?_
    rintro e w2 ⟨rfl, rfl⟩
    go_wp2_with fail
    refine (HA.out _).mono ?_
    rintro e w2 ⟨rfl, hB2⟩
    have hB2 := hB1.trans (hB2.mono hB1.size)
    go_wp2_with fail
    go_ret
    exact ⟨rfl, hB2⟩
  case false =>
    have hno := gS_no a0 _ hgr
    have HG := Lib.hid (fun w (h : Came w o0 (svs a0)) => great02_any o0 c0 a0 false hgr m0 el0 w h)
    have HC := Lib.hid ca0
    have HN := Lib.hid new_any
    have HS := Lib.hid shaSum_any
    clear hgr ca0 el0
    go_enter Try.func4, Try.ntmps4
    go_wp2_with fail
    refine (HA.out _).mono ?_
    rintro e w1 ⟨rfl, hB1⟩
    go_wp2_with fail
    refine (HG.out _ (HC.out.below hB1)).mono ?_
    rintro e w2 ⟨rfl, rfl⟩
    go_wp2_with fail
    refine (HN.out _).mono ?_
    rintro e w2 ⟨g, rfl, hg, hA2, hB2⟩
    have hB2 := hB1.trans (hB2.mono hB1.size)
    have hg : w.heap.size ≤ g := Nat.le_trans hB1.size hg
    have HH := Lib.hid hA2
    clear hA2 hB1 HG HA HN
    go_wp2_with fail
    go_loopg [4, 19] a0.length (fun gn av iv wr => ∃ (i : Nat) (all : ByteArray), i ≤ a0.length ∧ gn = a0.length - i ∧ iv = .int .i64 (i : Int) ∧ av = .string all ∧ Hid (all.size + szs (a0.drop i) ≤ 2000) ∧ Hid (HashAt wr g all) ∧ Below w.heap.size w wr)
    case atStart => exact ⟨0, ByteArray.empty, by omega, by omega, rfl, rfl, Lib.hid (by show 0 + szs a0 ≤ 2000; omega), HH, hB2⟩
    case round =>
      clear HH hB2
      obtain ⟨i, all, hi, rfl, rfl, rfl, HT, HH, hBe⟩ := hrel
      have hall : all.size ≤ 2000 := by have := HT.out; omega
      by_cases hlt : i < a0.length
      · obtain ⟨ad, rfl, hx⟩ := came_at HC.out hBe (svs_at hlt)
        have hT := HT.out
        rw [List.drop_eq_getElem_cons hlt, szs_cons] at hT
        generalize a0[i] = s at *
        have hs : s.size ≤ 2000 := by omega
        have hz : (all ++ s).size = all.size + s.size := ByteArray.size_append
        have HT2 : Hid ((all ++ s).size + szs (a0.drop (i + 1)) ≤ 2000) := Lib.hid (by omega)
        have hz2 : (all ++ s).size ≤ 2000 := by omega
        clear hT hz
        go_wp2_with fail
        refine (write_on ab_any w g _ s _ HH.out (by omega) hg hBe).mono ?_
        rintro e w3 ⟨rfl, hA3, hB3, _⟩
        have HH3 := Lib.hid hA3
        clear hA3 hx
        go_wp2_with fail
        generalize all ++ s = al2 at *
        refine (sum_any ab_any g _ _ HH3.out (by omega)).mono ?_
        rintro e w4 ⟨rfl, hB4⟩
        have HH4 := Lib.hid (HH3.out.below hB4 HH3.out.lt)
        have hB4 := hB3.trans (hB4.mono hB3.size)
        go_wp2_with fail
        refine (HS.out _ (by omega) _).mono ?_
        rintro e w5 ⟨rfl, hB5⟩
        have HH5 := Lib.hid (HH4.out.below hB5 HH4.out.lt)
        have hB5 := hB4.trans (hB5.mono hB4.size)
        go_wp2_with fail
        refine (len_any g _ _ HH5.out).mono ?_
        rintro e w6 ⟨rfl, rfl⟩
        go_wp2_with fail
        go_roundg (a0.length - (i + 1))
        case measure => omega
        case rel => exact ⟨i + 1, al2, by omega, rfl, by go_num, rfl, HT2, HH5, hB5⟩
      · go_wp2_with fail
        refine (sum_any ab_any g _ _ HH.out (by omega)).mono ?_
        rintro e w4 ⟨rfl, hB4⟩
        have hB4 := hBe.trans (hB4.mono hBe.size)
        go_wp2_with fail
        refine (HS.out _ (by omega) _).mono ?_
        rintro e w5 ⟨rfl, hB5⟩
        have hB5 := hB4.trans (hB5.mono hB4.size)
        go_wp2_with fail
        go_ret
        exact ⟨ret_bool (by simp), hB5⟩


/-! ### ShaParts: the step from the walk to the statement -/
namespace shaParts
theorem own : ownKnob Try.prog.godebug = none := by kernel_rfl
theorem laidOut : laidOutB Try.prog = true := by kernel_rfl
set_option maxRecDepth 100000 in
theorem lifted (os : Os) (started : os.Started) (H : Type) (enc : TypeId × Value → H) :
    ReturnsInHanded {} Try.checked os 4 .any (Rows.shaPartsSpec.pre6 enc Try.prog Try.f4 Rows.shaPartsRow.domain false) (Rows.shaPartsSpec.post enc Try.prog Try.f4 false true false false) := by
  refine returnsInHanded_of_change (C := Try.checked) own started (by kernel_rfl) Try.func4
    (ChangeSpec.witness6 (enc := enc) (C := Try.checked) false ⟨#[], #[.slice none 0 0], []⟩ 8 (by kernel_rfl) (by kernel_rfl) (by kernel_rfl) (by kernel_rfl)) ?_
  intro W base args ds gs before hval0 hW hcnd _
  have hval : ∀ (j : Nat) t v, Try.f4.params[j]? = some t → args[j]? = some v → Value.okWide Try.prog W .any base t v := hval0
  have hW' := hW
  obtain ⟨p, q, hA0, hV, rfl, hfz, hnd⟩ := hW
  have hA : DataW.TrodAll enc Try.prog W 0 (fun _ => true) true Try.f4.params.toList args.toList ds p := hA0
  rw [Try.params4] at hA hval
  obtain ⟨v0, vs0, d0, ds0, p0, q0, hargs, rfl, rfl, h0, r0⟩ := trodAll_cons hA
  obtain ⟨rfl, rfl, rfl⟩ := trodAll_nil r0
  obtain rfl : args = #[v0] := by cases args; simp_all
  obtain ⟨rfl, rfl⟩ := trodVars_none hV
  obtain ⟨o0, len0, c0, rfl⟩ := okWide_slice Try.underlying25 (hval 0 25 v0 rfl rfl)
  have k0 := h0
  have lt0 : ∀ x ∈ p0, x.block < W.heap.size := by obtain ⟨m, hm⟩ := k0; exact DataW.trod_lt m _ _ _ hm
  obtain ⟨a0, rfl, lc0, cm0, ca0, el0⟩ := (came_strs Try.underlying25 Try.underlying9 (by kernel_rfl) h0)
  clear hA0 hval0
  refine (walkShaParts o0 c0 a0 lc0 cm0 el0 W ca0).mono fun e W' ⟨he, bel⟩ => ?_
  subst he
  exact ⟨_, rfl, _, _, _, [], _, [], hW', trodAll_mk1 (shut_bool Try.underlying4 _), (trodAll_cons_mk (Below.trod laidOut (by kernel_rfl) (of_decide_eq_true (by kernel_rfl)) k0 bel lt0) trodAll_mk0), rfl, bel.frame _, fun h => by cases h⟩
theorem over : Rows.shaPartsRow.holds Try.pinned (OpenSpec.ofChange Rows.shaPartsSpec) :=
  OpenClaim.holds_of_wide 4 Try.f4 rfl rfl rfl rfl rfl rfl rfl ⟨rfl, rfl, rfl, rfl, rfl⟩ rfl rfl rfl rfl rfl (by kernel_rfl) Try.func4 (by kernel_rfl)
    (of_decide_eq_true (by kernel_rfl)) (by unfold Func.isWrapper; first | (rw [if_pos (by decide +kernel)]; kernel_rfl) | (rw [if_neg (by decide +kernel)]; exact ⟨rfl, rfl⟩))
    (fun os started H enc _ => lifted os started H enc)
/-- THE STATEMENT. -/
theorem proved : Rows.ShaPartsSaid := over
end shaParts
end Go.Proofs.Ythhdiibknfcnpaa
