/- Of every arcs (of more than 100 the law asks only for the fixed answers): what is put is got, and is right. No condition but the form of the row. -/
import Derived.Test.YtjdkpdaekmogkaaOidAwake
import Derived.Test.YtjdkpdaekmogkaaRows
import Derived.WalkKit
import Derived.ProofKit
import Derived.OpenShut
import Derived.ShutString
import Derived.ChangeOld
import Derived.Below
import Derived.Carry
namespace Go.Proofs.Ytjdkpdaekmogkaa
open Go.ChangeShapes Go.WideShapes Go.ChangeAt Go.RowKit
open Go.ChangeMaps (open_string shut_string)
set_option linter.unusedVariables false
open Go.PlainAid in
set_option maxRecDepth 100000 in
set_option maxHeartbeats 4000000 in
theorem walkOidBack (o0 : Option Addr) (c0 : Nat) (a0 : List Int) (lc0 : a0.length ≤ c0) (cm0 : c0 ≤ maxLen) (el0 : ∀ x ∈ a0, inK .u64 x) (w : World) (ca0 : Came w o0 (ivs .u64 a0)) :
    Calls Try.prog 5 #[.slice o0 a0.length c0] w fun e w' => e = .returned (.bool true) ∧ Below w.heap.size w w' := by
  have hc9 : (c0 : Int) ≤ 9223372036854775807 := by unfold maxLen at cm0; omega
  by_cases hl : (100 : Int) < (a0.length : Int)
  · clear el0 ca0
    go_enter Try.func5, Try.ntmps5
    go_wp2_with fail
    refine (awake11_any _).mono ?_
    rintro e w1 ⟨rfl, hB1⟩
    go_wp2_with fail
    refine (awake11_any _).mono ?_
    rintro e w2 ⟨rfl, hb⟩
    have hB2 := hB1.trans (hb.mono hB1.size)
    go_wp2
    go_returns
    exact ⟨rfl, hB2⟩
  · have hl2 : (a0.length : Int) ≤ 100 := by omega
    have HC := Lib.hid ca0
    have HP := Lib.hid (fun o c hlc hcm w hc => oidPut_any o c a0 (by omega) hlc hcm el0 w hc)
    have hsz := opS_size a0 el0
    have hs9 : (opS a0).size ≤ 1000000 := by omega
    by_cases hok : arcsOk a0 = true
    · obtain ⟨p1, p2, p3⟩ := op_back a0 hok el0
      have HG := Lib.hid (oidGet_any (opS a0) hs9)
      have HW := Lib.hid (refOidWrong_any (opS a0).size (opS a0) (by unfold maxLen; omega) (by omega))
      have HSM := Lib.hid (fun o1 c1 w hc1 hc2 => refSame_any o1 o0 c1 c0 a0 a0 (by omega) (by omega) w hc1 hc2)
      rw [p1, p2] at HG
      rw [p3] at HW
      rw [hok] at HP
      generalize opS a0 = s at *
      clear el0 ca0 hok p1 p2 p3
      go_enter Try.func5, Try.ntmps5
      go_wp2_with fail
      refine (awake11_any _).mono ?_
      rintro e w1 ⟨rfl, hB1⟩
      go_wp2_with (at_builtin; refine wpList_append_u64 rfl (.tmp 16) (.tmp 17) rfl (l := []) (g := w1.heap.size) rfl (sl_new_u64 w1 [] (by simp [maxLen])) o0 a0.length c0 a0 rfl rfl (((HC.out.below hB1).alloc _)) (by simp; omega) ?_)
      intro v2 w2 g2 hs hg hgr
      obtain ⟨d2, rfl, hd2, hm2⟩ := hs.open (n := a0.length) (by simp [ivs])
      have hB2 := ((hB1.alloc hB1.size (.cells #[] 40))).grown hgr (by have := hB1.size; simp; omega) (by intro k hk; cases hk; exact hB1.size)
      have HN2 : Hid (Came w2 (some ⟨g2, 0, none⟩) (ivs .u64 a0)) := Lib.hid (Came.sl hs)
      clear hs hg hgr hB1
      go_wp2_with fail
      refine (HP.out _ _ hd2 hm2 _ HN2.out).mono ?_
      rintro e w3 ⟨rfl, hb⟩
      have hB3 := hB2.trans (hb.mono hB2.size)
      clear hb hB2
      go_wp2_with fail
      refine (HG.out _).mono ?_
      rintro e w4 ⟨ox, cx, rfl, hcx, hlx, hmx, hb⟩
      have Hx := Lib.hid hcx
      have hB4 := hB3.trans (hb.mono hB3.size)
      clear hb hB3 hcx
      go_wp2_with fail
      refine (HSM.out _ _ _ Hx.out (HC.out.below hB4)).mono ?_
      rintro e w5 ⟨rfl, hb⟩
      have hB5 := hB4.trans (hb.mono hB4.size)
      clear hb hB4
      go_wp2_with fail
      refine (HW.out _).mono ?_
      rintro e w6 ⟨rfl, rfl⟩
      go_wp2
      go_returns
      exact ⟨rfl, hB5⟩
    · have hno : arcsOk a0 = false := by simpa using hok
      rw [hno, opS_bad hno] at HP
      clear el0 ca0 hok hno hsz hs9
      go_enter Try.func5, Try.ntmps5
      go_wp2_with fail
      refine (awake11_any _).mono ?_
      rintro e w1 ⟨rfl, hB1⟩
      go_wp2_with (at_builtin; refine wpList_append_u64 rfl (.tmp 16) (.tmp 17) rfl (l := []) (g := w1.heap.size) rfl (sl_new_u64 w1 [] (by simp [maxLen])) o0 a0.length c0 a0 rfl rfl (((HC.out.below hB1).alloc _)) (by simp; omega) ?_)
      intro v2 w2 g2 hs hg hgr
      obtain ⟨d2, rfl, hd2, hm2⟩ := hs.open (n := a0.length) (by simp [ivs])
      have hB2 := ((hB1.alloc hB1.size (.cells #[] 40))).grown hgr (by have := hB1.size; simp; omega) (by intro k hk; cases hk; exact hB1.size)
      have HN2 : Hid (Came w2 (some ⟨g2, 0, none⟩) (ivs .u64 a0)) := Lib.hid (Came.sl hs)
      clear hs hg hgr hB1
      go_wp2_with fail
      refine (HP.out _ _ hd2 hm2 _ HN2.out).mono ?_
      rintro e w3 ⟨rfl, hb⟩
      have hB3 := hB2.trans (hb.mono hB2.size)
      clear hb hB2
      go_wp2
      go_returns
      exact ⟨rfl, hB3⟩


/-! ### OidBack: the step from the walk to the statement -/
namespace oidBack
theorem own : ownKnob Try.prog.godebug = none := by kernel_rfl
theorem laidOut : laidOutB Try.prog = true := by kernel_rfl
set_option maxRecDepth 100000 in
theorem lifted (os : Os) (started : os.Started) (H : Type) (enc : TypeId × Value → H) :
    ReturnsInHanded {} Try.checked os 5 .any (Rows.oidBackSpec.pre6 enc Try.prog Try.f5 Rows.oidBackRow.domain false) (Rows.oidBackSpec.post enc Try.prog Try.f5 false true false false) := by
  refine returnsInHanded_of_change (C := Try.checked) own started (by kernel_rfl) Try.func5
    (ChangeSpec.witness6 (enc := enc) (C := Try.checked) false ⟨#[], #[.slice none 0 0], []⟩ 8 (by kernel_rfl) (by kernel_rfl) (by kernel_rfl) (by kernel_rfl)) ?_
  intro W base args ds gs before hval0 hW hcnd _
  have hval : ∀ (j : Nat) t v, Try.f5.params[j]? = some t → args[j]? = some v → Value.okWide Try.prog W .any base t v := hval0
  have hW' := hW
  obtain ⟨p, q, hA0, hV, rfl, hfz, hnd⟩ := hW
  have hA : DataW.TrodAll enc Try.prog W 0 (fun _ => true) true Try.f5.params.toList args.toList ds p := hA0
  rw [Try.params5] at hA hval
  obtain ⟨v0, vs0, d0, ds0, p0, q0, hargs, rfl, rfl, h0, r0⟩ := trodAll_cons hA
  obtain ⟨rfl, rfl, rfl⟩ := trodAll_nil r0
  obtain rfl : args = #[v0] := by cases args; simp_all
  obtain ⟨rfl, rfl⟩ := trodVars_none hV
  obtain ⟨o0, len0, c0, rfl⟩ := okWide_slice Try.underlying30 (hval 0 30 v0 rfl rfl)
  have k0 := h0
  have lt0 : ∀ x ∈ p0, x.block < W.heap.size := by obtain ⟨m, hm⟩ := k0; exact DataW.trod_lt m _ _ _ hm
  obtain ⟨a0, rfl, lc0, cm0, ca0, el0⟩ := (came_ints Try.underlying30 Try.underlying40 (by kernel_rfl) h0)
  clear hA0 hval0
  refine (walkOidBack o0 c0 a0 lc0 cm0 el0 W ca0).mono fun e W' ⟨he, bel⟩ => ?_
  subst he
  exact ⟨_, rfl, _, _, _, [], _, [], hW', trodAll_mk1 (shut_bool Try.underlying4 _), (trodAll_cons_mk (Below.trod laidOut (by kernel_rfl) (of_decide_eq_true (by kernel_rfl)) k0 bel lt0) trodAll_mk0), rfl, bel.frame _, fun h => by cases h⟩
theorem over : Rows.oidBackRow.holds Try.pinned (OpenSpec.ofChange Rows.oidBackSpec) :=
  OpenClaim.holds_of_wide 5 Try.f5 rfl rfl rfl rfl rfl rfl rfl ⟨rfl, rfl, rfl, rfl, rfl⟩ rfl rfl rfl rfl rfl (by kernel_rfl) Try.func5 (by kernel_rfl)
    (of_decide_eq_true (by kernel_rfl)) (by unfold Func.isWrapper; first | (rw [if_pos (by decide +kernel)]; kernel_rfl) | (rw [if_neg (by decide +kernel)]; exact ⟨rfl, rfl⟩))
    (fun os started H enc _ => lifted os started H enc)
/-- THE STATEMENT. -/
theorem proved : Rows.OidBackSaid := over
end oidBack
end Go.Proofs.Ytjdkpdaekmogkaa
