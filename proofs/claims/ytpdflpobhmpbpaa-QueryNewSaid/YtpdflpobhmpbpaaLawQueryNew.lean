/- Of every texts (of more than 200, or with one of more than 100 bytes, the law asks only for the fixed answers): they are queries, or not, as the reference says; none is answered at first. No condition but the form of the row. -/
import Derived.Test.YtpdflpobhmpbpaaQryLoop
import Derived.Test.YtpdflpobhmpbpaaRows
import Derived.WalkKit
import Derived.ProofKit
import Derived.OpenShut
import Derived.ShutString
import Derived.ChangeOld
import Derived.Below
import Derived.Carry
namespace Go.Proofs.Ytpdflpobhmpbpaa
open Go.ChangeShapes Go.WideShapes Go.ChangeAt Go.RowKit
open Go.ChangeMaps (open_string shut_string)
set_option linter.unusedVariables false
open Go.PlainAid in
set_option maxRecDepth 100000 in
set_option maxHeartbeats 16000000 in
theorem walkQueryNew (o0 : Option Addr) (c0 : Nat) (a0 : List ByteArray) (lc0 : a0.length ≤ c0) (cm0 : c0 ≤ maxLen) (el0 : ∀ x ∈ a0, x.size ≤ maxLen) (w : World) (ca0 : Came w o0 (svs a0)) :
    Calls Try.prog 3 #[.slice o0 a0.length c0] w fun e w' => e = .returned (.bool true) ∧ Below w.heap.size w w' := by
  have HC := Lib.hid ca0
  have HS := Lib.hid el0
  clear ca0 el0
  cases hg : greatB a0 [] with
  | true =>
    go_enter Try.func3, Try.ntmps3
    go_wp2_with fail
    refine (awake18_any _).mono ?_
    rintro e w1 ⟨rfl, hb1⟩
    have HB1 := Lib.hid hb1
    clear hb1
    go_wp2_with fail
    refine (great18_any o0 c0 a0 none 0 [] w1 (HC.out.below HB1.out) (Came.nil _ _) lc0 cm0 (Nat.le_refl _) (Nat.zero_le _) HS.out (by simp)).mono ?_
    rintro e w2 ⟨rfl, hb2⟩
    have HB2 := Lib.hid (HB1.out.trans (hb2.mono HB1.out.size))
    clear hb2
    rw [hg]
    go_wp2_with fail
    refine (awake18_any _).mono ?_
    rintro e wz ⟨rfl, hbz⟩
    have hBZ := (HB2.out).trans (hbz.mono (HB2.out).size)
    clear hbz
    go_wp2
    go_returns
    exact ⟨rfl, hBZ⟩
  | false =>
    obtain ⟨hl200, _, _, _⟩ := greatB_no hg
    have h9 : (a0.length : Int) ≤ 200 := by omega
    cases hs : serAll a0 with
    | false =>
      go_enter Try.func3, Try.ntmps3
      go_wp2_with fail
      refine (awake18_any _).mono ?_
      rintro e w1 ⟨rfl, hb1⟩
      have HB1 := Lib.hid hb1
      clear hb1
      go_wp2_with fail
      refine (great18_any o0 c0 a0 none 0 [] w1 (HC.out.below HB1.out) (Came.nil _ _) lc0 cm0 (Nat.le_refl _) (Nat.zero_le _) HS.out (by simp)).mono ?_
      rintro e w2 ⟨rfl, hb2⟩
      have HB2 := Lib.hid (HB1.out.trans (hb2.mono HB1.out.size))
      clear hb2
      rw [hg]
      have HEm : Hid (Sl (w2.alloc (.cells #[] 9)) 9 (.slice (some ⟨w2.heap.size, 0, none⟩) 0 0) (svs []) w2.heap.size) := Lib.hid (sl_new_strs w2 [] (Nat.zero_le _))
      have HCa : Hid (Came (w2.alloc (.cells #[] 9)) o0 (svs a0)) := Lib.hid ((HC.out.below HB2.out).alloc _)
      have HBa : Hid (Below w.heap.size w (w2.alloc (.cells #[] 9))) := Lib.hid (HB2.out.alloc HB2.out.size _)
      have hl9 : ([] : List ByteArray).length + a0.length ≤ 1000000000000 := by rw [List.length_nil]; omega
      have hw9 : w.heap.size ≤ w2.heap.size := HB2.out.size
      go_wp2_with (at_builtin; refine wpList_append_strs rfl (.tmp 13) (.tmp 14) rfl (l := []) (g := w2.heap.size) rfl HEm.out o0 a0.length c0 a0 rfl rfl HCa.out hl9 ?_)
      intro v3 w3 g3 hs3 hg3 hgr3
      replace hs3 : Sl w3 9 v3 (svs a0) g3 := hs3
      obtain ⟨c3, rfl, hc3, hcm3⟩ := hs3.open (n := a0.length) (svs_length a0)
      have HB3 : Hid (Below w.heap.size w w3) := Lib.hid (Below.grown HBa.out hgr3 HBa.out.size (by intro q hq; injection hq with hq; omega))
      have HC3 : Hid (Came w3 (some ⟨g3, 0, none⟩) (svs a0)) := Lib.hid (Came.sl hs3)
      clear hs3 hg3 hgr3 HEm HCa HBa hl9 hw9
      go_wp2_with fail
      refine (qrySpec.bad w3 (some ⟨g3, 0, none⟩) c3 a0 HC3.out hc3 hcm3 (by omega) HS.out hs).mono ?_
      rintro e w4 ⟨rfl, hb4⟩
      have HB4 := Lib.hid (HB3.out.trans (hb4.mono HB3.out.size))
      clear hb4 HC3
      go_wp2_with fail
      refine (refAll_any o0 c0 a0 w4 (HC.out.below HB4.out) lc0 cm0 HS.out).mono ?_
      rintro e w5 ⟨rfl, rfl⟩
      rw [hs]
      have hBZ := HB4.out
      clear HC HS
      go_wp2
      go_returns
      exact ⟨rfl, hBZ⟩
    | true =>
      go_enter Try.func3, Try.ntmps3
      go_wp2_with fail
      refine (awake18_any _).mono ?_
      rintro e w1 ⟨rfl, hb1⟩
      have HB1 := Lib.hid hb1
      clear hb1
      go_wp2_with fail
      refine (great18_any o0 c0 a0 none 0 [] w1 (HC.out.below HB1.out) (Came.nil _ _) lc0 cm0 (Nat.le_refl _) (Nat.zero_le _) HS.out (by simp)).mono ?_
      rintro e w2 ⟨rfl, hb2⟩
      have HB2 := Lib.hid (HB1.out.trans (hb2.mono HB1.out.size))
      clear hb2
      rw [hg]
      have HEm : Hid (Sl (w2.alloc (.cells #[] 9)) 9 (.slice (some ⟨w2.heap.size, 0, none⟩) 0 0) (svs []) w2.heap.size) := Lib.hid (sl_new_strs w2 [] (Nat.zero_le _))
      have HCa : Hid (Came (w2.alloc (.cells #[] 9)) o0 (svs a0)) := Lib.hid ((HC.out.below HB2.out).alloc _)
      have HBa : Hid (Below w.heap.size w (w2.alloc (.cells #[] 9))) := Lib.hid (HB2.out.alloc HB2.out.size _)
      have hl9 : ([] : List ByteArray).length + a0.length ≤ 1000000000000 := by rw [List.length_nil]; omega
      have hw9 : w.heap.size ≤ w2.heap.size := HB2.out.size
      go_wp2_with (at_builtin; refine wpList_append_strs rfl (.tmp 13) (.tmp 14) rfl (l := []) (g := w2.heap.size) rfl HEm.out o0 a0.length c0 a0 rfl rfl HCa.out hl9 ?_)
      intro v3 w3 g3 hs3 hg3 hgr3
      replace hs3 : Sl w3 9 v3 (svs a0) g3 := hs3
      obtain ⟨c3, rfl, hc3, hcm3⟩ := hs3.open (n := a0.length) (svs_length a0)
      have HB3 : Hid (Below w.heap.size w w3) := Lib.hid (Below.grown HBa.out hgr3 HBa.out.size (by intro q hq; injection hq with hq; omega))
      have HC3 : Hid (Came w3 (some ⟨g3, 0, none⟩) (svs a0)) := Lib.hid (Came.sl hs3)
      clear hs3 hg3 hgr3 HEm HCa HBa hl9 hw9
      go_wp2_with fail
      refine (qrySpec.new_on HC3.out hc3 hcm3 hs HB3.out).mono ?_
      rintro e w4 ⟨k, F, rfl, h4, _, _⟩
      have H4 := Lib.hid h4
      clear h4 HC3
      go_wp2_with fail
      refine (refAll_any o0 c0 a0 w4 (HC.out.below H4.out.bel) lc0 cm0 HS.out).mono ?_
      rintro e w5 ⟨rfl, rfl⟩
      rw [hs]
      clear HC HS
      go_upto_region 6 with (fail)
      have HAN := Lib.hid (fun X (h : Below w5.heap.size w5 X) => qrySpec.answers_on (H4.out.below qrySpec h) (QS.zero_found a0))
      obtain ⟨C, hmk, hma⟩ := made_ans a0.length (by omega)
      have HMA := Lib.hid hma
      clear hma
      have HC1 := Lib.hid (HAN.out w5.drew (Below.refl _ _).drew)
      have HC2 := Lib.hid (HAN.out (w5.alloc (.cells C 43)).drew ((Below.refl _ _).alloc (Nat.le_refl _) _).drew)
      have HM5 : Hid (Ans (w5.alloc (.cells C 43)).drew w5.heap.size (.slice (some ⟨w5.heap.size, 0, none⟩) a0.length a0.length) (List.replicate a0.length (false, ⟨#[]⟩))) := Lib.hid (HMA.out w5)
      clear HAN
      go_region_held3 (fun w' => True) (trivial) (first
        | (go_at_call 13; with_reducible refine HC1.out.mono ?_; rintro e w6 ⟨v6, rfl, hv6, h6, hb6⟩
           have HSm := Lib.hid (refSame18_any (hv6.below ((Below.refl _ w6).alloc (Nat.le_refl _) (.cells C 43))) (HMA.out w6) (by rw [List.length_replicate]; omega))
           have HB6 := Lib.hid (h6.bel.alloc h6.bel.size (.cells C 43))
           clear hv6 h6 hb6 HC1 HC2 HM5)
        | (go_at_call 13; with_reducible refine HC2.out.mono ?_; rintro e w6 ⟨v6, rfl, hv6, h6, hb6⟩
           have HSm := Lib.hid (refSame18_any hv6 (HM5.out.below hb6) (by rw [List.length_replicate]; omega))
           have HB6 := Lib.hid h6.bel
           clear hv6 h6 hb6 HC1 HC2 HM5)
        | (go_at_call 12; with_reducible refine HSm.out.mono ?_; rintro e w7 ⟨rfl, n7, rfl⟩
           have HB7 := Lib.hid (below_drew18 HB6.out n7)
           clear HSm HB6))
      all_goals
        go_wp2
        go_returns
        exact ⟨rfl, HB7.out⟩


/-! ### QueryNew: the step from the walk to the statement -/
namespace queryNew
theorem own : ownKnob Try.prog.godebug = none := by kernel_rfl
theorem laidOut : laidOutB Try.prog = true := by kernel_rfl
set_option maxRecDepth 100000 in
theorem lifted (os : Os) (started : os.Started) (H : Type) (enc : TypeId × Value → H) :
    ReturnsInHanded {} Try.checked os 3 .any (Rows.queryNewSpec.pre6 enc Try.prog Try.f3 Rows.queryNewRow.domain false) (Rows.queryNewSpec.post enc Try.prog Try.f3 false true false false) := by
  refine returnsInHanded_of_change (C := Try.checked) own started (by kernel_rfl) Try.func3
    (ChangeSpec.witness6 (enc := enc) (C := Try.checked) false ⟨#[], #[.slice none 0 0], []⟩ 8 (by kernel_rfl) (by kernel_rfl) (by kernel_rfl) (by kernel_rfl)) ?_
  intro W base args ds gs before hval0 hW hcnd _
  have hval : ∀ (j : Nat) t v, Try.f3.params[j]? = some t → args[j]? = some v → Value.okWide Try.prog W .any base t v := hval0
  have hW' := hW
  obtain ⟨p, q, hA0, hV, rfl, hfz, hnd⟩ := hW
  have hA : DataW.TrodAll enc Try.prog W 0 (fun _ => true) true Try.f3.params.toList args.toList ds p := hA0
  rw [Try.params3] at hA hval
  obtain ⟨v0, vs0, d0, ds0, p0, q0, hargs, rfl, rfl, h0, r0⟩ := trodAll_cons hA
  obtain ⟨rfl, rfl, rfl⟩ := trodAll_nil r0
  obtain rfl : args = #[v0] := by cases args; simp_all
  obtain ⟨rfl, rfl⟩ := trodVars_none hV
  obtain ⟨o0, len0, c0, rfl⟩ := okWide_slice Try.underlying22 (hval 0 22 v0 rfl rfl)
  have k0 := h0
  have lt0 : ∀ x ∈ p0, x.block < W.heap.size := by obtain ⟨m, hm⟩ := k0; exact DataW.trod_lt m _ _ _ hm
  obtain ⟨a0, rfl, lc0, cm0, ca0, el0⟩ := (came_strs Try.underlying22 Try.underlying9 (by kernel_rfl) h0)
  clear hA0 hval0
  refine (walkQueryNew o0 c0 a0 lc0 cm0 el0 W ca0).mono fun e W' ⟨he, bel⟩ => ?_
  subst he
  exact ⟨_, rfl, _, _, _, [], _, [], hW', trodAll_mk1 (shut_bool Try.underlying4 _), (trodAll_cons_mk (Below.trod laidOut (by kernel_rfl) (of_decide_eq_true (by kernel_rfl)) k0 bel lt0) trodAll_mk0), rfl, bel.frame _, fun h => by cases h⟩
theorem over : Rows.queryNewRow.holds Try.pinned (OpenSpec.ofChange Rows.queryNewSpec) :=
  OpenClaim.holds_of_wide 3 Try.f3 rfl rfl rfl rfl rfl rfl rfl ⟨rfl, rfl, rfl, rfl, rfl⟩ rfl rfl rfl rfl rfl (by kernel_rfl) Try.func3 (by kernel_rfl)
    (of_decide_eq_true (by kernel_rfl)) (by unfold Func.isWrapper; first | (rw [if_pos (by decide +kernel)]; kernel_rfl) | (rw [if_neg (by decide +kernel)]; exact ⟨rfl, rfl⟩))
    (fun os started H enc _ => lifted os started H enc)
/-- THE STATEMENT. -/
theorem proved : Rows.QueryNewSaid := over
end queryNew
end Go.Proofs.Ytpdflpobhmpbpaa
