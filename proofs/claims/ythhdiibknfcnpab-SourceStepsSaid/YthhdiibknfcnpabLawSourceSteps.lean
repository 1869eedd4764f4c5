/- Without a bound of the caller each call gives as many bytes as its step allows, till none are left. For every text and every list of steps (where there is more than 2000 bytes or 500 steps the law asks only for the fixed answers); no condition. -/
import Derived.Test.YthhdiibknfcnpabRefSrc
import Derived.Test.YthhdiibknfcnpabSrcPass
import Derived.Test.YthhdiibknfcnpabCame
import Derived.Test.YthhdiibknfcnpabRows
import Derived.WalkKit
import Derived.ProofKit
import Derived.OpenShut
import Derived.ShutString
import Derived.ChangeOld
import Derived.Below
import Derived.Carry
namespace Go.Proofs.Ythhdiibknfcnpab
open Go.ChangeShapes Go.WideShapes Go.ChangeAt Go.RowKit
open Go.ChangeMaps (open_string shut_string)
set_option linter.unusedVariables false
set_option maxRecDepth 100000 in
set_option maxHeartbeats 4000000 in
theorem walkSourceSteps (a0 : ByteArray) (o1 : Option Addr) (c1 : Nat) (a1 : List (Int × Int)) (b0 : a0.size ≤ maxLen) (lc1 : a1.length ≤ c1) (cm1 : c1 ≤ maxLen) (el1 : ∀ x ∈ a1, InI x.1 ∧ InI x.2) (w : World) (ca1 : Came w o1 (pvs a1)) :
    Calls Try.prog 7 #[.string a0, .slice o1 a1.length c1] w fun e w' => e = .returned (.bool true) ∧ Below w.heap.size w w' := by
  have HA := Lib.hid awake03_any
  have m1 : a1.length ≤ maxLen := by omega
  cases hgr : greatB a0.size a1.length 0
  case true =>
    have HG := Lib.hid (fun w => great03_any a0 o1 none _ c1 0 0 w b0 m1 (Nat.zero_le _) true hgr)
    clear hgr
    go_enter Try.func7, Try.ntmps7
    go_wp2_with fail
    refine (HA.out _).mono ?_
    rintro e w1 ⟨rfl, hB1⟩
    go_wp2_with fail
    refine (HG.out _).mono ?_
    rintro e w2 ⟨rfl, rfl⟩
    go_wp2_with fail
    refine (HA.out _).mono ?_
    rintro e w2 ⟨rfl, hB2⟩
    have hB2 := hB1.trans (hB2.mono hB1.size)
    go_wp2_with fail
    go_ret
    exact ⟨rfl, hB2⟩
  case false =>
    obtain ⟨z0, z1, z2⟩ := greatB_no hgr
    have HG := Lib.hid (fun w => great03_any a0 o1 none _ c1 0 0 w b0 m1 (Nat.zero_le _) false hgr)
    clear hgr
    have HEL := Lib.hid el1
    have HC1 := Lib.hid ca1
    have HN := Lib.hid (fun ob cb w' (hc : Came w' ob (pvs a1)) => srcNew_any a0 a1 ob cb w' (by omega) hc (by omega))
    clear el1 ca1
    go_enter Try.func7, Try.ntmps7
    go_wp2_with fail
    refine (HA.out _).mono ?_
    rintro e w1 ⟨rfl, hB1⟩
    go_wp2_with fail
    refine (HG.out _).mono ?_
    rintro e w2 ⟨rfl, rfl⟩
    have HC1' := Lib.hid ((HC1.out.below hB1).below ((Below.refl _ w1).alloc (Nat.le_refl _) (.cells #[] 36)))
    have HB1 := Lib.hid hB1
    clear hB1 HG HA
    go_wp2_with (at_builtin; refine wpList_append_steps rfl _ _ rfl w1.heap.size rfl (made_steps w1) (by simp) a1 o1 a1.length c1 rfl rfl (by omega) HC1'.out ?_)
    intro ob cb w3 hc3 hg3
    have hB3 := grown_to_below (HB1.out.alloc HB1.out.size _) HB1.out.size hg3
    have HC3 := Lib.hid hc3
    clear hg3 HB1 hc3 HC1'
    go_wp2_with fail
    refine (HN.out _ _ _ HC3.out).mono ?_
    rintro e w4 ⟨g, rfl, hg, hs, hB4⟩
    have hg : w.heap.size ≤ g := Nat.le_trans hB3.size hg
    have hB4 := hB3.trans (hB4.mono hB3.size)
    have HS4 := Lib.hid hs
    clear hs hB3 HC3 HN
    go_wp2_with fail
    go_loopg [6, 31] a1.length (fun gn lv iv wr => ∃ (i at_ lf : Nat), i ≤ a1.length ∧ gn = a1.length - i ∧ iv = .int .i64 (i : Int) ∧ lv = .int .i64 (lf : Int) ∧ Hid (lf + at_ = a0.size) ∧ Hid (SrcAt wr g a0 a1 at_ i 0) ∧ Below w.heap.size w wr)
    case atStart => exact ⟨0, 0, a0.size, by omega, by omega, rfl, rfl, Lib.hid (by omega), HS4, hB4⟩
    case round =>
      clear HS4 hB4
      obtain ⟨i, at_, lf, hi, rfl, rfl, rfl, HLF, HS, hBe⟩ := hrel
      have hat : at_ ≤ a0.size := HS.out.1
      have hlf : lf ≤ 2000 := by have := HLF.out; omega
      by_cases hlt : i < a1.length
      · have hp := pvs_get hlt
        obtain ⟨ad, e, hx0, hb⟩ := HC1.out.lt hp.1
        obtain ⟨ad', e', hx1, _⟩ := HC1.out.lt hp.2
        rw [e] at e'; cases e'
        subst e
        have hbl : ∀ j, (ad.add j).block < w.heap.size := fun j => by rw [show (ad.add j).block = ad.block by unfold Addr.add; split <;> rfl]; exact hb
        have q0 : wr.cell? (ad.add (i * 2)) = some (.int .i64 a1[i].1) := by rw [hBe.cell (hbl _), Nat.mul_comm]; exact hx0
        have q1 : wr.cell? ⟨(ad.add (i * 2)).block, (ad.add (i * 2)).off + 1, none⟩ = some (.int .i64 a1[i].2) := by rw [← add_field, hBe.cell (hbl _)]; exact hx1
        have hbw : (ad.add (i * 2)).block < wr.heap.size := Nat.lt_of_lt_of_le (hbl _) hBe.size
        have hin0 : InI a1[i].1 := (HEL.out _ (List.getElem_mem _)).1
        have HSR := Lib.hid (fun w' (h : SrcAt w' g a0 a1 at_ i 0) => srcRead_any g a0 a1 at_ i 0 (a0.size : Int) w' h (by unfold InI; omega) (by omega) (by omega) HEL.out (by omega))
        have hM : sMost a0 a1 at_ i = a1[i].1 := by unfold sMost; rw [dif_pos hlt]
        have hK : sKind a0 a1 at_ i = a1[i].2 := by unfold sKind; rw [dif_pos hlt]
        have hT : (sTake a0 a1 at_ i 0 (a0.size : Int) : Int) = min (max a1[i].1 0) (lf : Int) := by
          unfold sTake; rw [if_pos rfl, hM]; have := HLF.out; omega
        have hO : a1[i].2 = 0 → sOver a0 a1 at_ i 0 (a0.size : Int) = 0 := by
          intro e; unfold sOver; rw [if_pos rfl, hK, e]; simp
        clear hx0 hx1 hp hM hK hbl
        generalize a1[i].1 = N at *
        generalize a1[i].2 = KD at *
        have hle := sTake_le a0 a1 at_ i 0 (a0.size : Int) hat
        generalize sTake a0 a1 at_ i 0 (a0.size : Int) = t at *
        generalize sOver a0 a1 at_ i 0 (a0.size : Int) = o at *
        obtain ⟨hN0, hN1⟩ := hin0
        by_cases hz : KD = 0
        · have ho := hO hz
          subst hz ho
          have HT := Lib.hid hT
          have HS' := Lib.hid (HS.out.below ((Below.refl _ wr).alloc (Nat.le_refl _) (.cells #[.int .i64 N, .int .i64 0] 36)))
          have HBA := Lib.hid (hBe.alloc hBe.size (.cells #[.int .i64 N, .int .i64 0] 36))
          clear hO hT
          go_wp2_with fail
          rw [HT.out.symm]
          refine (HSR.out _ HS'.out).mono ?_
          rintro e w5 ⟨rfl, hs5, hg5⟩
          have hB6 := grown_to_below HBA.out hg hg5
          have HS5 := Lib.hid hs5
          have hpz : (a0.extract at_ (at_ + t)).size = t := by rw [ByteArray.size_extract]; omega
          generalize a0.extract at_ (at_ + t) = part at *
          have htl : t ≤ lf := by have := HLF.out; omega
          have hbp : ((part.size : Int) != (t : Int)) = false := by rw [hpz]; simp
          have hp0 : part.size ≤ 2000 := by omega
          have HLF2 : Hid (lf - t + (at_ + t) = a0.size) := Lib.hid (by have := HLF.out; omega)
          have hsub : (lf : Int) - (t : Int) = ((lf - t : Nat) : Int) := by omega
          have HSUB := Lib.hid hsub
          clear hs5 hg5 HSR q0 q1 hbw HS' HBA hpz hsub
          go_wp2_with fail
          go_roundg (a1.length - (i + 1))
          case measure => omega
          case rel => exact ⟨i + 1, at_ + t, lf - t, by omega, rfl, by go_num, by rw [← HSUB.out], HLF2, HS5, hB6⟩
        · have hb0 : (KD != 0) = true := by simpa using hz
          clear hO hT hz
          go_wp2_with fail
          go_ret
          exact ⟨rfl, hBe.alloc hBe.size _⟩
      · have hgl : ((at_ : Int) == (a0.size : Int) - (lf : Int)) = true := by rw [beq_iff_eq]; have := HLF.out; omega
        go_wp2_with fail
        refine (given_any g _ _ _ _ _ _ HS.out).mono ?_
        rintro e w6 ⟨rfl, rfl⟩
        go_wp2_with fail
        go_ret
        exact ⟨rfl, hBe⟩


/-! ### SourceSteps: the step from the walk to the statement -/
namespace sourceSteps
theorem own : ownKnob Try.prog.godebug = none := by kernel_rfl
theorem laidOut : laidOutB Try.prog = true := by kernel_rfl
set_option maxRecDepth 100000 in
theorem lifted (os : Os) (started : os.Started) (H : Type) (enc : TypeId × Value → H) :
    ReturnsInHanded {} Try.checked os 7 .any (Rows.sourceStepsSpec.pre6 enc Try.prog Try.f7 Rows.sourceStepsRow.domain false) (Rows.sourceStepsSpec.post enc Try.prog Try.f7 false true false false) := by
  refine returnsInHanded_of_change (C := Try.checked) own started (by kernel_rfl) Try.func7
    (ChangeSpec.witness6 (enc := enc) (C := Try.checked) false ⟨#[], #[.string ByteArray.empty, .slice none 0 0], []⟩ 8 (by kernel_rfl) (by kernel_rfl) (by kernel_rfl) (by kernel_rfl)) ?_
  intro W base args ds gs before hval0 hW hcnd _
  have hval : ∀ (j : Nat) t v, Try.f7.params[j]? = some t → args[j]? = some v → Value.okWide Try.prog W .any base t v := hval0
  have hW' := hW
  obtain ⟨p, q, hA0, hV, rfl, hfz, hnd⟩ := hW
  have hA : DataW.TrodAll enc Try.prog W 0 (fun _ => true) true Try.f7.params.toList args.toList ds p := hA0
  rw [Try.params7] at hA hval
  obtain ⟨v0, vs0, d0, ds0, p0, q0, hargs, rfl, rfl, h0, r0⟩ := trodAll_cons hA
  obtain ⟨v1, vs1, d1, ds1, p1, q1, rfl, rfl, rfl, h1, r1⟩ := trodAll_cons r0
  obtain ⟨rfl, rfl, rfl⟩ := trodAll_nil r1
  obtain rfl : args = #[v0, v1] := by cases args; simp_all
  obtain ⟨rfl, rfl⟩ := trodVars_none hV
  obtain ⟨a0, rfl, rfl, rfl, w0⟩ := open_string Try.underlying9 (hval 0 9 v0 rfl rfl) h0
  obtain ⟨o1, len1, c1, rfl⟩ := okWide_slice Try.underlying22 (hval 1 22 v1 rfl rfl)
  have k1 := h1
  have lt1 : ∀ x ∈ p1, x.block < W.heap.size := by obtain ⟨m, hm⟩ := k1; exact DataW.trod_lt m _ _ _ hm
  obtain ⟨a1, rfl, lc1, cm1, ca1, el1⟩ := (came_pairs Try.underlying22 Try.underlying36 (by kernel_rfl) rfl rfl (by kernel_rfl) (by kernel_rfl) Try.underlying3 Try.underlying3 h1)
  clear hA0 hval0
  refine (walkSourceSteps a0 o1 c1 a1 w0 lc1 cm1 el1 W ca1).mono fun e W' ⟨he, bel⟩ => ?_
  subst he
  exact ⟨_, rfl, _, _, _, [], _, [], hW', trodAll_mk1 (shut_bool Try.underlying4 _), (trodAll_cons_mk (shut_string Try.underlying9 w0) (trodAll_cons_mk (Below.trod laidOut (by kernel_rfl) (of_decide_eq_true (by kernel_rfl)) k1 bel lt1) trodAll_mk0)), rfl, bel.frame _, fun h => by cases h⟩
theorem over : Rows.sourceStepsRow.holds Try.pinned (OpenSpec.ofChange Rows.sourceStepsSpec) :=
  OpenClaim.holds_of_wide 7 Try.f7 rfl rfl rfl rfl rfl rfl rfl ⟨rfl, rfl, rfl, rfl, rfl⟩ rfl rfl rfl rfl rfl (by kernel_rfl) Try.func7 (by kernel_rfl)
    (of_decide_eq_true (by kernel_rfl)) (by unfold Func.isWrapper; first | (rw [if_pos (by decide +kernel)]; kernel_rfl) | (rw [if_neg (by decide +kernel)]; exact ⟨rfl, rfl⟩))
    (fun os started H enc _ => lifted os started H enc)
/-- THE STATEMENT. -/
theorem proved : Rows.SourceStepsSaid := over
end sourceSteps
end Go.Proofs.Ythhdiibknfcnpab
