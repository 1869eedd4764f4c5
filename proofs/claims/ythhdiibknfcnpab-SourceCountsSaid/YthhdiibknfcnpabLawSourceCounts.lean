/- Calls are counted, whatever they ask for and whatever comes, and so are the bytes. For every text, every list of steps and of sizes (where there is more than 2000 bytes, 500 steps or 500 sizes the law asks only for the fixed answers); no condition. -/
import Derived.Test.YthhdiibknfcnpabSrcPass
import Derived.Test.YthhdiibknfcnpabCame
import Derived.Test.YthhdiibknfcnpabRows
import Derived.WalkKit
import Derived.ProofKit
import Derived.OpenShut
import Derived.ShutString
import Derived.ChangeOld
import Derived.Below
import Derived.Carry
namespace Go.Proofs.Ythhdiibknfcnpab
open Go.ChangeShapes Go.WideShapes Go.ChangeAt Go.RowKit
open Go.ChangeMaps (open_string shut_string)
set_option linter.unusedVariables false
set_option maxRecDepth 100000 in
set_option maxHeartbeats 4000000 in
theorem walkSourceCounts (a0 : ByteArray) (o1 : Option Addr) (c1 : Nat) (a1 : List (Int × Int)) (o2 : Option Addr) (c2 : Nat) (a2 : List Int) (b0 : a0.size ≤ maxLen) (lc1 : a1.length ≤ c1) (cm1 : c1 ≤ maxLen) (el1 : ∀ x ∈ a1, InI x.1 ∧ InI x.2) (lc2 : a2.length ≤ c2) (cm2 : c2 ≤ maxLen) (el2 : ∀ x ∈ a2, inK .i64 x) (w : World) (ca1 : Came w o1 (pvs a1)) (ca2 : Came w o2 (ivs .i64 a2)) :
    Calls Try.prog 6 #[.string a0, .slice o1 a1.length c1, .slice o2 a2.length c2] w fun e w' => e = .returned (.bool true) ∧ Below w.heap.size w w' := by
  have HA := Lib.hid awake03_any
  have m1 : a1.length ≤ maxLen := by omega
  have m2 : a2.length ≤ maxLen := by omega
  cases hgr : greatB a0.size a1.length a2.length
  case true =>
    have HG := Lib.hid (fun w => great03_any a0 o1 o2 _ c1 _ c2 w b0 m1 m2 true hgr)
    clear hgr
    go_enter Try.func6, Try.ntmps6
    go_wp2_with fail
    refine (HA.out _).mono ?_
    rintro e w1 ⟨rfl, hB1⟩
    go_wp2_with fail
    refine (HG.out _).mono ?_
    rintro e w2 ⟨rfl, rfl⟩
    go_wp2_with fail
    refine (HA.out _).mono ?_
    rintro e w2 ⟨rfl, hB2⟩
    have hB2 := hB1.trans (hB2.mono hB1.size)
    go_wp2_with fail
    go_ret
    exact ⟨rfl, hB2⟩
  case false =>
    obtain ⟨z0, z1, z2⟩ := greatB_no hgr
    have HG := Lib.hid (fun w => great03_any a0 o1 o2 _ c1 _ c2 w b0 m1 m2 false hgr)
    clear hgr
    have HEL := Lib.hid el1
    have HE2 := Lib.hid el2
    have HC1 := Lib.hid ca1
    have HC2 := Lib.hid ca2
    have HN := Lib.hid (fun ob cb w' (hc : Came w' ob (pvs a1)) => srcNew_any a0 a1 ob cb w' (by omega) hc (by omega))
    clear el1 el2 ca1 ca2
    go_enter Try.func6, Try.ntmps6
    go_wp2_with fail
    refine (HA.out _).mono ?_
    rintro e w1 ⟨rfl, hB1⟩
    go_wp2_with fail
    refine (HG.out _).mono ?_
    rintro e w2 ⟨rfl, rfl⟩
    have HC1' := Lib.hid ((HC1.out.below hB1).below ((Below.refl _ w1).alloc (Nat.le_refl _) (.cells #[] 36)))
    have HB1 := Lib.hid hB1
    clear hB1 HG HA
    go_wp2_with (at_builtin; refine wpList_append_steps rfl _ _ rfl w1.heap.size rfl (made_steps w1) (by simp) a1 o1 a1.length c1 rfl rfl (by omega) HC1'.out ?_)
    intro ob cb w3 hc3 hg3
    have hB3 := grown_to_below (HB1.out.alloc HB1.out.size _) HB1.out.size hg3
    have HC3 := Lib.hid hc3
    clear hg3 HB1 hc3 HC1'
    go_wp2_with fail
    refine (HN.out _ _ _ HC3.out).mono ?_
    rintro e w4 ⟨g, rfl, hg, hs, hB4⟩
    have hg : w.heap.size ≤ g := Nat.le_trans hB3.size hg
    have hB4 := hB3.trans (hB4.mono hB3.size)
    have HS4 := Lib.hid hs
    clear hs hB3 HC3 HN
    go_wp2_with fail
    go_loopg [8, 31] a2.length (fun gn tv iv wr => ∃ (i at_ : Nat) (ov : Int), i ≤ a2.length ∧ gn = a2.length - i ∧ iv = .int .i64 (i : Int) ∧ tv = .int .i64 (at_ : Int) ∧ Hid (SrcAt wr g a0 a1 at_ i ov) ∧ Below w.heap.size w wr)
    case atStart => exact ⟨0, 0, 0, by omega, by omega, rfl, rfl, HS4, hB4⟩
    case round =>
      clear HS4 hB4
      obtain ⟨i, at_, ov, hi, rfl, rfl, rfl, HS, hBe⟩ := hrel
      have hat : at_ ≤ a0.size := HS.out.1
      by_cases hlt : i < a2.length
      · have hcell : ∃ ad, o2 = some ad ∧ wr.cell? (ad.add i) = some (.int .i64 a2[i]) := by
          obtain ⟨ad, e, hx, hb⟩ := HC2.out.lt (j := i) (u := .int .i64 a2[i]) (by simp [ivs, hlt])
          exact ⟨ad, e, by rw [hBe.cell (by rw [show (ad.add i).block = ad.block by unfold Addr.add; split <;> rfl]; exact hb)]; exact hx⟩
        obtain ⟨ad, rfl, hx⟩ := hcell
        have hin : InI a2[i] := HE2.out _ (List.getElem_mem _)
        generalize a2[i] = n at *
        have HSR := Lib.hid (srcRead_any g a0 a1 at_ i ov n wr HS.out hin (by omega) (by omega) HEL.out (by omega))
        have hle := sTake_le a0 a1 at_ i ov n hat
        have htn := sTake_n a0 a1 at_ i ov n
        generalize sTake a0 a1 at_ i ov n = t at *
        generalize sOver a0 a1 at_ i ov n = o at *
        go_wp2_with fail
        refine HSR.out.mono ?_
        rintro e w5 ⟨rfl, hs5, hg5⟩
        have hB6 := grown_to_below hBe hg hg5
        have HS5 := Lib.hid hs5
        clear hs5 hg5 HSR hx
        have hpz : (a0.extract at_ (at_ + t)).size = t := by rw [ByteArray.size_extract]; omega
        generalize a0.extract at_ (at_ + t) = part at *
        subst hpz
        have hp0 : part.size ≤ 2000 := by omega
        have hmx : (max n 0 < (part.size : Int)) = False := by simp; omega
        have HMX := Lib.hid hmx
        clear hmx
        go_wp2_with fail
        refine (calls_any g _ _ _ _ _ _ HS5.out).mono ?_
        rintro e w6 ⟨rfl, rfl⟩
        go_wp2_with fail
        refine (given_any g _ _ _ _ _ _ HS5.out).mono ?_
        rintro e w6 ⟨rfl, rfl⟩
        have hmx := HMX.out
        go_wp2_with fail
        go_roundg (a2.length - (i + 1))
        case measure => omega
        case rel => exact ⟨i + 1, at_ + part.size, o, by omega, rfl, by go_num, by go_num, HS5, hB6⟩
      · have hle2 : (at_ : Int) ≤ (a0.size : Int) := by omega
        go_wp2_with fail
        go_ret
        exact ⟨rfl, hBe⟩


/-! ### SourceCounts: the step from the walk to the statement -/
namespace sourceCounts
theorem own : ownKnob Try.prog.godebug = none := by kernel_rfl
theorem laidOut : laidOutB Try.prog = true := by kernel_rfl
set_option maxRecDepth 100000 in
theorem lifted (os : Os) (started : os.Started) (H : Type) (enc : TypeId × Value → H) :
    ReturnsInHanded {} Try.checked os 6 .any (Rows.sourceCountsSpec.pre6 enc Try.prog Try.f6 Rows.sourceCountsRow.domain false) (Rows.sourceCountsSpec.post enc Try.prog Try.f6 false true false false) := by
  refine returnsInHanded_of_change (C := Try.checked) own started (by kernel_rfl) Try.func6
    (ChangeSpec.witness6 (enc := enc) (C := Try.checked) false ⟨#[], #[.string ByteArray.empty, .slice none 0 0, .slice none 0 0], []⟩ 8 (by kernel_rfl) (by kernel_rfl) (by kernel_rfl) (by kernel_rfl)) ?_
  intro W base args ds gs before hval0 hW hcnd _
  have hval : ∀ (j : Nat) t v, Try.f6.params[j]? = some t → args[j]? = some v → Value.okWide Try.prog W .any base t v := hval0
  have hW' := hW
  obtain ⟨p, q, hA0, hV, rfl, hfz, hnd⟩ := hW
  have hA : DataW.TrodAll enc Try.prog W 0 (fun _ => true) true Try.f6.params.toList args.toList ds p := hA0
  rw [Try.params6] at hA hval
  obtain ⟨v0, vs0, d0, ds0, p0, q0, hargs, rfl, rfl, h0, r0⟩ := trodAll_cons hA
  obtain ⟨v1, vs1, d1, ds1, p1, q1, rfl, rfl, rfl, h1, r1⟩ := trodAll_cons r0
  obtain ⟨v2, vs2, d2, ds2, p2, q2, rfl, rfl, rfl, h2, r2⟩ := trodAll_cons r1
  obtain ⟨rfl, rfl, rfl⟩ := trodAll_nil r2
  obtain rfl : args = #[v0, v1, v2] := by cases args; simp_all
  obtain ⟨rfl, rfl⟩ := trodVars_none hV
  obtain ⟨a0, rfl, rfl, rfl, w0⟩ := open_string Try.underlying9 (hval 0 9 v0 rfl rfl) h0
  obtain ⟨o1, len1, c1, rfl⟩ := okWide_slice Try.underlying22 (hval 1 22 v1 rfl rfl)
  have k1 := h1
  have lt1 : ∀ x ∈ p1, x.block < W.heap.size := by obtain ⟨m, hm⟩ := k1; exact DataW.trod_lt m _ _ _ hm
  obtain ⟨a1, rfl, lc1, cm1, ca1, el1⟩ := (came_pairs Try.underlying22 Try.underlying36 (by kernel_rfl) rfl rfl (by kernel_rfl) (by kernel_rfl) Try.underlying3 Try.underlying3 h1)
  obtain ⟨o2, len2, c2, rfl⟩ := okWide_slice Try.underlying23 (hval 2 23 v2 rfl rfl)
  have k2 := h2
  have lt2 : ∀ x ∈ p2, x.block < W.heap.size := by obtain ⟨m, hm⟩ := k2; exact DataW.trod_lt m _ _ _ hm
  obtain ⟨a2, rfl, lc2, cm2, ca2, el2⟩ := (came_ints Try.underlying23 Try.underlying3 (by kernel_rfl) h2)
  clear hA0 hval0
  refine (walkSourceCounts a0 o1 c1 a1 o2 c2 a2 w0 lc1 cm1 el1 lc2 cm2 el2 W ca1 ca2).mono fun e W' ⟨he, bel⟩ => ?_
  subst he
  exact ⟨_, rfl, _, _, _, [], _, [], hW', trodAll_mk1 (shut_bool Try.underlying4 _), (trodAll_cons_mk (shut_string Try.underlying9 w0) (trodAll_cons_mk (Below.trod laidOut (by kernel_rfl) (of_decide_eq_true (by kernel_rfl)) k1 bel lt1) (trodAll_cons_mk (Below.trod laidOut (by kernel_rfl) (of_decide_eq_true (by kernel_rfl)) k2 bel lt2) trodAll_mk0))), rfl, bel.frame _, fun h => by cases h⟩
theorem over : Rows.sourceCountsRow.holds Try.pinned (OpenSpec.ofChange Rows.sourceCountsSpec) :=
  OpenClaim.holds_of_wide 6 Try.f6 rfl rfl rfl rfl rfl rfl rfl ⟨rfl, rfl, rfl, rfl, rfl⟩ rfl rfl rfl rfl rfl (by kernel_rfl) Try.func6 (by kernel_rfl)
    (of_decide_eq_true (by kernel_rfl)) (by unfold Func.isWrapper; first | (rw [if_pos (by decide +kernel)]; kernel_rfl) | (rw [if_neg (by decide +kernel)]; exact ⟨rfl, rfl⟩))
    (fun os started H enc _ => lifted os started H enc)
/-- THE STATEMENT. -/
theorem proved : Rows.SourceCountsSaid := over
end sourceCounts
end Go.Proofs.Ythhdiibknfcnpab
