/- What comes is the front of the text, and all of it comes unless the reader failed. For every text, every list of steps and every size (where there is more than 2000 bytes or 500 steps, or the size is below 1, the law asks only for the fixed answers); no condition. -/
import Derived.Test.YthhdiibknfcnpabSrcPass
import Derived.Test.YthhdiibknfcnpabCame
import Derived.Test.YthhdiibknfcnpabRows
import Derived.WalkKit
import Derived.ProofKit
import Derived.OpenShut
import Derived.ShutString
import Derived.ChangeOld
import Derived.Below
import Derived.Carry
namespace Go.Proofs.Ythhdiibknfcnpab
open Go.ChangeShapes Go.WideShapes Go.ChangeAt Go.RowKit
open Go.ChangeMaps (open_string shut_string)
set_option linter.unusedVariables false
set_option maxRecDepth 100000 in
set_option maxHeartbeats 4000000 in
theorem walkSourceAll (a0 : ByteArray) (o1 : Option Addr) (c1 : Nat) (a1 : List (Int × Int)) (a2 : Int) (b0 : a0.size ≤ maxLen) (lc1 : a1.length ≤ c1) (cm1 : c1 ≤ maxLen) (el1 : ∀ x ∈ a1, InI x.1 ∧ InI x.2) (b2 : -9223372036854775808 ≤ a2 ∧ a2 ≤ 9223372036854775807) (w : World) (ca1 : Came w o1 (pvs a1)) :
    Calls Try.prog 4 #[.string a0, .slice o1 a1.length c1, .int .i64 a2] w fun e w' => e = .returned (.bool true) ∧ Below w.heap.size w w' := by
  have HA := Lib.hid awake03_any
  have m1 : a1.length ≤ maxLen := by omega
  cases hgr : greatB a0.size a1.length 0
  case true =>
    have HG := Lib.hid (fun w => great03_any a0 o1 none _ c1 0 0 w b0 m1 (Nat.zero_le _) true hgr)
    clear hgr
    go_enter Try.func4, Try.ntmps4
    go_wp2_with fail
    refine (HA.out _).mono ?_
    rintro e w1 ⟨rfl, hB1⟩
    go_wp2_with fail
    refine (HG.out _).mono ?_
    rintro e w2 ⟨rfl, rfl⟩
    go_wp2_with fail
    refine (HA.out _).mono ?_
    rintro e w2 ⟨rfl, hB2⟩
    have hB2 := hB1.trans (hB2.mono hB1.size)
    go_wp2_with fail
    go_ret
    exact ⟨rfl, hB2⟩
  case false =>
    obtain ⟨z0, z1, z2⟩ := greatB_no hgr
    have HG := Lib.hid (fun w => great03_any a0 o1 none _ c1 0 0 w b0 m1 (Nat.zero_le _) false hgr)
    clear hgr
    by_cases hn1 : a2 < 1
    · go_enter Try.func4, Try.ntmps4
      go_wp2_with fail
      refine (HA.out _).mono ?_
      rintro e w1 ⟨rfl, hB1⟩
      go_wp2_with fail
      refine (HG.out _).mono ?_
      rintro e w2 ⟨rfl, rfl⟩
      go_wp2_with fail
      refine (HA.out _).mono ?_
      rintro e w2 ⟨rfl, hB2⟩
      have hB2 := hB1.trans (hB2.mono hB1.size)
      go_wp2_with fail
      go_ret
      exact ⟨rfl, hB2⟩
    have hn2 : 1 ≤ a2 := by omega
    clear hn1
    have HEL := Lib.hid el1
    have HC1 := Lib.hid ca1
    have HN := Lib.hid (fun ob cb w' (hc : Came w' ob (pvs a1)) => srcNew_any a0 a1 ob cb w' (by omega) hc (by omega))
    clear el1 ca1
    go_enter Try.func4, Try.ntmps4
    go_wp2_with fail
    refine (HA.out _).mono ?_
    rintro e w1 ⟨rfl, hB1⟩
    go_wp2_with fail
    refine (HG.out _).mono ?_
    rintro e w2 ⟨rfl, rfl⟩
    have HC1' := Lib.hid ((HC1.out.below hB1).below ((Below.refl _ w1).alloc (Nat.le_refl _) (.cells #[] 36)))
    have HB1 := Lib.hid hB1
    clear hB1 HG HA
    go_wp2_with (at_builtin; refine wpList_append_steps rfl _ _ rfl w1.heap.size rfl (made_steps w1) (by simp) a1 o1 a1.length c1 rfl rfl (by omega) HC1'.out ?_)
    intro ob cb w3 hc3 hg3
    have hB3 := grown_to_below (HB1.out.alloc HB1.out.size _) HB1.out.size hg3
    have HC3 := Lib.hid hc3
    clear hg3 HB1 hc3 HC1'
    go_wp2_with fail
    refine (HN.out _ _ _ HC3.out).mono ?_
    rintro e w4 ⟨g, rfl, hg, hs, hB4⟩
    have hg : w.heap.size ≤ g := Nat.le_trans hB3.size hg
    have hB4 := hB3.trans (hB4.mono hB3.size)
    have HS4 := Lib.hid hs
    clear hs hB3 HC3 HN
    go_wp2_with fail
    have he0 : a0.extract 0 0 = (⟨#[]⟩ : ByteArray) := by apply empty_of; rw [ByteArray.size_extract]; omega
    go_loopg [8, 9, 37] (a1.length + a0.size + 2) (fun gn av ovv iv wr => ∃ (i at_ : Nat) (ov : Int), i ≤ a1.length + a0.size + 2 ∧ gn = a1.length + a0.size + 2 - i ∧ iv = .int .i64 (i : Int) ∧ av = .string (a0.extract 0 at_) ∧ ovv = .int .i64 ov ∧ Hid (ov = 0 → i ≤ a1.length + at_) ∧ Hid (ov = 1 → at_ = a0.size) ∧ Hid (SrcAt wr g a0 a1 at_ i ov) ∧ Below w.heap.size w wr)
    case atStart => exact ⟨0, 0, 0, by omega, by omega, rfl, by rw [he0], rfl, Lib.hid (by omega), Lib.hid (by omega), HS4, hB4⟩
    case round =>
      clear HS4 hB4 he0
      obtain ⟨i, at_, ov, hi, rfl, rfl, rfl, rfl, HI0, HI1, HS, hBe⟩ := hrel
      have hat : at_ ≤ a0.size := HS.out.1
      have hovr := HS.out.2.1
      by_cases hlt : i < a1.length + a0.size + 2
      · have hin : InI a2 := b2
        have hle := sTake_le a0 a1 at_ i ov a2 hat
        have htn := sTake_n a0 a1 at_ i ov a2
        have hpz : (a0.extract at_ (at_ + sTake a0 a1 at_ i ov a2)).size = sTake a0 a1 at_ i ov a2 := by rw [ByteArray.size_extract]; omega
        have hap : a0.extract 0 at_ ++ a0.extract at_ (at_ + sTake a0 a1 at_ i ov a2) = a0.extract 0 (at_ + sTake a0 a1 at_ i ov a2) := by
          rw [ByteArray.extract_append_extract]; congr 1 <;> omega
        have HSR := Lib.hid (srcRead_any g a0 a1 at_ i ov a2 wr HS.out hin (by omega) (by omega) HEL.out (by omega))
        have hn0 : Hid (sOver a0 a1 at_ i ov a2 = 0 → i + 1 ≤ a1.length + (at_ + sTake a0 a1 at_ i ov a2)) := Lib.hid (by
          intro e
          by_cases ho : ov = 0
          · subst ho
            have h0 := HI0.out rfl
            by_cases hc : i < a1.length
            · omega
            · have hM : sMost a0 a1 at_ i = (a0.size - at_ : Nat) := by unfold sMost; rw [dif_neg hc]
              have hK : sKind a0 a1 at_ i = if at_ = a0.size then 1 else 0 := by unfold sKind; rw [dif_neg hc]
              have hT : sTake a0 a1 at_ i 0 a2 = (min (min a2 (a0.size - at_ : Nat)) ((a0.size - at_ : Nat) : Int)).toNat := by unfold sTake; rw [if_pos rfl, hM]
              by_cases hz : at_ = a0.size
              · exfalso
                unfold sOver at e
                rw [if_pos rfl, hK, if_pos hz, if_neg (by decide), if_pos ⟨rfl, by rw [hT]; omega⟩] at e
                cases e
              · rw [hT]; omega
          · exfalso
            unfold sOver at e
            rw [if_neg ho] at e
            exact ho e)
        have hn1' : Hid (sOver a0 a1 at_ i ov a2 = 1 → at_ + sTake a0 a1 at_ i ov a2 = a0.size) := Lib.hid (by
          intro e
          by_cases ho : ov = 0
          · subst ho
            unfold sOver at e
            rw [if_pos rfl] at e
            split at e
            · cases e
            · split at e
              · next h => exact h.2
              · cases e
          · have : sOver a0 a1 at_ i ov a2 = ov := by unfold sOver; rw [if_neg ho]
            rw [this] at e
            have ht : sTake a0 a1 at_ i ov a2 = 0 := by unfold sTake; rw [if_neg ho]
            rw [ht]; exact HI1.out e)
        have hstay : ov ≠ 0 → sOver a0 a1 at_ i ov a2 = ov ∧ sTake a0 a1 at_ i ov a2 = 0 := by
          intro ho
          exact ⟨by unfold sOver; rw [if_neg ho], by unfold sTake; rw [if_neg ho]⟩
        generalize sTake a0 a1 at_ i ov a2 = t at *
        generalize sOver a0 a1 at_ i ov a2 = o at *
        generalize a0.extract at_ (at_ + t) = part at *
        have hall : (a0.extract 0 at_).size ≤ 2000 := by rw [ByteArray.size_extract]; omega
        have HAP := Lib.hid hap
        clear hap
        generalize a0.extract 0 at_ = all at *
        have hp0 : part.size ≤ 2000 := by omega
        have hpn : (part.size : Int) ≤ a2 := by omega
        by_cases ho : ov = 0
        · subst ho
          have HPZ := Lib.hid hpz
          clear hpz hstay hin
          go_wp2_with fail
          refine HSR.out.mono ?_
          rintro e w5 ⟨rfl, hs5, hg5⟩
          have hB6 := grown_to_below hBe hg hg5
          have HS5 := Lib.hid hs5
          clear hs5 hg5 HSR
          go_wp2_with fail
          go_roundg (a1.length + a0.size + 2 - (i + 1))
          case measure => omega
          case rel => exact ⟨i + 1, at_ + t, o, by omega, rfl, by go_num, by rw [← HAP.out], rfl, hn0, hn1', HS5, hB6⟩
        · obtain ⟨rfl, rfl⟩ := hstay ho
          obtain rfl : part = ⟨#[]⟩ := empty_of hpz
          have hb : (o != 0) = true := by simpa using ho
          have HPZ := Lib.hid hpz
          clear hpz ho hin
          go_wp2_with fail
          refine HSR.out.mono ?_
          rintro e w5 ⟨rfl, hs5, hg5⟩
          have hB6 := grown_to_below hBe hg hg5
          have HS5 := Lib.hid hs5
          clear hs5 hg5 HSR
          go_wp2_with fail
          go_roundg (a1.length + a0.size + 2 - (i + 1))
          case measure => omega
          case rel => exact ⟨i + 1, at_ + 0, o, by omega, rfl, by go_num, by rw [← HAP.out], rfl, hn0, hn1', HS5, hB6⟩
      · have hov : ov ≠ 0 := by
          intro e
          have := HI0.out e
          omega
        have hsz : (a0.extract 0 at_).size = at_ := by rw [ByteArray.size_extract]; omega
        rcases hovr with h0 | h1 | h2
        · exact absurd h0 hov
        · subst h1
          obtain rfl := HI1.out rfl
          have hfull : a0.extract 0 a0.size = a0 := ByteArray.extract_zero_size
          rw [hfull]
          have HGV := Lib.hid (given_any g a0 a1 a0.size i 1 wr HS.out)
          clear hov hsz HI0 HI1 hfull hat
          go_wp2_with fail
          refine HGV.out.mono ?_
          rintro e w6 ⟨rfl, rfl⟩
          go_wp2_with fail
          go_ret
          exact ⟨rfl, hBe⟩
        · subst h2
          have HSZ := Lib.hid hsz
          have hat2 : (at_ : Int) ≤ 2000 := by omega
          generalize hall : a0.extract 0 at_ = all at *
          have HALL := Lib.hid hall
          clear hall
          obtain rfl : all.size = at_ := hsz
          clear hov HI0 HI1
          go_wp2_with fail
          go_ret
          exact ⟨ret_bool (by rw [HALL.out]; simp), hBe⟩


/-! ### SourceAll: the step from the walk to the statement -/
namespace sourceAll
theorem own : ownKnob Try.prog.godebug = none := by kernel_rfl
theorem laidOut : laidOutB Try.prog = true := by kernel_rfl
set_option maxRecDepth 100000 in
theorem lifted (os : Os) (started : os.Started) (H : Type) (enc : TypeId × Value → H) :
    ReturnsInHanded {} Try.checked os 4 .any (Rows.sourceAllSpec.pre6 enc Try.prog Try.f4 Rows.sourceAllRow.domain false) (Rows.sourceAllSpec.post enc Try.prog Try.f4 false true false false) := by
  refine returnsInHanded_of_change (C := Try.checked) own started (by kernel_rfl) Try.func4
    (ChangeSpec.witness6 (enc := enc) (C := Try.checked) false ⟨#[], #[.string ByteArray.empty, .slice none 0 0, .int .i64 0], []⟩ 8 (by kernel_rfl) (by kernel_rfl) (by kernel_rfl) (by kernel_rfl)) ?_
  intro W base args ds gs before hval0 hW hcnd _
  have hval : ∀ (j : Nat) t v, Try.f4.params[j]? = some t → args[j]? = some v → Value.okWide Try.prog W .any base t v := hval0
  have hW' := hW
  obtain ⟨p, q, hA0, hV, rfl, hfz, hnd⟩ := hW
  have hA : DataW.TrodAll enc Try.prog W 0 (fun _ => true) true Try.f4.params.toList args.toList ds p := hA0
  rw [Try.params4] at hA hval
  obtain ⟨v0, vs0, d0, ds0, p0, q0, hargs, rfl, rfl, h0, r0⟩ := trodAll_cons hA
  obtain ⟨v1, vs1, d1, ds1, p1, q1, rfl, rfl, rfl, h1, r1⟩ := trodAll_cons r0
  obtain ⟨v2, vs2, d2, ds2, p2, q2, rfl, rfl, rfl, h2, r2⟩ := trodAll_cons r1
  obtain ⟨rfl, rfl, rfl⟩ := trodAll_nil r2
  obtain rfl : args = #[v0, v1, v2] := by cases args; simp_all
  obtain ⟨rfl, rfl⟩ := trodVars_none hV
  obtain ⟨a0, rfl, rfl, rfl, w0⟩ := open_string Try.underlying9 (hval 0 9 v0 rfl rfl) h0
  obtain ⟨o1, len1, c1, rfl⟩ := okWide_slice Try.underlying22 (hval 1 22 v1 rfl rfl)
  have k1 := h1
  have lt1 : ∀ x ∈ p1, x.block < W.heap.size := by obtain ⟨m, hm⟩ := k1; exact DataW.trod_lt m _ _ _ hm
  obtain ⟨a1, rfl, lc1, cm1, ca1, el1⟩ := (came_pairs Try.underlying22 Try.underlying36 (by kernel_rfl) rfl rfl (by kernel_rfl) (by kernel_rfl) Try.underlying3 Try.underlying3 h1)
  obtain ⟨a2, rfl, rfl, rfl, w2⟩ := open_int Try.underlying3 (hval 2 3 v2 rfl rfl) h2
  clear hA0 hval0
  refine (walkSourceAll a0 o1 c1 a1 a2 w0 lc1 cm1 el1 (bounds_i64 w2) W ca1).mono fun e W' ⟨he, bel⟩ => ?_
  subst he
  exact ⟨_, rfl, _, _, _, [], _, [], hW', trodAll_mk1 (shut_bool Try.underlying4 _), (trodAll_cons_mk (shut_string Try.underlying9 w0) (trodAll_cons_mk (Below.trod laidOut (by kernel_rfl) (of_decide_eq_true (by kernel_rfl)) k1 bel lt1) (trodAll_cons_mk (shut_int Try.underlying3 w2) trodAll_mk0))), rfl, bel.frame _, fun h => by cases h⟩
theorem over : Rows.sourceAllRow.holds Try.pinned (OpenSpec.ofChange Rows.sourceAllSpec) :=
  OpenClaim.holds_of_wide 4 Try.f4 rfl rfl rfl rfl rfl rfl rfl ⟨rfl, rfl, rfl, rfl, rfl⟩ rfl rfl rfl rfl rfl (by kernel_rfl) Try.func4 (by kernel_rfl)
    (of_decide_eq_true (by kernel_rfl)) (by unfold Func.isWrapper; first | (rw [if_pos (by decide +kernel)]; kernel_rfl) | (rw [if_neg (by decide +kernel)]; exact ⟨rfl, rfl⟩))
    (fun os started H enc _ => lifted os started H enc)
/-- THE STATEMENT. -/
theorem proved : Rows.SourceAllSaid := over
end sourceAll
end Go.Proofs.Ythhdiibknfcnpab
