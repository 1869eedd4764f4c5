/- Of every serial number and bytes behind it (of more than 100 the law asks only for the fixed answers): with more bytes, and with fewer, it is not told. No condition but the form of the row. -/
import Derived.Test.YtpdflpobhmpbpaaQryLoop
import Derived.Test.YtpdflpobhmpbpaaRows
import Derived.WalkKit
import Derived.ProofKit
import Derived.OpenShut
import Derived.ShutString
import Derived.ChangeOld
import Derived.Below
namespace Go.Proofs.Ytpdflpobhmpbpaa
open Go.ChangeShapes Go.WideShapes Go.ChangeAt Go.RowKit
open Go.ChangeMaps (open_string shut_string)
set_option linter.unusedVariables false
open Go.PlainAid in
set_option maxRecDepth 100000 in
set_option maxHeartbeats 16000000 in
theorem walkQueryLong (a0 : ByteArray) (a1 : ByteArray) (b0 : a0.size ≤ maxLen) (b1 : a1.size ≤ maxLen) (w : World) :
    Calls Try.prog 6 #[.string a0, .string a1] w fun e w' => e = .returned (.bool true) ∧ Below w.heap.size w w' := by
  have hb0 : (a0.size : Int) ≤ 9223372036854775807 := by unfold maxLen at b0; omega
  have hb1 : (a1.size : Int) ≤ 9223372036854775807 := by unfold maxLen at b1; omega
  have HR := Lib.hid (refRight_any a0 b0)
  by_cases hl : (100 : Int) < (a1.size : Int)
  · go_enter Try.func6, Try.ntmps6
    go_wp2_with fail
    refine (awake18_any _).mono ?_
    rintro e w1 ⟨rfl, hb1⟩
    have HB1 := Lib.hid hb1
    clear hb1
    go_wp2_with fail
    refine (awake18_any _).mono ?_
    rintro e wz ⟨rfl, hbz⟩
    have hBZ := (HB1.out).trans (hbz.mono (HB1.out).size)
    clear hbz
    go_wp2
    go_returns
    exact ⟨rfl, hBZ⟩
  · cases hs : serR a0 with
    | false =>
      rw [hs] at HR
      go_enter Try.func6, Try.ntmps6
      go_wp2_with fail
      refine (awake18_any _).mono ?_
      rintro e w1 ⟨rfl, hb1⟩
      have HB1 := Lib.hid hb1
      clear hb1
      go_wp2_with fail
      refine (HR.out _).mono ?_
      rintro e w2 ⟨rfl, rfl⟩
      go_wp2_with fail
      refine (awake18_any _).mono ?_
      rintro e wz ⟨rfl, hbz⟩
      have hBZ := (HB1.out).trans (hbz.mono (HB1.out).size)
      clear hbz
      go_wp2
      go_returns
      exact ⟨rfl, hBZ⟩
    | true =>
      rw [hs] at HR
      have hs20 := (serR_len hs).2
      have hs0 := (serR_len hs).1
      have h100 : a1.size ≤ 100 := by omega
      have hov : ¬ 9223372036854775807 < a0.size + a1.size := by omega
      have HSA := Lib.hid (serAll_one hs)
      have hN : a0.size + a1.size ≤ 120 := by omega
      obtain ⟨AB, hAB⟩ : ∃ AB, a0 ++ a1 = AB := ⟨_, rfl⟩
      have hABs : AB.size = a0.size + a1.size := by rw [← hAB, ByteArray.size_append]
      have HAT := Lib.hid (bl_at AB)
      have HBL := Lib.hid (bl_length AB)
      have HL0 := Lib.hid (bl_length a0)
      have hABi : (AB.size : Int) ≤ 120 := by omega
      go_enter Try.func6, Try.ntmps6
      go_wp2_with fail
      refine (awake18_any _).mono ?_
      rintro e w1 ⟨rfl, hb1⟩
      have HB1 := Lib.hid hb1
      clear hb1
      go_wp2_with fail
      refine (HR.out _).mono ?_
      rintro e w2 ⟨rfl, rfl⟩
      have HN0 : Hid (Below w.heap.size w (w2.alloc (.cells #[.string a0] 9)) ∧ Came (w2.alloc (.cells #[.string a0] 9)) (some ⟨w2.heap.size, 0, none⟩) (svs [a0])) := Lib.hid ⟨HB1.out.alloc HB1.out.size _, Came.sl (sl_new_strs w2 [a0] (by show 1 ≤ maxLen; unfold maxLen; omega))⟩
      clear HR
      go_wp2_with fail
      refine (qrySpec.new_on (l := [a0]) HN0.out.2 (Nat.le_refl _) (by show 1 ≤ maxLen; unfold maxLen; omega) HSA.out HN0.out.1).mono ?_
      rintro e w3 ⟨k, F, rfl, h3, _, _⟩
      have H3 := Lib.hid h3
      clear h3 HN0 HSA
      go_wp2_with fail
      clear hAB
      refine (qrySpec.begin_on H3.out rfl).mono ?_
      rintro e w4 ⟨F4, rfl, h4, _, _⟩
      have H4 : Hid (∃ q, QOn QAt w w4 k F4 [a0] q ∧ q.came = (bl AB).take 0 ∧ q.ans a0 = (false, ⟨#[]⟩)) := Lib.hid ⟨_, h4, rfl, rfl⟩
      clear h4 H3
      go_wp2_with fail
      go_loopg [38] AB.size (fun gk iv wr => ∃ (i : Nat) (F : Nat → Prop), iv = .int .i64 (i : Int) ∧ i ≤ AB.size ∧ AB.size - i ≤ gk ∧ Hid (∃ q, QOn QAt w wr k F [a0] q ∧ q.came = (bl AB).take i ∧ q.ans a0 = (false, ⟨#[]⟩)))
      case atStart => exact ⟨0, F4, rfl, by omega, by omega, H4⟩
      case round =>
        clear H4
        obtain ⟨i, F, rfl, hi, hgk, HO⟩ := hrel
        obtain ⟨q, hq, hc, ha⟩ := HO.out
        have HQ := Lib.hid hq
        have HC := Lib.hid hc
        have HA := Lib.hid ha
        clear hq hc ha HO
        by_cases hlt : i < AB.size
        · have hlt2 : (i : Int) < (AB.size : Int) := by omega
          have gj := get_bt AB i hlt
          have r0 := bt_nonneg AB i
          have r1 := bt_le AB i
          have HCp : Hid ((q.push (bt AB i)).came = (bl AB).take (i + 1)) := Lib.hid (by
            show q.came ++ [bt AB i] = _
            rw [HC.out, List.take_add_one, HAT.out i hlt]; rfl)
          have hcl : q.came.length < 1000000000 := by rw [HC.out, List.length_take, HBL.out]; omega
          have HPu := Lib.hid (qrySpec.push_on HQ.out (bt AB i) ⟨r0, r1⟩ hcl (q' := q.push (bt AB i)) rfl)
          have HAp : Hid ((q.push (bt AB i)).ans a0 = (false, ⟨#[]⟩)) := Lib.hid HA.out
          generalize q.push (bt AB i) = p at *
          generalize bt AB i = x at *
          clear hcl HC HA HQ
          go_wp2_with fail
          refine HPu.out.mono ?_
          rintro e w5 ⟨F5, rfl, h5, _, _⟩
          have H5 := Lib.hid h5
          clear h5 HPu
          by_cases hd : i + 1 = a0.size
          · have hdi : (i : Int) = (a0.size : Int) - 1 := by omega
            have hdb : ((i : Int) != (a0.size : Int) - 1) = false := by simp; omega
            go_wp2_with fail
            go_roundg (AB.size - (i + 1))
            case measure => omega
            case rel => exact ⟨i + 1, F5, by first | (simp; done) | (simp; omega), by omega, by omega, Lib.hid ⟨p, H5.out, HCp.out, HAp.out⟩⟩
          · have hdb : ((i : Int) != (a0.size : Int) - 1) = true := by simp; omega
            have HAd : Hid ((p.date ⟨#[100]⟩).ans a0 = (false, ⟨#[]⟩)) := Lib.hid (by
              rw [QS.date_none, HAp.out]
              rw [HCp.out]
              intro e
              have := congrArg List.length e
              rw [HL0.out, List.length_take, HBL.out] at this
              omega)
            go_wp2_with fail
            refine (qrySpec.date_on H5.out ⟨#[100]⟩ rfl).mono ?_
            rintro e w6 ⟨F6, rfl, h6, _, _⟩
            have H6 := Lib.hid h6
            clear h6 H5
            go_wp2_with fail
            go_roundg (AB.size - (i + 1))
            case measure => omega
            case rel => exact ⟨i + 1, F6, by simp, by omega, by omega, Lib.hid ⟨p.date ⟨#[100]⟩, H6.out, HCp.out, HAd.out⟩⟩
        · have hlt2 : ¬ (i : Int) < (AB.size : Int) := by omega
          have HFo : Hid (q.found [a0] = [(false, ⟨#[]⟩)]) := Lib.hid (by show [q.ans a0] = _; rw [HA.out])
          clear HC HA
          go_wp2_with fail
          refine (qrySpec.answers_on HQ.out HFo.out).mono ?_
          rintro e w6 ⟨v6, rfl, hv6, h6, _⟩
          obtain ⟨g6, c6, rfl, hc6⟩ : ∃ g c, v6 = .slice (some ⟨g, 0, none⟩) 1 c ∧ 1 ≤ c := by
            rcases hv6.shape with ⟨_, hh⟩ | ⟨g, c, h1, h2, _⟩
            · cases hh
            · exact ⟨g, c, h1, h2⟩
          obtain ⟨x0, _⟩ : w6.cell? ⟨g6, 0 * 2, none⟩ = some (.bool false) ∧ _ := hv6.ansAt 0 (by decide) rfl
          replace x0 : w6.cell? ⟨g6, 0, none⟩ = some (.bool false) := x0
          have hBZ := h6.bel
          clear hv6 h6 HQ HFo
          go_wp2
          go_returns
          exact ⟨rfl, hBZ⟩


/-! ### QueryLong: the step from the walk to the statement -/
namespace queryLong
theorem own : ownKnob Try.prog.godebug = none := by kernel_rfl
set_option maxRecDepth 100000 in
theorem lifted (os : Os) (started : os.Started) (H : Type) (enc : TypeId × Value → H) :
    ReturnsInHanded {} Try.checked os 6 .any (Rows.queryLongSpec.pre6 enc Try.prog Try.f6 Rows.queryLongRow.domain false) (Rows.queryLongSpec.post enc Try.prog Try.f6 false true false false) := by
  refine returnsInHanded_of_change (C := Try.checked) own started (by kernel_rfl) Try.func6
    (ChangeSpec.witness6 (enc := enc) (C := Try.checked) false ⟨#[], #[.string ByteArray.empty, .string ByteArray.empty], []⟩ 8 (by kernel_rfl) (by kernel_rfl) (by kernel_rfl) (by kernel_rfl)) ?_
  intro W base args ds gs before hval0 hW hcnd _
  have hval : ∀ (j : Nat) t v, Try.f6.params[j]? = some t → args[j]? = some v → Value.okWide Try.prog W .any base t v := hval0
  have hW' := hW
  obtain ⟨p, q, hA0, hV, rfl, hfz, hnd⟩ := hW
  have hA : DataW.TrodAll enc Try.prog W 0 (fun _ => true) true Try.f6.params.toList args.toList ds p := hA0
  rw [Try.params6] at hA hval
  obtain ⟨v0, vs0, d0, ds0, p0, q0, hargs, rfl, rfl, h0, r0⟩ := trodAll_cons hA
  obtain ⟨v1, vs1, d1, ds1, p1, q1, rfl, rfl, rfl, h1, r1⟩ := trodAll_cons r0
  obtain ⟨rfl, rfl, rfl⟩ := trodAll_nil r1
  obtain rfl : args = #[v0, v1] := by cases args; simp_all
  obtain ⟨rfl, rfl⟩ := trodVars_none hV
  obtain ⟨a0, rfl, rfl, rfl, w0⟩ := open_string Try.underlying9 (hval 0 9 v0 rfl rfl) h0
  obtain ⟨a1, rfl, rfl, rfl, w1⟩ := open_string Try.underlying9 (hval 1 9 v1 rfl rfl) h1
  clear hA0 hval0
  simp only [List.append_nil] at hW'
  refine (walkQueryLong a0 a1 w0 w1 W).mono fun e W' ⟨he, bel⟩ => ?_
  subst he
  exact ⟨_, rfl, _, _, _, [], [], [], hW', trodAll_mk1 (shut_bool Try.underlying4 _), (trodAll_cons_mk (shut_string Try.underlying9 w0) (trodAll_cons_mk (shut_string Try.underlying9 w1) trodAll_mk0)), rfl, bel.frame _, fun h => by cases h⟩
theorem over : Rows.queryLongRow.holds Try.pinned (OpenSpec.ofChange Rows.queryLongSpec) :=
  OpenClaim.holds_of_wide 6 Try.f6 rfl rfl rfl rfl rfl rfl rfl ⟨rfl, rfl, rfl, rfl, rfl⟩ rfl rfl rfl rfl rfl (by kernel_rfl) Try.func6 (by kernel_rfl)
    (of_decide_eq_true (by kernel_rfl)) (by unfold Func.isWrapper; first | (rw [if_pos (by decide +kernel)]; kernel_rfl) | (rw [if_neg (by decide +kernel)]; exact ⟨rfl, rfl⟩))
    (fun os started H enc _ => lifted os started H enc)
/-- THE STATEMENT. -/
theorem proved : Rows.QueryLongSaid := over
end queryLong
end Go.Proofs.Ytpdflpobhmpbpaa
