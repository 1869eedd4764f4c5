/- Of every bytes (of more than 300 the law asks only for the fixed answers): pushed byte by byte they are the heads that the reference tells in one go; an error stays. No condition but the form of the row. -/
import Derived.Test.YtkokjeakpecndaaHeadAwake
import Derived.Test.YtkokjeakpecndaaCameHead
import Derived.Test.YtkokjeakpecndaaRows
import Derived.WalkKit
import Derived.ProofKit
import Derived.OpenShut
import Derived.ShutString
import Derived.ChangeOld
import Derived.Below
namespace Go.Proofs.Ytkokjeakpecndaa
open Go.ChangeShapes Go.WideShapes Go.ChangeAt Go.RowKit
open Go.ChangeMaps (open_string shut_string)
set_option linter.unusedVariables false
set_option maxRecDepth 100000 in
set_option maxHeartbeats 4000000 in
theorem walkHeadPushed (a0 : ByteArray) (b0 : a0.size ≤ maxLen) (w : World) :
    Calls Try.prog 5 #[.string a0] w fun e w' => e = .returned (.bool true) ∧ Below w.heap.size w w' := by
  by_cases hl : (300 : Int) < (a0.size : Int)
  · clear b0
    go_enter Try.func5, Try.ntmps5
    go_wp2_with fail
    refine (rdSpec.new _).mono ?_
    rintro e w1 ⟨k, F, rfl, hF, hR, hB1⟩
    go_wp2_with fail
    refine (awake07_any _).mono ?_
    rintro e w2 ⟨rfl, hb⟩
    have hB2 := hB1.trans (hb.mono hB1.size)
    clear hb hB1
    go_wp2_with fail
    refine (awake07_any _).mono ?_
    rintro e w3 ⟨rfl, hb⟩
    have hB3 := hB2.trans (hb.mono hB2.size)
    clear hb hB2
    go_wp2
    go_returns
    exact ⟨rfl, hB3⟩
  · have hl2 : (a0.size : Int) ≤ 300 := by omega
    have HG := Lib.hid (fun (n : Nat) (at_ : Int) (ha : -9223372036854775808 ≤ at_ ∧ at_ ≤ 9223372036854775807) => refHeadGet_any (a0.extract 0 n) at_ (by rw [ByteArray.size_extract]; unfold maxLen; omega) ha)
    clear b0
    go_enter Try.func5, Try.ntmps5
    go_wp2_with fail
    refine (rdSpec.new _).mono ?_
    rintro e w1 ⟨k, F, rfl, hF, hR, hB1⟩
    have HR1 := Lib.hid hR
    have HF1 := Lib.hid hF
    clear hR hF
    go_wp2_with fail
    refine (awake07_any _).mono ?_
    rintro e w2 ⟨rfl, hb⟩
    have hB2 := hB1.trans (hb.mono hB1.size)
    have HR2 := Lib.hid (rdSpec.below HR1.out hb)
    clear hb hB1 HR1
    go_wp2
    go_loopw [4, 5, 28] (fun fv ov iv wr => ∃ (i from_ : Nat) (s : HS) (F : Nat → Prop), fv = .int .i64 (from_ : Int) ∧ ov = .int .i64 s.over ∧ iv = .int .i64 (i : Int) ∧ i ≤ a0.size ∧ from_ ≤ i ∧ Hid (s.over = 0 → s.came = ((bl a0).take i).drop from_) ∧ Hid (RdAt wr k F s) ∧ Hid (∀ j, F j → w.heap.size ≤ j) ∧ Hid (Below w.heap.size w wr)) (fun _ _ iv _ => a0.size - (intOf iv).toNat)
    case atStart => exact ⟨0, 0, ⟨[], 0⟩, F, rfl, rfl, rfl, by omega, by omega, Lib.hid (fun _ => rfl), HR2, HF1, Lib.hid hB2⟩
    case round =>
      obtain ⟨i, from_, s, G, rfl, rfl, rfl, hi, hf, HC, HR, HGF, HB⟩ := hrel
      by_cases hlt : i < a0.size
      · have hb0 := Go.PlainAid.bt_nonneg a0 i
        have hb1 := Go.PlainAid.bt_le a0 i
        have hbt := Go.PlainAid.get_bt a0 i hlt
        have hix : (i : Int) < (a0.size : Int) := by omega
        have hsl : ∀ W : World, (Instr.slice 9 (.string a0) none (some (.int .i64 ((i : Int) + 1))) none).run Try.prog W = .ok (.string (a0.extract 0 (i + 1))) W := by
          intro W
          rw [run_slice_string_to_if (P := Try.prog) W 9 a0 .i64 _ Try.underlying9, if_pos (by omega), show ((i : Int) + 1).toNat = i + 1 by omega]
        have hsz1 : (a0.extract 0 (i + 1)).size ≤ maxLen := by rw [ByteArray.size_extract]; unfold maxLen; omega
        by_cases ho : s.over = 0
        · have hoq : (s.over != 0) = false := by rw [ho]; rfl
          rw [ho]
          rcases pushed_cases a0 i from_ hlt hf s ho (HC.out ho) with ⟨p, ht, hn, hg⟩ | ⟨p, er, l, he0, he2, ht, hn, hg⟩ | ⟨c, t, f, v, p, ht, hn, hg⟩
          · have HGc := Lib.hid (refHeadGet_is (a0.extract 0 (i + 1)) (from_ : Int) hsz1 (by omega) hg)
            generalize Go.PlainAid.bt a0 i = x at *
            clear hg hsz1 HC HG hoq ho
            go_wp2_with fail
            refine (rdSpec.push_on _ HR.out hb0 hb1 HB.out HGF.out ht hn).mono ?_
            rintro e w3 ⟨rfl, F3, hF3, hR3, hB3, _⟩
            have HX3 := Lib.hid (Row.new w3 23 (hdC 0 0 false 0))
            have HR3 := Lib.hid (rdSpec.below hR3 ((Below.refl _ w3).alloc (Nat.le_refl _) (.cells (hdC 0 0 false 0).toArray 23)))
            have hB3 := hB3.alloc hB3.size (.cells (hdC 0 0 false 0).toArray 23)
            have HF3 := Lib.hid hF3
            clear hR3 hF3 HR HB HGF ht hn
            go_wp2_with fail
            refine (HGc.out _).mono ?_
            rintro e w4 ⟨rfl, hb⟩
            have HX4 := Lib.hid (HX3.out.below hb HX3.out.lt)
            have hB4 := hB3.trans (hb.mono hB3.size)
            have HR4 := Lib.hid (rdSpec.below HR3.out hb)
            have HR5 := Lib.hid (rdSpec.below HR4.out ((Below.refl _ w4).alloc (Nat.le_refl _) (.cells (hdC 0 0 false 0).toArray 23)))
            have hB5 := hB4.alloc hB4.size (.cells (hdC 0 0 false 0).toArray 23)
            obtain ⟨ka0, ka1, ka2, ka3, fa0, fa1, fa2, fa3⟩ := head_facts HX4.out
            have hlta := HX4.out.lt
            have hld : ∀ (o : Obj), (loadVar 23 ⟨w3.heap.size, 0, none⟩).run Try.prog (w4.alloc o) = .ok (hdV 0 0 false 0) (w4.alloc o) := fun o => head_load (HX4.out.alloc o)
            clear hb hB3 hB4 HR3 HR4 HX3 HGc
            go_wp2
            go_roundw
            case rel => exact ⟨i + 1, from_, ⟨((bl a0).take (i + 1)).drop from_, 0⟩, F3, rfl, rfl, by simp, by omega, by omega, Lib.hid (fun _ => rfl), HR5, HF3, Lib.hid hB5⟩
            case measure => simp [intOf]; omega
          · have HGc := Lib.hid (refHeadGet_is (a0.extract 0 (i + 1)) (from_ : Int) hsz1 (by omega) hg)
            have e0q : (er == 0) = false := by simpa using he0
            have e2q : (er == 2) = false := by simpa using he2
            have e0n : (er != 0) = true := by simpa using he0
            generalize Go.PlainAid.bt a0 i = x at *
            clear hg hsz1 HC HG hoq ho
            go_wp2_with fail
            refine (rdSpec.push_on _ HR.out hb0 hb1 HB.out HGF.out ht hn).mono ?_
            rintro e w3 ⟨rfl, F3, hF3, hR3, hB3, _⟩
            have HX3 := Lib.hid (Row.new w3 23 (hdC 0 0 false 0))
            have HR3 := Lib.hid (rdSpec.below hR3 ((Below.refl _ w3).alloc (Nat.le_refl _) (.cells (hdC 0 0 false 0).toArray 23)))
            have hB3 := hB3.alloc hB3.size (.cells (hdC 0 0 false 0).toArray 23)
            have HF3 := Lib.hid hF3
            clear hR3 hF3 HR HB HGF ht hn
            go_wp2_with fail
            refine (HGc.out _).mono ?_
            rintro e w4 ⟨rfl, hb⟩
            have HX4 := Lib.hid (HX3.out.below hb HX3.out.lt)
            have hB4 := hB3.trans (hb.mono hB3.size)
            have HR4 := Lib.hid (rdSpec.below HR3.out hb)
            have HR5 := Lib.hid (rdSpec.below HR4.out ((Below.refl _ w4).alloc (Nat.le_refl _) (.cells (hdC 0 0 false 0).toArray 23)))
            have hB5 := hB4.alloc hB4.size (.cells (hdC 0 0 false 0).toArray 23)
            obtain ⟨ka0, ka1, ka2, ka3, fa0, fa1, fa2, fa3⟩ := head_facts HX4.out
            have hlta := HX4.out.lt
            have hld : ∀ (o : Obj), (loadVar 23 ⟨w3.heap.size, 0, none⟩).run Try.prog (w4.alloc o) = .ok (hdV 0 0 false 0) (w4.alloc o) := fun o => head_load (HX4.out.alloc o)
            clear hb hB3 hB4 HR3 HR4 HX3 HGc
            go_wp2
            go_roundw
            case rel => exact ⟨i + 1, from_, ⟨l, er⟩, F3, rfl, rfl, by simp, by omega, by omega, Lib.hid (fun h => absurd h he0), HR5, HF3, Lib.hid hB5⟩
            case measure => simp [intOf]; omega
          · have HGc := Lib.hid (refHeadGet_is (a0.extract 0 (i + 1)) (from_ : Int) hsz1 (by omega) hg)
            have HCN := Lib.hid (came_none a0 i)
            generalize Go.PlainAid.bt a0 i = x at *
            clear hg hsz1 HC HG hoq ho
            go_wp2_with fail
            refine (rdSpec.push_on _ HR.out hb0 hb1 HB.out HGF.out ht hn).mono ?_
            rintro e w3 ⟨rfl, F3, hF3, hR3, hB3, _⟩
            have HX3 := Lib.hid (Row.new w3 23 (hdC c t f v))
            have HR3 := Lib.hid (rdSpec.below hR3 ((Below.refl _ w3).alloc (Nat.le_refl _) (.cells (hdC c t f v).toArray 23)))
            have hB3 := hB3.alloc hB3.size (.cells (hdC c t f v).toArray 23)
            have HF3 := Lib.hid hF3
            clear hR3 hF3 HR HB HGF ht hn
            go_wp2_with fail
            refine (HGc.out _).mono ?_
            rintro e w4 ⟨rfl, hb⟩
            have HX4 := Lib.hid (HX3.out.below hb HX3.out.lt)
            have hB4 := hB3.trans (hb.mono hB3.size)
            have HR4 := Lib.hid (rdSpec.below HR3.out hb)
            have HR5 := Lib.hid (rdSpec.below HR4.out ((Below.refl _ w4).alloc (Nat.le_refl _) (.cells (hdC c t f v).toArray 23)))
            have hB5 := hB4.alloc hB4.size (.cells (hdC c t f v).toArray 23)
            obtain ⟨ka0, ka1, ka2, ka3, fa0, fa1, fa2, fa3⟩ := head_facts HX4.out
            have hlta := HX4.out.lt
            have hld : ∀ (o : Obj), (loadVar 23 ⟨w3.heap.size, 0, none⟩).run Try.prog (w4.alloc o) = .ok (hdV c t f v) (w4.alloc o) := fun o => head_load (HX4.out.alloc o)
            clear hb hB3 hB4 HR3 HR4 HX3 HGc
            go_wp2
            go_roundw
            case rel => exact ⟨i + 1, i + 1, ⟨[], 0⟩, F3, by simp, rfl, by simp, by omega, by omega, Lib.hid (fun _ => HCN.out.symm), HR5, HF3, Lib.hid hB5⟩
            case measure => simp [intOf]; omega
        · obtain ⟨ht, hn⟩ := pushed_over s (Go.PlainAid.bt a0 i) ho
          have hoq : (s.over != 0) = true := by simpa using ho
          generalize Go.PlainAid.bt a0 i = x at *
          clear hsz1 HC HG hsl
          go_wp2_with fail
          refine (rdSpec.push_on _ HR.out hb0 hb1 HB.out HGF.out ht hn).mono ?_
          rintro e w3 ⟨rfl, F3, hF3, hR3, hB3, _⟩
          have HX3 := Lib.hid (Row.new w3 23 (hdC 0 0 false 0))
          have HR3 := Lib.hid (rdSpec.below hR3 ((Below.refl _ w3).alloc (Nat.le_refl _) (.cells (hdC 0 0 false 0).toArray 23)))
          have hB3 := hB3.alloc hB3.size (.cells (hdC 0 0 false 0).toArray 23)
          have HF3 := Lib.hid hF3
          clear hR3 hF3 HR HB HGF ht hn
          go_wp2
          go_roundw
          case rel => exact ⟨i + 1, from_, s, F3, rfl, rfl, by simp, by omega, by omega, Lib.hid (fun h => absurd h ho), HR3, HF3, Lib.hid hB3⟩
          case measure => simp [intOf]; omega
      · have hlt2 : ¬ (i : Int) < a0.size := by omega
        go_wp2
        go_returns
        exact ⟨rfl, HB.out⟩


/-! ### HeadPushed: the step from the walk to the statement -/
namespace headPushed
theorem own : ownKnob Try.prog.godebug = none := by kernel_rfl
set_option maxRecDepth 100000 in
theorem lifted (os : Os) (started : os.Started) (H : Type) (enc : TypeId × Value → H) :
    ReturnsInHanded {} Try.checked os 5 .any (Rows.headPushedSpec.pre6 enc Try.prog Try.f5 Rows.headPushedRow.domain false) (Rows.headPushedSpec.post enc Try.prog Try.f5 false true false false) := by
  refine returnsInHanded_of_change (C := Try.checked) own started (by kernel_rfl) Try.func5
    (ChangeSpec.witness6 (enc := enc) (C := Try.checked) false ⟨#[], #[.string ByteArray.empty], []⟩ 8 (by kernel_rfl) (by kernel_rfl) (by kernel_rfl) (by kernel_rfl)) ?_
  intro W base args ds gs before hval0 hW hcnd _
  have hval : ∀ (j : Nat) t v, Try.f5.params[j]? = some t → args[j]? = some v → Value.okWide Try.prog W .any base t v := hval0
  have hW' := hW
  obtain ⟨p, q, hA0, hV, rfl, hfz, hnd⟩ := hW
  have hA : DataW.TrodAll enc Try.prog W 0 (fun _ => true) true Try.f5.params.toList args.toList ds p := hA0
  rw [Try.params5] at hA hval
  obtain ⟨v0, vs0, d0, ds0, p0, q0, hargs, rfl, rfl, h0, r0⟩ := trodAll_cons hA
  obtain ⟨rfl, rfl, rfl⟩ := trodAll_nil r0
  obtain rfl : args = #[v0] := by cases args; simp_all
  obtain ⟨rfl, rfl⟩ := trodVars_none hV
  obtain ⟨a0, rfl, rfl, rfl, w0⟩ := open_string Try.underlying9 (hval 0 9 v0 rfl rfl) h0
  clear hA0 hval0
  simp only [List.append_nil] at hW'
  refine (walkHeadPushed a0 w0 W).mono fun e W' ⟨he, bel⟩ => ?_
  subst he
  exact ⟨_, rfl, _, _, _, [], [], [], hW', trodAll_mk1 (shut_bool Try.underlying4 _), (trodAll_cons_mk (shut_string Try.underlying9 w0) trodAll_mk0), rfl, bel.frame _, fun h => by cases h⟩
theorem over : Rows.headPushedRow.holds Try.pinned (OpenSpec.ofChange Rows.headPushedSpec) :=
  OpenClaim.holds_of_wide 5 Try.f5 rfl rfl rfl rfl rfl rfl rfl ⟨rfl, rfl, rfl, rfl, rfl⟩ rfl rfl rfl rfl rfl (by kernel_rfl) Try.func5 (by kernel_rfl)
    (of_decide_eq_true (by kernel_rfl)) (by unfold Func.isWrapper; first | (rw [if_pos (by decide +kernel)]; kernel_rfl) | (rw [if_neg (by decide +kernel)]; exact ⟨rfl, rfl⟩))
    (fun os started H enc _ => lifted os started H enc)
/-- THE STATEMENT. -/
theorem proved : Rows.HeadPushedSaid := over
end headPushed
end Go.Proofs.Ytkokjeakpecndaa
