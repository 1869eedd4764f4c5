/- A source without steps gives all at once and is over then; one whose first step fails gives what that allows, and nothing more. For every text and every number (of a text of more than 2000 bytes the law asks only for the fixed answers); no condition. -/
import Derived.Test.YthhdiibknfcnpabSrcTwo
import Derived.Test.YthhdiibknfcnpabCame
import Derived.Test.YthhdiibknfcnpabRows
import Derived.WalkKit
import Derived.ProofKit
import Derived.OpenShut
import Derived.ShutString
import Derived.ChangeOld
import Derived.Below
namespace Go.Proofs.Ythhdiibknfcnpab
open Go.ChangeShapes Go.WideShapes Go.ChangeAt Go.RowKit
open Go.ChangeMaps (open_string shut_string)
set_option linter.unusedVariables false
set_option maxRecDepth 100000 in
set_option maxHeartbeats 4000000 in
theorem walkSourceEnds (a0 : ByteArray) (a1 : Int) (b0 : a0.size ≤ maxLen) (b1 : -9223372036854775808 ≤ a1 ∧ a1 ≤ 9223372036854775807) (w : World) :
    Calls Try.prog 5 #[.string a0, .int .i64 a1] w fun e w' => e = .returned (.bool true) ∧ Below w.heap.size w w' := by
  have HA := Lib.hid awake03_any
  by_cases hg2 : 2000 < a0.size
  · have hg3 : (2000 : Int) < (a0.size : Int) := by omega
    unfold maxLen at b0
    go_enter Try.func5, Try.ntmps5
    go_wp2_with fail
    refine (HA.out _).mono ?_
    rintro e w1 ⟨rfl, hB1⟩
    go_wp2_with fail
    refine (HA.out _).mono ?_
    rintro e w2 ⟨rfl, hB2⟩
    have hB2 := hB1.trans (hB2.mono hB1.size)
    go_wp2_with fail
    go_ret
    exact ⟨rfl, hB2⟩
  have hz : a0.size ≤ 2000 := by omega
  have hin : InI a1 := b1
  have HN1 := Lib.hid (fun w' => srcNew_any a0 [] none 0 w' (by omega) (Came.nil _ _) (by decide))
  have HN2 := Lib.hid (fun w' => srcNew_any a0 [(a1, 2)] (some ⟨w'.heap.size, 0, none⟩) 1 (w'.alloc (.cells (pvs [(a1, 2)]).toArray 36)) (by omega) (Came.row (Row.new w' _ _)) (by simp))
  have hI0 : InI (a0.size : Int) := by unfold InI; omega
  have hI1 : InI 1 := by unfold InI; decide
  have hE0 : ∀ s ∈ ([] : List (Int × Int)), InI s.1 ∧ InI s.2 := by simp
  have hE1 : ∀ s ∈ [(a1, (2 : Int))], InI s.1 ∧ InI s.2 := by intro s hs; simp at hs; subst hs; exact ⟨hin, by unfold InI; omega⟩
  clear hg2
  go_enter Try.func5, Try.ntmps5
  go_wp2_with fail
  refine (HA.out _).mono ?_
  rintro e w1 ⟨rfl, hB1⟩
  clear HA
  go_wp2_with fail
  refine (HN1.out _).mono ?_
  rintro e w2 ⟨g, rfl, hg, hs, hB2⟩
  have hB2 := hB1.trans (hB2.mono hB1.size)
  have hg : w.heap.size ≤ g := Nat.le_trans hB1.size hg
  have HS := Lib.hid hs
  clear hs hB1 HN1
  go_wp2_with fail
  refine (HN2.out _).mono ?_
  rintro e w3 ⟨h, rfl, hh, hs, hB3⟩
  have hBa := hB2.alloc hB2.size (.cells (pvs [(a1, 2)]).toArray 36)
  have HS3 := Lib.hid ((HS.out.below ((Below.refl _ w2).alloc (Nat.le_refl _) (.cells (pvs [(a1, 2)]).toArray 36))).below hB3)
  have hB3 := hBa.trans (hB3.mono hBa.size)
  have hgh : g < h := by
    have h1 := HS.out.lt
    have h2 : (w2.alloc (.cells (pvs [(a1, 2)]).toArray 36)).heap.size = w2.heap.size + 1 := Array.size_push _
    omega
  have hh : w.heap.size ≤ h := by omega
  have HF := Lib.hid hs
  clear hs HS hB2 hBa HN2
  by_cases h0 : a0.size = 0
  · obtain rfl := empty_of h0
    have HR1 := Lib.hid (fun w1 (hs : SrcAt w1 g ⟨#[]⟩ [] 0 0 0) (hB : Below w.heap.size w w1) => srcRead_is g ⟨#[]⟩ [] 0 0 0 0 0 1 ⟨#[]⟩ (by decide +kernel) (by decide +kernel) (by decide +kernel) (by unfold InI; decide) (by decide) (by decide) hE0 (by decide) w w1 hs hg hB)
    have HR2 := Lib.hid (fun w1 (hs : SrcAt w1 g ⟨#[]⟩ [] 0 1 1) (hB : Below w.heap.size w w1) => srcRead_is g ⟨#[]⟩ [] 0 1 1 1 0 1 ⟨#[]⟩ (by decide +kernel) (by decide +kernel) (by decide +kernel) hI1 (by decide) (by decide) hE0 (by decide) w w1 hs hg hB)
    clear h0
    go_wp2_with fail
    refine (HR1.out _ HS3.out hB3).mono ?_
    rintro e w4 ⟨rfl, hs, hB4, _⟩
    have HS4 := Lib.hid hs
    clear hs
    go_wp2_with fail
    refine (HR2.out _ HS4.out hB4).mono ?_
    rintro e w5 ⟨rfl, hs, hB5, _⟩
    clear hs
    go_wp2_with fail
    go_ret
    exact ⟨rfl, hB5⟩
  · obtain ⟨k, hk⟩ : ∃ k, k = (min (max a1 0) (a0.size : Int)).toNat := ⟨_, rfl⟩
    have hks : k ≤ a0.size := by omega
    have hfull : a0.extract 0 (0 + a0.size) = a0 := by rw [Nat.zero_add]; exact ByteArray.extract_zero_size
    have hnone : a0.extract (0 + a0.size) (0 + a0.size + 0) = (⟨#[]⟩ : ByteArray) := by apply empty_of; rw [ByteArray.size_extract]; omega
    have hpart : a0.extract 0 (0 + k) = a0.extract 0 (min (max a1 0) (a0.size : Int)).toNat := by rw [Nat.zero_add, hk]
    have hnone2 : a0.extract (0 + k) (0 + k + 0) = (⟨#[]⟩ : ByteArray) := by apply empty_of; rw [ByteArray.size_extract]; omega
    have hT2 : sTake a0 [] (0 + a0.size) 1 0 1 = 0 := by unfold sTake; rw [if_pos rfl]; omega
    have HR1 := Lib.hid (fun w1 (hs : SrcAt w1 g a0 [] 0 0 0) (hB : Below w.heap.size w w1) => srcRead_is g a0 [] 0 0 0 (a0.size : Int) a0.size 0 a0 (by simp [sTake, sMost]) (by simp [sOver, sKind]; omega) hfull hI0 (by omega) (by decide) hE0 (by decide) w w1 hs hg hB)
    have HR2 := Lib.hid (fun w1 (hs : SrcAt w1 g a0 [] (0 + a0.size) 1 0) (hB : Below w.heap.size w w1) => srcRead_is g a0 [] (0 + a0.size) 1 0 1 0 1 ⟨#[]⟩ hT2 (by unfold sOver; rw [if_pos rfl, hT2]; simp [sKind]) hnone hI1 (by omega) (by decide) hE0 (by decide) w w1 hs hg hB)
    have HR3 := Lib.hid (fun w1 (hs : SrcAt w1 h a0 [(a1, 2)] 0 0 0) (hB : Below w.heap.size w w1) => srcRead_is h a0 [(a1, 2)] 0 0 0 (a0.size : Int) k 2 (a0.extract 0 (min (max a1 0) (a0.size : Int)).toNat) (by simp [sTake, sMost, hk]; omega) (by simp [sOver, sKind]) hpart hI0 (by omega) (by simp) hE1 (by decide) w w1 hs hh hB)
    have HR4 := Lib.hid (fun w1 (hs : SrcAt w1 h a0 [(a1, 2)] (0 + k) 1 2) (hB : Below w.heap.size w w1) => srcRead_is h a0 [(a1, 2)] (0 + k) 1 2 (a0.size : Int) 0 2 ⟨#[]⟩ (by simp [sTake]) (by simp [sOver]) hnone2 hI0 (by omega) (by simp) hE1 (by decide) w w1 hs hh hB)
    have hb0 : ((a0.size : Int) == 0) = false := by rw [beq_eq_false_iff_ne]; omega
    clear h0 hk hfull hnone hpart hnone2 hT2
    go_wp2_with fail
    refine (HR1.out _ HS3.out hB3).mono ?_
    rintro e w4 ⟨rfl, hs, hB4, hg4⟩
    obtain ⟨L, hrow⟩ := HS3.out.row
    have HF4 := Lib.hid (HF.out.aside hg4 (by omega) hrow (by decide))
    have HS4 := Lib.hid hs
    clear hs hg4 hrow
    go_wp2_with fail
    refine (HR2.out _ HS4.out hB4).mono ?_
    rintro e w5 ⟨rfl, hs, hB5, hg5⟩
    obtain ⟨L, hrow⟩ := HS4.out.row
    have HF5 := Lib.hid (HF4.out.aside hg5 (by omega) hrow (by decide))
    clear hs hg5 hrow HR1 HR2
    go_wp2_with fail
    refine (HR3.out _ HF5.out hB5).mono ?_
    rintro e w6 ⟨rfl, hs, hB6, _⟩
    have HF6 := Lib.hid hs
    clear hs
    go_wp2_with fail
    refine (HR4.out _ HF6.out hB6).mono ?_
    rintro e w7 ⟨rfl, hs, hB7, _⟩
    clear hs
    go_wp2_with fail
    go_ret
    exact ⟨ret_bool (by simp), hB7⟩


/-! ### SourceEnds: the step from the walk to the statement -/
namespace sourceEnds
theorem own : ownKnob Try.prog.godebug = none := by kernel_rfl
set_option maxRecDepth 100000 in
theorem lifted (os : Os) (started : os.Started) (H : Type) (enc : TypeId × Value → H) :
    ReturnsInHanded {} Try.checked os 5 .any (Rows.sourceEndsSpec.pre6 enc Try.prog Try.f5 Rows.sourceEndsRow.domain false) (Rows.sourceEndsSpec.post enc Try.prog Try.f5 false true false false) := by
  refine returnsInHanded_of_change (C := Try.checked) own started (by kernel_rfl) Try.func5
    (ChangeSpec.witness6 (enc := enc) (C := Try.checked) false ⟨#[], #[.string ByteArray.empty, .int .i64 0], []⟩ 8 (by kernel_rfl) (by kernel_rfl) (by kernel_rfl) (by kernel_rfl)) ?_
  intro W base args ds gs before hval0 hW hcnd _
  have hval : ∀ (j : Nat) t v, Try.f5.params[j]? = some t → args[j]? = some v → Value.okWide Try.prog W .any base t v := hval0
  have hW' := hW
  obtain ⟨p, q, hA0, hV, rfl, hfz, hnd⟩ := hW
  have hA : DataW.TrodAll enc Try.prog W 0 (fun _ => true) true Try.f5.params.toList args.toList ds p := hA0
  rw [Try.params5] at hA hval
  obtain ⟨v0, vs0, d0, ds0, p0, q0, hargs, rfl, rfl, h0, r0⟩ := trodAll_cons hA
  obtain ⟨v1, vs1, d1, ds1, p1, q1, rfl, rfl, rfl, h1, r1⟩ := trodAll_cons r0
  obtain ⟨rfl, rfl, rfl⟩ := trodAll_nil r1
  obtain rfl : args = #[v0, v1] := by cases args; simp_all
  obtain ⟨rfl, rfl⟩ := trodVars_none hV
  obtain ⟨a0, rfl, rfl, rfl, w0⟩ := open_string Try.underlying9 (hval 0 9 v0 rfl rfl) h0
  obtain ⟨a1, rfl, rfl, rfl, w1⟩ := open_int Try.underlying3 (hval 1 3 v1 rfl rfl) h1
  clear hA0 hval0
  simp only [List.append_nil] at hW'
  refine (walkSourceEnds a0 a1 w0 (bounds_i64 w1) W).mono fun e W' ⟨he, bel⟩ => ?_
  subst he
  exact ⟨_, rfl, _, _, _, [], [], [], hW', trodAll_mk1 (shut_bool Try.underlying4 _), (trodAll_cons_mk (shut_string Try.underlying9 w0) (trodAll_cons_mk (shut_int Try.underlying3 w1) trodAll_mk0)), rfl, bel.frame _, fun h => by cases h⟩
theorem over : Rows.sourceEndsRow.holds Try.pinned (OpenSpec.ofChange Rows.sourceEndsSpec) :=
  OpenClaim.holds_of_wide 5 Try.f5 rfl rfl rfl rfl rfl rfl rfl ⟨rfl, rfl, rfl, rfl, rfl⟩ rfl rfl rfl rfl rfl (by kernel_rfl) Try.func5 (by kernel_rfl)
    (of_decide_eq_true (by kernel_rfl)) (by unfold Func.isWrapper; first | (rw [if_pos (by decide +kernel)]; kernel_rfl) | (rw [if_neg (by decide +kernel)]; exact ⟨rfl, rfl⟩))
    (fun os started H enc _ => lifted os started H enc)
/-- THE STATEMENT. -/
theorem proved : Rows.SourceEndsSaid := over
end sourceEnds
end Go.Proofs.Ythhdiibknfcnpab
