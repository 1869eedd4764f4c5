/- Of every list (of more than the sizes that are named the law asks only for the fixed answers): Encode and Tbs answer as the reference. No condition but the form of the row, and that the library's tables read as their initialisers lay them (the card ties that to the program). -/
import Derived.Test.YtiecbagejdcafaaGreatDoorK5
import Derived.Test.YtiecbagejdcafaaGreatDoorK1
import Derived.Test.YtiecbagejdcafaaGreatDoorW4
import Derived.Test.YtiecbagejdcafaaGreatDoorRows
import Derived.WalkKit
import Derived.ProofKit
import Derived.OpenShut
import Derived.ShutString
import Derived.ChangeOld
import Derived.Below
import Derived.Carry
namespace Go.Proofs.YtiecbagejdcafaaGreatDoor
open Go.ChangeShapes Go.WideShapes Go.ChangeAt Go.RowKit
open Go.ChangeMaps (open_string shut_string)
set_option linter.unusedVariables false
open Go.PlainAid in
set_option maxRecDepth 100000 in
set_option maxHeartbeats 16000000 in
theorem walkEncodeLists (a0 : CrlV) (e0 : CrlR) (cp0 : CrlCap a0 e0) (el0 : a0.Fits) (w : World) (ca0 : CameCrl w a0 e0) (hTab : Tab w) :
  Calls Tryz.prog 3 #[crlV a0 e0] w fun e w' => e = .returned (.bool true) ∧ Below w.heap.size w w' := by
 have HK0 : Hid (Row (w.alloc (.cells #[.bool a0.v2, .slice e0.oa a0.alg.length e0.ca, .slice e0.oi a0.issuer.length e0.ci, .string a0.this, .string a0.next, .slice e0.oe a0.entries.length e0.ce, .slice e0.ox a0.exts.length e0.cx, .string a0.sig] 27)) w.heap.size 27 [.bool a0.v2, .slice e0.oa a0.alg.length e0.ca, .slice e0.oi a0.issuer.length e0.ci, .string a0.this, .string a0.next, .slice e0.oe a0.entries.length e0.ce, .slice e0.ox a0.exts.length e0.cx, .string a0.sig]) := Lib.hid (Row.new w _ [.bool a0.v2, .slice e0.oa a0.alg.length e0.ca, .slice e0.oi a0.issuer.length e0.ci, .string a0.this, .string a0.next, .slice e0.oe a0.entries.length e0.ce, .slice e0.ox a0.exts.length e0.cx, .string a0.sig])
 have HB0 : Hid (Below w.heap.size w (w.alloc (.cells #[.bool a0.v2, .slice e0.oa a0.alg.length e0.ca, .slice e0.oi a0.issuer.length e0.ci, .string a0.this, .string a0.next, .slice e0.oe a0.entries.length e0.ce, .slice e0.ox a0.exts.length e0.cx, .string a0.sig] 27))) := Lib.hid ((Below.refl _ _).alloc (Nat.le_refl _) _)
 have HT := Lib.hid hTab
 have HC := Lib.hid ca0
 clear hTab ca0
 unfold crlV
 go_enter Tryz.func3, Tryz.ntmps3
 go_upto_region 1 with (fail)
 generalize (w.alloc (.cells #[.bool a0.v2, .slice e0.oa a0.alg.length e0.ca, .slice e0.oi a0.issuer.length e0.ci, .string a0.this, .string a0.next, .slice e0.oe a0.entries.length e0.ce, .slice e0.ox a0.exts.length e0.cx, .string a0.sig] 27)) = w1 at *
 have HB : Hid (Below w1.heap.size w1 w1) := Lib.hid (Below.refl _ _)
 go_wp2_with fail
 refine (awake19_any encSpec w1 (HT.out.on HB0.out)).mono ?_
 rintro e w2 ⟨rfl, hb9⟩
 replace HB := Lib.hid (HB.out.trans (hb9.mono HB.out.size))
 clear hb9 
 have z00 : w2.cell? ⟨w.heap.size, 0, none⟩ = some (.bool a0.v2) := (HK0.out.below HB.out HK0.out.lt).cell 0
 have z01 : w2.cell? ⟨w.heap.size, 1, none⟩ = some (.slice e0.oa a0.alg.length e0.ca) := (HK0.out.below HB.out HK0.out.lt).cell 1
 have z02 : w2.cell? ⟨w.heap.size, 2, none⟩ = some (.slice e0.oi a0.issuer.length e0.ci) := (HK0.out.below HB.out HK0.out.lt).cell 2
 have z03 : w2.cell? ⟨w.heap.size, 3, none⟩ = some (.string a0.this) := (HK0.out.below HB.out HK0.out.lt).cell 3
 have z04 : w2.cell? ⟨w.heap.size, 4, none⟩ = some (.string a0.next) := (HK0.out.below HB.out HK0.out.lt).cell 4
 have z05 : w2.cell? ⟨w.heap.size, 5, none⟩ = some (.slice e0.oe a0.entries.length e0.ce) := (HK0.out.below HB.out HK0.out.lt).cell 5
 have z06 : w2.cell? ⟨w.heap.size, 6, none⟩ = some (.slice e0.ox a0.exts.length e0.cx) := (HK0.out.below HB.out HK0.out.lt).cell 6
 have z07 : w2.cell? ⟨w.heap.size, 7, none⟩ = some (.string a0.sig) := (HK0.out.below HB.out HK0.out.lt).cell 7
 have HG := Lib.hid (refGreat19_any a0 e0 cp0 w2 (HC.out.below (HB0.out.trans (HB.out.mono HB0.out.size))))
 cases hgr : greatC a0 with
 |true =>
  rw [hgr] at HG
  go_wp2_with fail
  refine (HG.out).mono ?_
  rintro e w3 ⟨rfl, hb9⟩
  replace HB := Lib.hid (HB.out.trans (hb9.mono HB.out.size))
  clear hb9 HG z00 z01 z02 z03 z04 z05 z06 z07
  go_wp2_with fail
  refine (awake19_any encSpec w3 (HT.out.on (HB0.out.trans (HB.out.mono HB0.out.size)))).mono ?_
  rintro e w4 ⟨rfl, hb9⟩
  replace HB := Lib.hid (HB.out.trans (hb9.mono HB.out.size))
  clear hb9 
  go_wp2
  go_returns
  exact ⟨rfl, HB0.out.trans (HB.out.mono HB0.out.size)⟩
 |false =>
  have HS := Lib.hid (small_of el0 hgr)
  rw [hgr] at HG
  go_wp2_with fail
  refine (HG.out).mono ?_
  rintro e w3 ⟨rfl, hb9⟩
  replace HB := Lib.hid (HB.out.trans (hb9.mono HB.out.size))
  clear hb9 HG z00 z01 z02 z03 z04 z05 z06 z07
  have z00 : w3.cell? ⟨w.heap.size, 0, none⟩ = some (.bool a0.v2) := (HK0.out.below HB.out HK0.out.lt).cell 0
  have z01 : w3.cell? ⟨w.heap.size, 1, none⟩ = some (.slice e0.oa a0.alg.length e0.ca) := (HK0.out.below HB.out HK0.out.lt).cell 1
  have z02 : w3.cell? ⟨w.heap.size, 2, none⟩ = some (.slice e0.oi a0.issuer.length e0.ci) := (HK0.out.below HB.out HK0.out.lt).cell 2
  have z03 : w3.cell? ⟨w.heap.size, 3, none⟩ = some (.string a0.this) := (HK0.out.below HB.out HK0.out.lt).cell 3
  have z04 : w3.cell? ⟨w.heap.size, 4, none⟩ = some (.string a0.next) := (HK0.out.below HB.out HK0.out.lt).cell 4
  have z05 : w3.cell? ⟨w.heap.size, 5, none⟩ = some (.slice e0.oe a0.entries.length e0.ce) := (HK0.out.below HB.out HK0.out.lt).cell 5
  have z06 : w3.cell? ⟨w.heap.size, 6, none⟩ = some (.slice e0.ox a0.exts.length e0.cx) := (HK0.out.below HB.out HK0.out.lt).cell 6
  have z07 : w3.cell? ⟨w.heap.size, 7, none⟩ = some (.string a0.sig) := (HK0.out.below HB.out HK0.out.lt).cell 7
  have H1 := Lib.hid (encSpec.encode a0 e0 HS.out el0 cp0 w3 (HT.out.on (HB0.out.trans (HB.out.mono HB0.out.size))) (HC.out.below (HB0.out.trans (HB.out.mono HB0.out.size))))
  generalize hCS : crlS a0 = CS at *
  generalize hTE : tbsE a0 = TE at *
  go_wp2_with fail
  refine (H1.out).mono ?_
  rintro e w4 ⟨rfl, hb9⟩
  replace HB := Lib.hid (HB.out.trans (hb9.mono HB.out.size))
  clear hb9 H1 z00 z01 z02 z03 z04 z05 z06 z07
  have z00 : w4.cell? ⟨w.heap.size, 0, none⟩ = some (.bool a0.v2) := (HK0.out.below HB.out HK0.out.lt).cell 0
  have z01 : w4.cell? ⟨w.heap.size, 1, none⟩ = some (.slice e0.oa a0.alg.length e0.ca) := (HK0.out.below HB.out HK0.out.lt).cell 1
  have z02 : w4.cell? ⟨w.heap.size, 2, none⟩ = some (.slice e0.oi a0.issuer.length e0.ci) := (HK0.out.below HB.out HK0.out.lt).cell 2
  have z03 : w4.cell? ⟨w.heap.size, 3, none⟩ = some (.string a0.this) := (HK0.out.below HB.out HK0.out.lt).cell 3
  have z04 : w4.cell? ⟨w.heap.size, 4, none⟩ = some (.string a0.next) := (HK0.out.below HB.out HK0.out.lt).cell 4
  have z05 : w4.cell? ⟨w.heap.size, 5, none⟩ = some (.slice e0.oe a0.entries.length e0.ce) := (HK0.out.below HB.out HK0.out.lt).cell 5
  have z06 : w4.cell? ⟨w.heap.size, 6, none⟩ = some (.slice e0.ox a0.exts.length e0.cx) := (HK0.out.below HB.out HK0.out.lt).cell 6
  have z07 : w4.cell? ⟨w.heap.size, 7, none⟩ = some (.string a0.sig) := (HK0.out.below HB.out HK0.out.lt).cell 7
  have H2 := Lib.hid (refEncode_any a0 e0 HS.out cp0 w4 (HC.out.below (HB0.out.trans (HB.out.mono HB0.out.size))))
  rw [hCS, hTE] at H2
  go_wp2_with fail
  refine (H2.out).mono ?_
  rintro e w5 ⟨rfl, hb9⟩
  replace HB := Lib.hid (HB.out.trans (hb9.mono HB.out.size))
  clear hb9 H2 hCS z00 z01 z02 z03 z04 z05 z06 z07
  have z00 : w5.cell? ⟨w.heap.size, 0, none⟩ = some (.bool a0.v2) := (HK0.out.below HB.out HK0.out.lt).cell 0
  have z01 : w5.cell? ⟨w.heap.size, 1, none⟩ = some (.slice e0.oa a0.alg.length e0.ca) := (HK0.out.below HB.out HK0.out.lt).cell 1
  have z02 : w5.cell? ⟨w.heap.size, 2, none⟩ = some (.slice e0.oi a0.issuer.length e0.ci) := (HK0.out.below HB.out HK0.out.lt).cell 2
  have z03 : w5.cell? ⟨w.heap.size, 3, none⟩ = some (.string a0.this) := (HK0.out.below HB.out HK0.out.lt).cell 3
  have z04 : w5.cell? ⟨w.heap.size, 4, none⟩ = some (.string a0.next) := (HK0.out.below HB.out HK0.out.lt).cell 4
  have z05 : w5.cell? ⟨w.heap.size, 5, none⟩ = some (.slice e0.oe a0.entries.length e0.ce) := (HK0.out.below HB.out HK0.out.lt).cell 5
  have z06 : w5.cell? ⟨w.heap.size, 6, none⟩ = some (.slice e0.ox a0.exts.length e0.cx) := (HK0.out.below HB.out HK0.out.lt).cell 6
  have z07 : w5.cell? ⟨w.heap.size, 7, none⟩ = some (.string a0.sig) := (HK0.out.below HB.out HK0.out.lt).cell 7
  have H3 := Lib.hid (encSpec.tbs a0 e0 HS.out el0 cp0 w5 (HT.out.on (HB0.out.trans (HB.out.mono HB0.out.size))) (HC.out.below (HB0.out.trans (HB.out.mono HB0.out.size))))
  generalize hTS : tbsS a0 = TS at *
  rw [hTE] at H3
  go_wp2_with fail
  refine (H3.out).mono ?_
  rintro e w6 ⟨rfl, hb9⟩
  replace HB := Lib.hid (HB.out.trans (hb9.mono HB.out.size))
  clear hb9 H3 z00 z01 z02 z03 z04 z05 z06 z07
  have z00 : w6.cell? ⟨w.heap.size, 0, none⟩ = some (.bool a0.v2) := (HK0.out.below HB.out HK0.out.lt).cell 0
  have z01 : w6.cell? ⟨w.heap.size, 1, none⟩ = some (.slice e0.oa a0.alg.length e0.ca) := (HK0.out.below HB.out HK0.out.lt).cell 1
  have z02 : w6.cell? ⟨w.heap.size, 2, none⟩ = some (.slice e0.oi a0.issuer.length e0.ci) := (HK0.out.below HB.out HK0.out.lt).cell 2
  have z03 : w6.cell? ⟨w.heap.size, 3, none⟩ = some (.string a0.this) := (HK0.out.below HB.out HK0.out.lt).cell 3
  have z04 : w6.cell? ⟨w.heap.size, 4, none⟩ = some (.string a0.next) := (HK0.out.below HB.out HK0.out.lt).cell 4
  have z05 : w6.cell? ⟨w.heap.size, 5, none⟩ = some (.slice e0.oe a0.entries.length e0.ce) := (HK0.out.below HB.out HK0.out.lt).cell 5
  have z06 : w6.cell? ⟨w.heap.size, 6, none⟩ = some (.slice e0.ox a0.exts.length e0.cx) := (HK0.out.below HB.out HK0.out.lt).cell 6
  have z07 : w6.cell? ⟨w.heap.size, 7, none⟩ = some (.string a0.sig) := (HK0.out.below HB.out HK0.out.lt).cell 7
  have H4 := Lib.hid (refTbs_any a0 e0 HS.out cp0 w6 (HC.out.below (HB0.out.trans (HB.out.mono HB0.out.size))))
  rw [hTS, hTE] at H4
  go_wp2_with fail
  refine (H4.out).mono ?_
  rintro e w7 ⟨rfl, hb9⟩
  replace HB := Lib.hid (HB.out.trans (hb9.mono HB.out.size))
  clear hb9 H4 hTS hTE z00 z01 z02 z03 z04 z05 z06 z07
  go_wp2
  go_returns
  exact ⟨rfl, HB0.out.trans (HB.out.mono HB0.out.size)⟩


/-! ### EncodeLists: the step from the walk to the statement -/
namespace encodeLists
theorem own : ownKnob Tryz.prog.godebug = none := by kernel_rfl
theorem laidOut : laidOutB Tryz.prog = true := by kernel_rfl
set_option maxRecDepth 100000 in
theorem laid_met (os : Os) : laidMet Tryz.prog Rows.encodeListsRow.laid ((laidWorld os).forCall (fun _ _ => 0) ⟨#[], #[.agg #[.bool false, .slice none 0 0, .slice none 0 0, .string ByteArray.empty, .string ByteArray.empty, .slice none 0 0, .slice none 0 0, .string ByteArray.empty]], []⟩).memory :=
 laidMet_of_run' 8 (by kernel_rfl) (by kernel_rfl)
theorem reads (os : Os) {H : Type} (enc : TypeId × Value → H) : ∃ places, DataW.whole enc Tryz.prog ((laidWorld os).forCall (fun _ _ => 0) ⟨#[], #[.agg #[.bool false, .slice none 0 0, .slice none 0 0, .string ByteArray.empty, .string ByteArray.empty, .slice none 0 0, .slice none 0 0, .string ByteArray.empty]], []⟩).memory Tryz.f3.params.toList Rows.encodeListsSpec.vars false #[.agg #[.bool false, .slice none 0 0, .slice none 0 0, .string ByteArray.empty, .string ByteArray.empty, .slice none 0 0, .slice none 0 0, .string ByteArray.empty]].toList 8 = some ([.agg [.lit (.bool false), .nil, .nil, .lit (.string []), .lit (.string []), .nil, .nil, .lit (.string [])]], [], places) :=
 ⟨[], by kernel_rfl⟩
set_option maxRecDepth 100000 in
theorem lifted (os : Os) (started : os.Started) (H : Type) (enc : TypeId × Value → H) (F : Stop.Interp) :
  ReturnsInHanded {} Tryz.checked os 3 .any ((OpenSpec.ofChange Rows.encodeListsSpec).preRow enc Tryz.prog Tryz.f3 Rows.encodeListsRow.domain false Rows.encodeListsRow.laid) (((OpenSpec.ofChange Rows.encodeListsSpec).at F).post enc Tryz.prog Tryz.f3 false true false false) := by
 obtain ⟨places, hx⟩ := reads os enc
 refine returnsInHanded_of_row (C := Tryz.checked) (s := OpenSpec.ofChange Rows.encodeListsSpec) own started (by kernel_rfl) Tryz.func3
  (witness_row_at (enc := enc) (C := Tryz.checked) false (laidWorld os) #[.agg #[.bool false, .slice none 0 0, .slice none 0 0, .string ByteArray.empty, .string ByteArray.empty, .slice none 0 0, .slice none 0 0, .string ByteArray.empty]] rfl (by kernel_rfl) (by kernel_rfl) (by kernel_rfl)
   (OpenSpec.preRow_of_cond 8 hx (by kernel_rfl) (fun k hk => by cases hk) (by kernel_rfl) (laid_met os))) ?_
 intro W base args ds gs before hval0 hW _ _ _ hL _ _
 have hval : ∀ (j : Nat) t v, Tryz.f3.params[j]? = some t → args[j]? = some v → Value.okWide Tryz.prog W .any base t v := hval0
 have hW' := hW
 obtain ⟨p, q, hA0, hV, rfl, hfz, hnd⟩ := hW
 have hA : DataW.TrodAll enc Tryz.prog W 0 (fun _ => true) true Tryz.f3.params.toList args.toList ds p := hA0
 rw [Tryz.params3] at hA hval
 obtain ⟨v0, vs0, d0, ds0, p0, q0, hargs, rfl, rfl, h0, r0⟩ := trodAll_cons hA
 obtain ⟨rfl, rfl, rfl⟩ := trodAll_nil r0
 obtain rfl : args = #[v0] := by cases args; simp_all
 obtain ⟨rfl, rfl⟩ := trodVars_none hV
 have k0 := h0
 have lt0 : ∀ x ∈ p0, x.block < W.heap.size := by obtain ⟨m, hm⟩ := k0; exact DataW.trod_lt m _ _ _ hm
 obtain ⟨a0, e0, rfl, cp0, ca0, el0⟩ := came_crl crlTypes (hval 0 27 v0 rfl rfl) h0
 clear hA0 hval0
 refine (walkEncodeLists a0 e0 cp0 el0 W ca0 (tabOf hL)).mono fun e W' ⟨he, bel⟩ => ?_
 subst he
 exact ⟨_, rfl, _, _, _, [], _, [], hW', trodAll_mk1 (shut_bool Tryz.underlying4 _), (trodAll_cons_mk (Below.trod laidOut (by kernel_rfl) (of_decide_eq_true (by kernel_rfl)) k0 bel lt0) trodAll_mk0), rfl, bel.frame _, fun h => by cases h⟩
theorem said : Rows.EncodeListsSaid :=
 OpenClaim.holds_of_cond 3 Tryz.f3 rfl rfl rfl rfl rfl rfl rfl ⟨rfl, rfl, rfl, rfl, rfl⟩ rfl rfl rfl rfl rfl (by kernel_rfl) Tryz.func3 (by kernel_rfl)
  (of_decide_eq_true (by kernel_rfl)) (by unfold Func.isWrapper; first | (rw [if_pos (by decide +kernel)]; kernel_rfl) | (rw [if_neg (by decide +kernel)]; exact ⟨rfl, rfl⟩))
  (fun os started H enc _ F => by rw [OpenClaim.pre_eq_preRow]; exact lifted os started H enc F)
theorem noStandIns : (#[27].all fun t => !Tryz.prog.wantsStandIn t) = true := by kernel_rfl
theorem plain (f : FuncId) (fn : Func) (hf : Tryz.pinned.checked.prog.funcNamed "gantlet/gantletlaw19.EncodeLists" = some f) (hfn : Tryz.pinned.checked.prog.funcs[f]? = some fn) :
  false = Tryz.pinned.checked.prog.looks [] ∧ ∀ (j : Nat) t, fn.params[j]? = some t → Tryz.pinned.checked.prog.wantsStandIn t = false := by
 obtain rfl : f = 3 := Option.some.inj ((show Tryz.prog.funcNamed "gantlet/gantletlaw19.EncodeLists" = some 3 by kernel_rfl).symm.trans hf) |>.symm
 obtain rfl : fn = Tryz.f3 := (Option.some.inj (Tryz.func3.symm.trans hfn)).symm
 refine ⟨by kernel_rfl, fun j t ht => ?_⟩
 rw [Tryz.params3] at ht
 have h := Array.all_eq_true_iff_forall_mem.1 noStandIns t (Array.mem_of_getElem? ht)
 show Tryz.prog.wantsStandIn t = false
 simpa using h
theorem proved : Rows.EncodeListsCardSaid :=
 Claim7.holds_tied_plain_at .later [] _ _ _ _ said (fun _ h => by cases h) (by kernel_rfl) (fun _ h => by cases h) encodeLists_row_tie rfl ⟨rfl, rfl⟩ (by kernel_rfl) rfl plain (by kernel_rfl)
end encodeLists
end Go.Proofs.YtiecbagejdcafaaGreatDoor
