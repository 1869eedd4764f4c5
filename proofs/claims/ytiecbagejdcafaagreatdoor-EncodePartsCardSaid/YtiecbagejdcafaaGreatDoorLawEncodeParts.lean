/- Of every list, head and content (of more than the sizes that are named the law asks only for the fixed answers): Name, Exts and Element answer as the reference. No condition but the form of the row, and that the library's tables read as their initialisers lay them (the card ties that to the program). -/
import Derived.Test.YtiecbagejdcafaaGreatDoorK5
import Derived.Test.YtiecbagejdcafaaGreatDoorK1
import Derived.Test.YtiecbagejdcafaaGreatDoorW4
import Derived.Test.YtiecbagejdcafaaGreatDoorC1
import Derived.Test.YtiecbagejdcafaaGreatDoorRows
import Derived.WalkKit
import Derived.ProofKit
import Derived.OpenShut
import Derived.ShutString
import Derived.ChangeOld
import Derived.Below
import Derived.Carry
namespace Go.Proofs.YtiecbagejdcafaaGreatDoor
open Go.ChangeShapes Go.WideShapes Go.ChangeAt Go.RowKit
open Go.ChangeMaps (open_string shut_string)
set_option linter.unusedVariables false
open Go.PlainAid in
set_option maxRecDepth 100000 in
set_option maxHeartbeats 16000000 in
theorem walkEncodeParts (a0 : CrlV) (e0 : CrlR) (ha1 hb1 : Int) (hc1 : Bool) (hd1 : Int) (a2 : ByteArray) (cp0 : CrlCap a0 e0) (el0 : a0.Fits) (ra1 : InI ha1) (rb1 : InI hb1) (rd1 : InI hd1) (b2 : a2.size ≤ maxLen) (w : World) (ca0 : CameCrl w a0 e0) (hTab : Tab w) :
  Calls Tryz.prog 4 #[crlV a0 e0, .agg #[.int .i64 ha1, .int .i64 hb1, .bool hc1, .int .i64 hd1], .string a2] w fun e w' => e = .returned (.bool true) ∧ Below w.heap.size w w' := by
 have HK0 : Hid (Row ((w.alloc (.cells #[.bool a0.v2, .slice e0.oa a0.alg.length e0.ca, .slice e0.oi a0.issuer.length e0.ci, .string a0.this, .string a0.next, .slice e0.oe a0.entries.length e0.ce, .slice e0.ox a0.exts.length e0.cx, .string a0.sig] 27)).alloc (.cells #[.int .i64 ha1, .int .i64 hb1, .bool hc1, .int .i64 hd1] 36)) w.heap.size 27 [.bool a0.v2, .slice e0.oa a0.alg.length e0.ca, .slice e0.oi a0.issuer.length e0.ci, .string a0.this, .string a0.next, .slice e0.oe a0.entries.length e0.ce, .slice e0.ox a0.exts.length e0.cx, .string a0.sig]) := Lib.hid ((Row.new w _ [.bool a0.v2, .slice e0.oa a0.alg.length e0.ca, .slice e0.oi a0.issuer.length e0.ci, .string a0.this, .string a0.next, .slice e0.oe a0.entries.length e0.ce, .slice e0.ox a0.exts.length e0.cx, .string a0.sig]).alloc _)
 have HK1 : Hid (Row ((w.alloc (.cells #[.bool a0.v2, .slice e0.oa a0.alg.length e0.ca, .slice e0.oi a0.issuer.length e0.ci, .string a0.this, .string a0.next, .slice e0.oe a0.entries.length e0.ce, .slice e0.ox a0.exts.length e0.cx, .string a0.sig] 27)).alloc (.cells #[.int .i64 ha1, .int .i64 hb1, .bool hc1, .int .i64 hd1] 36)) (w.heap.size + 1) 36 [.int .i64 ha1, .int .i64 hb1, .bool hc1, .int .i64 hd1]) := Lib.hid (by
  have h := Row.new (w.alloc (.cells #[.bool a0.v2, .slice e0.oa a0.alg.length e0.ca, .slice e0.oi a0.issuer.length e0.ci, .string a0.this, .string a0.next, .slice e0.oe a0.entries.length e0.ce, .slice e0.ox a0.exts.length e0.cx, .string a0.sig] 27)) 36 [.int .i64 ha1, .int .i64 hb1, .bool hc1, .int .i64 hd1]
  have s : (w.alloc (.cells #[.bool a0.v2, .slice e0.oa a0.alg.length e0.ca, .slice e0.oi a0.issuer.length e0.ci, .string a0.this, .string a0.next, .slice e0.oe a0.entries.length e0.ce, .slice e0.ox a0.exts.length e0.cx, .string a0.sig] 27)).heap.size = w.heap.size + 1 := by simp
  rw [s] at h
  exact h)
 have HB0 : Hid (Below w.heap.size w ((w.alloc (.cells #[.bool a0.v2, .slice e0.oa a0.alg.length e0.ca, .slice e0.oi a0.issuer.length e0.ci, .string a0.this, .string a0.next, .slice e0.oe a0.entries.length e0.ce, .slice e0.ox a0.exts.length e0.cx, .string a0.sig] 27)).alloc (.cells #[.int .i64 ha1, .int .i64 hb1, .bool hc1, .int .i64 hd1] 36))) := Lib.hid (by
  have b := (Below.refl w.heap.size w).alloc (Nat.le_refl _) (.cells #[.bool a0.v2, .slice e0.oa a0.alg.length e0.ca, .slice e0.oi a0.issuer.length e0.ci, .string a0.this, .string a0.next, .slice e0.oe a0.entries.length e0.ce, .slice e0.ox a0.exts.length e0.cx, .string a0.sig] 27)
  exact b.alloc b.size _)
 have HT := Lib.hid hTab
 have HC := Lib.hid ca0
 clear hTab ca0
 unfold crlV
 go_enter Tryz.func4, Tryz.ntmps4
 go_upto_region 1 with (fail)
 generalize ((w.alloc (.cells #[.bool a0.v2, .slice e0.oa a0.alg.length e0.ca, .slice e0.oi a0.issuer.length e0.ci, .string a0.this, .string a0.next, .slice e0.oe a0.entries.length e0.ce, .slice e0.ox a0.exts.length e0.cx, .string a0.sig] 27)).alloc (.cells #[.int .i64 ha1, .int .i64 hb1, .bool hc1, .int .i64 hd1] 36)) = w1 at *
 have HB : Hid (Below w1.heap.size w1 w1) := Lib.hid (Below.refl _ _)
 go_wp2_with fail
 refine (awake19_any encSpec w1 (HT.out.on HB0.out)).mono ?_
 rintro e w2 ⟨rfl, hb9⟩
 replace HB := Lib.hid (HB.out.trans (hb9.mono HB.out.size))
 clear hb9 
 have z00 : w2.cell? ⟨w.heap.size, 0, none⟩ = some (.bool a0.v2) := (HK0.out.below HB.out HK0.out.lt).cell 0
 have z01 : w2.cell? ⟨w.heap.size, 1, none⟩ = some (.slice e0.oa a0.alg.length e0.ca) := (HK0.out.below HB.out HK0.out.lt).cell 1
 have z02 : w2.cell? ⟨w.heap.size, 2, none⟩ = some (.slice e0.oi a0.issuer.length e0.ci) := (HK0.out.below HB.out HK0.out.lt).cell 2
 have z03 : w2.cell? ⟨w.heap.size, 3, none⟩ = some (.string a0.this) := (HK0.out.below HB.out HK0.out.lt).cell 3
 have z04 : w2.cell? ⟨w.heap.size, 4, none⟩ = some (.string a0.next) := (HK0.out.below HB.out HK0.out.lt).cell 4
 have z05 : w2.cell? ⟨w.heap.size, 5, none⟩ = some (.slice e0.oe a0.entries.length e0.ce) := (HK0.out.below HB.out HK0.out.lt).cell 5
 have z06 : w2.cell? ⟨w.heap.size, 6, none⟩ = some (.slice e0.ox a0.exts.length e0.cx) := (HK0.out.below HB.out HK0.out.lt).cell 6
 have z07 : w2.cell? ⟨w.heap.size, 7, none⟩ = some (.string a0.sig) := (HK0.out.below HB.out HK0.out.lt).cell 7
 have HG := Lib.hid (refGreat19_any a0 e0 cp0 w2 (HC.out.below (HB0.out.trans (HB.out.mono HB0.out.size))))
 cases hgr : greatC a0 with
 |true =>
  rw [hgr] at HG
  go_wp2_with fail
  refine (HG.out).mono ?_
  rintro e w3 ⟨rfl, hb9⟩
  replace HB := Lib.hid (HB.out.trans (hb9.mono HB.out.size))
  clear hb9 HG z00 z01 z02 z03 z04 z05 z06 z07
  go_wp2_with fail
  refine (awake19_any encSpec w3 (HT.out.on (HB0.out.trans (HB.out.mono HB0.out.size)))).mono ?_
  rintro e w4 ⟨rfl, hb9⟩
  replace HB := Lib.hid (HB.out.trans (hb9.mono HB.out.size))
  clear hb9 
  go_wp2
  go_returns
  exact ⟨rfl, HB0.out.trans (HB.out.mono HB0.out.size)⟩
 |false =>
  have HS := Lib.hid (small_of el0 hgr)
  rw [hgr] at HG
  by_cases hl : 300 < (a2.size : Int)
  ·clear HS
   go_wp2_with fail
   refine (HG.out).mono ?_
   rintro e w3 ⟨rfl, hb9⟩
   replace HB := Lib.hid (HB.out.trans (hb9.mono HB.out.size))
   clear hb9 HG z00 z01 z02 z03 z04 z05 z06 z07
   go_wp2_with fail
   refine (awake19_any encSpec w3 (HT.out.on (HB0.out.trans (HB.out.mono HB0.out.size)))).mono ?_
   rintro e w4 ⟨rfl, hb9⟩
   replace HB := Lib.hid (HB.out.trans (hb9.mono HB.out.size))
   clear hb9 
   go_wp2
   go_returns
   exact ⟨rfl, HB0.out.trans (HB.out.mono HB0.out.size)⟩
  ·go_wp2_with fail
   refine (HG.out).mono ?_
   rintro e w3 ⟨rfl, hb9⟩
   replace HB := Lib.hid (HB.out.trans (hb9.mono HB.out.size))
   clear hb9 HG z00 z01 z02 z03 z04 z05 z06 z07
   have z02 : w3.cell? ⟨w.heap.size, 2, none⟩ = some (.slice e0.oi a0.issuer.length e0.ci) := (HK0.out.below HB.out HK0.out.lt).cell 2
   have H1 := Lib.hid (encSpec.name e0.oi e0.ci a0.issuer HS.out.sets HS.out.attrs el0.attrs cp0.i w3 (HT.out.on (HB0.out.trans (HB.out.mono HB0.out.size))) (HC.out.below (HB0.out.trans (HB.out.mono HB0.out.size))).sets)
   go_wp2_with fail
   refine (H1.out).mono ?_
   rintro e w4 ⟨rfl, hb9⟩
   replace HB := Lib.hid (HB.out.trans (hb9.mono HB.out.size))
   clear hb9 H1 z02
   have z02 : w4.cell? ⟨w.heap.size, 2, none⟩ = some (.slice e0.oi a0.issuer.length e0.ci) := (HK0.out.below HB.out HK0.out.lt).cell 2
   have H2 := Lib.hid (refName_any e0.oi e0.ci a0.issuer HS.out.sets HS.out.attrs cp0.i w4 (HC.out.below (HB0.out.trans (HB.out.mono HB0.out.size))).sets)
   go_wp2_with fail
   refine (H2.out).mono ?_
   rintro e w5 ⟨rfl, hb9⟩
   replace HB := Lib.hid (HB.out.trans (hb9.mono HB.out.size))
   clear hb9 H2 z02
   have z06 : w5.cell? ⟨w.heap.size, 6, none⟩ = some (.slice e0.ox a0.exts.length e0.cx) := (HK0.out.below HB.out HK0.out.lt).cell 6
   have H3 := Lib.hid (encSpec.exts e0.ox e0.cx a0.exts HS.out.few HS.out.exts cp0.x w5 (HT.out.on (HB0.out.trans (HB.out.mono HB0.out.size))) (HC.out.below (HB0.out.trans (HB.out.mono HB0.out.size))).exts)
   go_wp2_with fail
   refine (H3.out).mono ?_
   rintro e w6 ⟨rfl, hb9⟩
   replace HB := Lib.hid (HB.out.trans (hb9.mono HB.out.size))
   clear hb9 H3 z06
   have z06 : w6.cell? ⟨w.heap.size, 6, none⟩ = some (.slice e0.ox a0.exts.length e0.cx) := (HK0.out.below HB.out HK0.out.lt).cell 6
   have H4 := Lib.hid (refExts_any e0.ox e0.cx a0.exts HS.out.few HS.out.exts cp0.x w6 (HC.out.below (HB0.out.trans (HB.out.mono HB0.out.size))).exts)
   go_wp2_with fail
   refine (H4.out).mono ?_
   rintro e w7 ⟨rfl, hb9⟩
   replace HB := Lib.hid (HB.out.trans (hb9.mono HB.out.size))
   clear hb9 H4 z06
   have h0 : w7.cell? ⟨w.heap.size + 1, 0, none⟩ = some (.int .i64 ha1) := (HK1.out.below HB.out HK1.out.lt).cell 0
   have h1 : w7.cell? ⟨w.heap.size + 1, 1, none⟩ = some (.int .i64 hb1) := (HK1.out.below HB.out HK1.out.lt).cell 1
   have h2 : w7.cell? ⟨w.heap.size + 1, 2, none⟩ = some (.bool hc1) := (HK1.out.below HB.out HK1.out.lt).cell 2
   have h3 : w7.cell? ⟨w.heap.size + 1, 3, none⟩ = some (.int .i64 hd1) := (HK1.out.below HB.out HK1.out.lt).cell 3
   have H5 := Lib.hid (encSpec.element ha1 hb1 hc1 hd1 a2 ra1 rb1 (by omega) w7)
   generalize nameS a0.issuer = NS at *
   generalize nameOk a0.issuer = NK at *
   generalize extsS a0.exts = XS at *
   generalize extsOk a0.exts = XK at *
   cases hid : idOk ha1 hb1 with
   |false =>
    rw [hid, if_neg (by decide)] at H5
    go_wp2_with fail
    refine (H5.out).mono ?_
    rintro e w8 ⟨rfl, hb9⟩
    replace HB := Lib.hid (HB.out.trans (hb9.mono HB.out.size))
    clear hb9 H5 h0 h1 h2 h3
    have h0 : w8.cell? ⟨w.heap.size + 1, 0, none⟩ = some (.int .i64 ha1) := (HK1.out.below HB.out HK1.out.lt).cell 0
    have h1 : w8.cell? ⟨w.heap.size + 1, 1, none⟩ = some (.int .i64 hb1) := (HK1.out.below HB.out HK1.out.lt).cell 1
    have h2 : w8.cell? ⟨w.heap.size + 1, 2, none⟩ = some (.bool hc1) := (HK1.out.below HB.out HK1.out.lt).cell 2
    have h3 : w8.cell? ⟨w.heap.size + 1, 3, none⟩ = some (.int .i64 hd1) := (HK1.out.below HB.out HK1.out.lt).cell 3
    have hno : ¬ (0 ≤ ha1 ∧ ha1 ≤ 3 ∧ 0 ≤ hb1 ∧ hb1 ≤ 268435455) := fun h => by rw [idOk_iff.2 h] at hid; cases hid
    clear hid
    have HF := Lib.hid (HB0.out.trans (HB.out.mono HB0.out.size))
    clear HK0 HK1 HC HT HB HB0 HS
    by_cases c0 : ha1 < 0
    ·clear hno
     go_wp2
     go_returns
     exact ⟨rfl, HF.out⟩
    ·by_cases c1 : 3 < ha1
     ·clear hno
      go_wp2
      go_returns
      exact ⟨rfl, HF.out⟩
     ·by_cases c2 : hb1 < 0
      ·clear hno
       go_wp2
       go_returns
       exact ⟨rfl, HF.out⟩
      ·have c3 : 268435455 < hb1 := by omega
       clear hno
       go_wp2
       go_returns
       exact ⟨rfl, HF.out⟩
   |true =>
    rw [hid, if_pos rfl] at H5
    have H6 := Lib.hid (fun W => refElement_any ha1 hb1 hc1 hd1 a2 (by omega) W)
    generalize hpS ha1 hb1 hc1 (a2.size : Int) ++ a2 = EL at *
    go_wp2_with fail
    refine (H5.out).mono ?_
    rintro e w8 ⟨rfl, hb9⟩
    replace HB := Lib.hid (HB.out.trans (hb9.mono HB.out.size))
    clear hb9 H5 h0 h1 h2 h3
    have h0 : w8.cell? ⟨w.heap.size + 1, 0, none⟩ = some (.int .i64 ha1) := (HK1.out.below HB.out HK1.out.lt).cell 0
    have h1 : w8.cell? ⟨w.heap.size + 1, 1, none⟩ = some (.int .i64 hb1) := (HK1.out.below HB.out HK1.out.lt).cell 1
    have h2 : w8.cell? ⟨w.heap.size + 1, 2, none⟩ = some (.bool hc1) := (HK1.out.below HB.out HK1.out.lt).cell 2
    have h3 : w8.cell? ⟨w.heap.size + 1, 3, none⟩ = some (.int .i64 hd1) := (HK1.out.below HB.out HK1.out.lt).cell 3
    obtain ⟨c0, c1, c2, c3⟩ := idOk_iff.1 hid
    have c0' : ¬ ha1 < 0 := by omega
    have c1' : ¬ 3 < ha1 := by omega
    have c2' : ¬ hb1 < 0 := by omega
    have c3' : ¬ 268435455 < hb1 := by omega
    clear hid
    go_wp2_with fail
    refine (H6.out _).mono ?_
    rintro e w9 ⟨rfl, hb9⟩
    replace HB := Lib.hid (HB.out.trans (hb9.mono HB.out.size))
    clear hb9 H6 h0 h1 h2 h3
    have HF := Lib.hid (HB0.out.trans (HB.out.mono HB0.out.size))
    clear HK0 HK1 HC HT HB HB0 HS
    go_wp2
    go_returns
    exact ⟨rfl, HF.out⟩


/-! ### EncodeParts: the step from the walk to the statement -/
namespace encodeParts
theorem own : ownKnob Tryz.prog.godebug = none := by kernel_rfl
theorem laidOut : laidOutB Tryz.prog = true := by kernel_rfl
set_option maxRecDepth 100000 in
theorem laid_met (os : Os) : laidMet Tryz.prog Rows.encodePartsRow.laid ((laidWorld os).forCall (fun _ _ => 0) ⟨#[], #[.agg #[.bool false, .slice none 0 0, .slice none 0 0, .string ByteArray.empty, .string ByteArray.empty, .slice none 0 0, .slice none 0 0, .string ByteArray.empty], .agg #[.int .i64 0, .int .i64 0, .bool false, .int .i64 0], .string ByteArray.empty], []⟩).memory :=
 laidMet_of_run' 8 (by kernel_rfl) (by kernel_rfl)
theorem reads (os : Os) {H : Type} (enc : TypeId × Value → H) : ∃ places, DataW.whole enc Tryz.prog ((laidWorld os).forCall (fun _ _ => 0) ⟨#[], #[.agg #[.bool false, .slice none 0 0, .slice none 0 0, .string ByteArray.empty, .string ByteArray.empty, .slice none 0 0, .slice none 0 0, .string ByteArray.empty], .agg #[.int .i64 0, .int .i64 0, .bool false, .int .i64 0], .string ByteArray.empty], []⟩).memory Tryz.f4.params.toList Rows.encodePartsSpec.vars false #[.agg #[.bool false, .slice none 0 0, .slice none 0 0, .string ByteArray.empty, .string ByteArray.empty, .slice none 0 0, .slice none 0 0, .string ByteArray.empty], .agg #[.int .i64 0, .int .i64 0, .bool false, .int .i64 0], .string ByteArray.empty].toList 8 = some ([.agg [.lit (.bool false), .nil, .nil, .lit (.string []), .lit (.string []), .nil, .nil, .lit (.string [])], .agg [.lit (.int .i64 0), .lit (.int .i64 0), .lit (.bool false), .lit (.int .i64 0)], .lit (.string [])], [], places) :=
 ⟨[], by kernel_rfl⟩
set_option maxRecDepth 100000 in
theorem lifted (os : Os) (started : os.Started) (H : Type) (enc : TypeId × Value → H) (F : Stop.Interp) :
  ReturnsInHanded {} Tryz.checked os 4 .any ((OpenSpec.ofChange Rows.encodePartsSpec).preRow enc Tryz.prog Tryz.f4 Rows.encodePartsRow.domain false Rows.encodePartsRow.laid) (((OpenSpec.ofChange Rows.encodePartsSpec).at F).post enc Tryz.prog Tryz.f4 false true false false) := by
 obtain ⟨places, hx⟩ := reads os enc
 refine returnsInHanded_of_row (C := Tryz.checked) (s := OpenSpec.ofChange Rows.encodePartsSpec) own started (by kernel_rfl) Tryz.func4
  (witness_row_at (enc := enc) (C := Tryz.checked) false (laidWorld os) #[.agg #[.bool false, .slice none 0 0, .slice none 0 0, .string ByteArray.empty, .string ByteArray.empty, .slice none 0 0, .slice none 0 0, .string ByteArray.empty], .agg #[.int .i64 0, .int .i64 0, .bool false, .int .i64 0], .string ByteArray.empty] rfl (by kernel_rfl) (by kernel_rfl) (by kernel_rfl)
   (OpenSpec.preRow_of_cond 8 hx (by kernel_rfl) (fun k hk => by cases hk) (by kernel_rfl) (laid_met os))) ?_
 intro W base args ds gs before hval0 hW _ _ _ hL _ _
 have hval : ∀ (j : Nat) t v, Tryz.f4.params[j]? = some t → args[j]? = some v → Value.okWide Tryz.prog W .any base t v := hval0
 have hW' := hW
 obtain ⟨p, q, hA0, hV, rfl, hfz, hnd⟩ := hW
 have hA : DataW.TrodAll enc Tryz.prog W 0 (fun _ => true) true Tryz.f4.params.toList args.toList ds p := hA0
 rw [Tryz.params4] at hA hval
 obtain ⟨v0, vs0, d0, ds0, p0, q0, hargs, rfl, rfl, h0, r0⟩ := trodAll_cons hA
 obtain ⟨v1, vs1, d1, ds1, p1, q1, rfl, rfl, rfl, h1, r1⟩ := trodAll_cons r0
 obtain ⟨v2, vs2, d2, ds2, p2, q2, rfl, rfl, rfl, h2, r2⟩ := trodAll_cons r1
 obtain ⟨rfl, rfl, rfl⟩ := trodAll_nil r2
 obtain rfl : args = #[v0, v1, v2] := by cases args; simp_all
 obtain ⟨rfl, rfl⟩ := trodVars_none hV
 have k0 := h0
 have lt0 : ∀ x ∈ p0, x.block < W.heap.size := by obtain ⟨m, hm⟩ := k0; exact DataW.trod_lt m _ _ _ hm
 obtain ⟨a0, e0, rfl, cp0, ca0, el0⟩ := came_crl crlTypes (hval 0 27 v0 rfl rfl) h0
 have k1 := h1
 have lt1 : ∀ x ∈ p1, x.block < W.heap.size := by obtain ⟨m, hm⟩ := k1; exact DataW.trod_lt m _ _ _ hm
 obtain ⟨ha1, hb1, hc1, hd1, rfl, ra1, rb1, rd1⟩ := came_head Tryz.underlying36 (by kernel_rfl) rfl rfl rfl rfl (by kernel_rfl) (by kernel_rfl) (by kernel_rfl) (by kernel_rfl) Tryz.underlying3 Tryz.underlying3 Tryz.underlying4 Tryz.underlying3 (hval 1 36 v1 rfl rfl) h1
 obtain ⟨a2, rfl, rfl, rfl, w2⟩ := open_string Tryz.underlying9 (hval 2 9 v2 rfl rfl) h2
 clear hA0 hval0
 refine (walkEncodeParts a0 e0 ha1 hb1 hc1 hd1 a2 cp0 el0 ra1 rb1 rd1 w2 W ca0 (tabOf hL)).mono fun e W' ⟨he, bel⟩ => ?_
 subst he
 exact ⟨_, rfl, _, _, _, [], _, [], hW', trodAll_mk1 (shut_bool Tryz.underlying4 _), (trodAll_cons_mk (Below.trod laidOut (by kernel_rfl) (of_decide_eq_true (by kernel_rfl)) k0 bel lt0) (trodAll_cons_mk (Below.trod laidOut (by kernel_rfl) (of_decide_eq_true (by kernel_rfl)) k1 bel lt1) (trodAll_cons_mk (shut_string Tryz.underlying9 w2) trodAll_mk0))), rfl, bel.frame _, fun h => by cases h⟩
theorem said : Rows.EncodePartsSaid :=
 OpenClaim.holds_of_cond 4 Tryz.f4 rfl rfl rfl rfl rfl rfl rfl ⟨rfl, rfl, rfl, rfl, rfl⟩ rfl rfl rfl rfl rfl (by kernel_rfl) Tryz.func4 (by kernel_rfl)
  (of_decide_eq_true (by kernel_rfl)) (by unfold Func.isWrapper; first | (rw [if_pos (by decide +kernel)]; kernel_rfl) | (rw [if_neg (by decide +kernel)]; exact ⟨rfl, rfl⟩))
  (fun os started H enc _ F => by rw [OpenClaim.pre_eq_preRow]; exact lifted os started H enc F)
theorem noStandIns : (#[27, 36, 9].all fun t => !Tryz.prog.wantsStandIn t) = true := by kernel_rfl
theorem plain (f : FuncId) (fn : Func) (hf : Tryz.pinned.checked.prog.funcNamed "gantlet/gantletlaw19.EncodeParts" = some f) (hfn : Tryz.pinned.checked.prog.funcs[f]? = some fn) :
  false = Tryz.pinned.checked.prog.looks [] ∧ ∀ (j : Nat) t, fn.params[j]? = some t → Tryz.pinned.checked.prog.wantsStandIn t = false := by
 obtain rfl : f = 4 := Option.some.inj ((show Tryz.prog.funcNamed "gantlet/gantletlaw19.EncodeParts" = some 4 by kernel_rfl).symm.trans hf) |>.symm
 obtain rfl : fn = Tryz.f4 := (Option.some.inj (Tryz.func4.symm.trans hfn)).symm
 refine ⟨by kernel_rfl, fun j t ht => ?_⟩
 rw [Tryz.params4] at ht
 have h := Array.all_eq_true_iff_forall_mem.1 noStandIns t (Array.mem_of_getElem? ht)
 show Tryz.prog.wantsStandIn t = false
 simpa using h
theorem proved : Rows.EncodePartsCardSaid :=
 Claim7.holds_tied_plain_at .later [] _ _ _ _ said (fun _ h => by cases h) (by kernel_rfl) (fun _ h => by cases h) encodeParts_row_tie rfl ⟨rfl, rfl⟩ (by kernel_rfl) rfl plain (by kernel_rfl)
end encodeParts
end Go.Proofs.YtiecbagejdcafaaGreatDoor
