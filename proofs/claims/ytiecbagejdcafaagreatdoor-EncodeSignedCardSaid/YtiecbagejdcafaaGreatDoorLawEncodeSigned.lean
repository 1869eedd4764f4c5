/- Of every list and every other signature (of more than the sizes that are named the law asks only for the fixed answers): what is signed does not hang on the signature; the list does. No condition but the form of the row, and that the library's tables read as their initialisers lay them (the card ties that to the program). -/
import Derived.Test.YtiecbagejdcafaaGreatDoorK5
import Derived.Test.YtiecbagejdcafaaGreatDoorK1
import Derived.Test.YtiecbagejdcafaaGreatDoorW4
import Derived.Test.YtiecbagejdcafaaGreatDoorRows
import Derived.WalkKit
import Derived.ProofKit
import Derived.OpenShut
import Derived.ShutString
import Derived.ChangeOld
import Derived.Below
import Derived.Carry
namespace Go.Proofs.YtiecbagejdcafaaGreatDoor
open Go.ChangeShapes Go.WideShapes Go.ChangeAt Go.RowKit
open Go.ChangeMaps (open_string shut_string)
set_option linter.unusedVariables false
open Go.PlainAid in
set_option maxRecDepth 100000 in
set_option maxHeartbeats 16000000 in
theorem walkEncodeSigned (a0 : CrlV) (e0 : CrlR) (a1 : ByteArray) (cp0 : CrlCap a0 e0) (el0 : a0.Fits) (b1 : a1.size ≤ maxLen) (w : World) (ca0 : CameCrl w a0 e0) (hTab : Tab w) :
  Calls Tryz.prog 7 #[crlV a0 e0, .string a1] w fun e w' => e = .returned (.bool true) ∧ Below w.heap.size w w' := by
 have HK0 : Hid (Row (w.alloc (.cells #[.bool a0.v2, .slice e0.oa a0.alg.length e0.ca, .slice e0.oi a0.issuer.length e0.ci, .string a0.this, .string a0.next, .slice e0.oe a0.entries.length e0.ce, .slice e0.ox a0.exts.length e0.cx, .string a0.sig] 27)) w.heap.size 27 [.bool a0.v2, .slice e0.oa a0.alg.length e0.ca, .slice e0.oi a0.issuer.length e0.ci, .string a0.this, .string a0.next, .slice e0.oe a0.entries.length e0.ce, .slice e0.ox a0.exts.length e0.cx, .string a0.sig]) := Lib.hid (Row.new w _ [.bool a0.v2, .slice e0.oa a0.alg.length e0.ca, .slice e0.oi a0.issuer.length e0.ci, .string a0.this, .string a0.next, .slice e0.oe a0.entries.length e0.ce, .slice e0.ox a0.exts.length e0.cx, .string a0.sig])
 have HB0 : Hid (Below w.heap.size w (w.alloc (.cells #[.bool a0.v2, .slice e0.oa a0.alg.length e0.ca, .slice e0.oi a0.issuer.length e0.ci, .string a0.this, .string a0.next, .slice e0.oe a0.entries.length e0.ce, .slice e0.ox a0.exts.length e0.cx, .string a0.sig] 27))) := Lib.hid ((Below.refl _ _).alloc (Nat.le_refl _) _)
 have HT := Lib.hid hTab
 have HC := Lib.hid ca0
 clear hTab ca0
 unfold crlV
 go_enter Tryz.func7, Tryz.ntmps7
 go_upto_region 1 with (fail)
 generalize (w.alloc (.cells #[.bool a0.v2, .slice e0.oa a0.alg.length e0.ca, .slice e0.oi a0.issuer.length e0.ci, .string a0.this, .string a0.next, .slice e0.oe a0.entries.length e0.ce, .slice e0.ox a0.exts.length e0.cx, .string a0.sig] 27)) = w1 at *
 have HB : Hid (Below w1.heap.size w1 w1) := Lib.hid (Below.refl _ _)
 go_wp2_with fail
 refine (awake19_any encSpec w1 (HT.out.on HB0.out)).mono ?_
 rintro e w2 ⟨rfl, hb9⟩
 replace HB := Lib.hid (HB.out.trans (hb9.mono HB.out.size))
 clear hb9 
 have z00 : w2.cell? ⟨w.heap.size, 0, none⟩ = some (.bool a0.v2) := (HK0.out.below HB.out HK0.out.lt).cell 0
 have z01 : w2.cell? ⟨w.heap.size, 1, none⟩ = some (.slice e0.oa a0.alg.length e0.ca) := (HK0.out.below HB.out HK0.out.lt).cell 1
 have z02 : w2.cell? ⟨w.heap.size, 2, none⟩ = some (.slice e0.oi a0.issuer.length e0.ci) := (HK0.out.below HB.out HK0.out.lt).cell 2
 have z03 : w2.cell? ⟨w.heap.size, 3, none⟩ = some (.string a0.this) := (HK0.out.below HB.out HK0.out.lt).cell 3
 have z04 : w2.cell? ⟨w.heap.size, 4, none⟩ = some (.string a0.next) := (HK0.out.below HB.out HK0.out.lt).cell 4
 have z05 : w2.cell? ⟨w.heap.size, 5, none⟩ = some (.slice e0.oe a0.entries.length e0.ce) := (HK0.out.below HB.out HK0.out.lt).cell 5
 have z06 : w2.cell? ⟨w.heap.size, 6, none⟩ = some (.slice e0.ox a0.exts.length e0.cx) := (HK0.out.below HB.out HK0.out.lt).cell 6
 have z07 : w2.cell? ⟨w.heap.size, 7, none⟩ = some (.string a0.sig) := (HK0.out.below HB.out HK0.out.lt).cell 7
 have HG := Lib.hid (refGreat19_any a0 e0 cp0 w2 (HC.out.below (HB0.out.trans (HB.out.mono HB0.out.size))))
 cases hgr : greatC a0 with
 |true =>
  rw [hgr] at HG
  go_wp2_with fail
  refine (HG.out).mono ?_
  rintro e w3 ⟨rfl, hb9⟩
  replace HB := Lib.hid (HB.out.trans (hb9.mono HB.out.size))
  clear hb9 HG z00 z01 z02 z03 z04 z05 z06 z07
  go_wp2_with fail
  refine (awake19_any encSpec w3 (HT.out.on (HB0.out.trans (HB.out.mono HB0.out.size)))).mono ?_
  rintro e w4 ⟨rfl, hb9⟩
  replace HB := Lib.hid (HB.out.trans (hb9.mono HB.out.size))
  clear hb9 
  go_wp2
  go_returns
  exact ⟨rfl, HB0.out.trans (HB.out.mono HB0.out.size)⟩
 |false =>
  have HS := Lib.hid (small_of el0 hgr)
  rw [hgr] at HG
  by_cases hl : 200 < (a1.size : Int)
  ·clear HS
   go_wp2_with fail
   refine (HG.out).mono ?_
   rintro e w3 ⟨rfl, hb9⟩
   replace HB := Lib.hid (HB.out.trans (hb9.mono HB.out.size))
   clear hb9 HG z00 z01 z02 z03 z04 z05 z06 z07
   go_wp2_with fail
   refine (awake19_any encSpec w3 (HT.out.on (HB0.out.trans (HB.out.mono HB0.out.size)))).mono ?_
   rintro e w4 ⟨rfl, hb9⟩
   replace HB := Lib.hid (HB.out.trans (hb9.mono HB.out.size))
   clear hb9 
   go_wp2
   go_returns
   exact ⟨rfl, HB0.out.trans (HB.out.mono HB0.out.size)⟩
  ·go_wp2_with fail
   refine (HG.out).mono ?_
   rintro e w3 ⟨rfl, hb9⟩
   replace HB := Lib.hid (HB.out.trans (hb9.mono HB.out.size))
   clear hb9 HG z00 z01 z02 z03 z04 z05 z06 z07
   have z00 : w3.cell? ⟨w.heap.size, 0, none⟩ = some (.bool a0.v2) := (HK0.out.below HB.out HK0.out.lt).cell 0
   have z01 : w3.cell? ⟨w.heap.size, 1, none⟩ = some (.slice e0.oa a0.alg.length e0.ca) := (HK0.out.below HB.out HK0.out.lt).cell 1
   have z02 : w3.cell? ⟨w.heap.size, 2, none⟩ = some (.slice e0.oi a0.issuer.length e0.ci) := (HK0.out.below HB.out HK0.out.lt).cell 2
   have z03 : w3.cell? ⟨w.heap.size, 3, none⟩ = some (.string a0.this) := (HK0.out.below HB.out HK0.out.lt).cell 3
   have z04 : w3.cell? ⟨w.heap.size, 4, none⟩ = some (.string a0.next) := (HK0.out.below HB.out HK0.out.lt).cell 4
   have z05 : w3.cell? ⟨w.heap.size, 5, none⟩ = some (.slice e0.oe a0.entries.length e0.ce) := (HK0.out.below HB.out HK0.out.lt).cell 5
   have z06 : w3.cell? ⟨w.heap.size, 6, none⟩ = some (.slice e0.ox a0.exts.length e0.cx) := (HK0.out.below HB.out HK0.out.lt).cell 6
   have z07 : w3.cell? ⟨w.heap.size, 7, none⟩ = some (.string a0.sig) := (HK0.out.below HB.out HK0.out.lt).cell 7
   go_upto_region 4 with (fail)
   have HD9 : Hid (Row (w3.alloc (.cells #[.bool a0.v2, .slice e0.oa a0.alg.length e0.ca, .slice e0.oi a0.issuer.length e0.ci, .string a0.this, .string a0.next, .slice e0.oe a0.entries.length e0.ce, .slice e0.ox a0.exts.length e0.cx, .string a0.sig] 27)) w3.heap.size 27 [.bool a0.v2, .slice e0.oa a0.alg.length e0.ca, .slice e0.oi a0.issuer.length e0.ci, .string a0.this, .string a0.next, .slice e0.oe a0.entries.length e0.ce, .slice e0.ox a0.exts.length e0.cx, .string a0.sig]) := Lib.hid (Row.new w3 _ [.bool a0.v2, .slice e0.oa a0.alg.length e0.ca, .slice e0.oi a0.issuer.length e0.ci, .string a0.this, .string a0.next, .slice e0.oe a0.entries.length e0.ce, .slice e0.ox a0.exts.length e0.cx, .string a0.sig])
   have HBX : Hid (Below w3.heap.size w3 (w3.alloc (.cells #[.bool a0.v2, .slice e0.oa a0.alg.length e0.ca, .slice e0.oi a0.issuer.length e0.ci, .string a0.this, .string a0.next, .slice e0.oe a0.entries.length e0.ce, .slice e0.ox a0.exts.length e0.cx, .string a0.sig] 27))) := Lib.hid ((Below.refl _ _).alloc (Nat.le_refl _) _)
   generalize (w3.alloc (.cells #[.bool a0.v2, .slice e0.oa a0.alg.length e0.ca, .slice e0.oi a0.issuer.length e0.ci, .string a0.this, .string a0.next, .slice e0.oe a0.entries.length e0.ce, .slice e0.ox a0.exts.length e0.cx, .string a0.sig] 27)) = w4 at *
   have f7 := HD9.out.frozen 7
   have y7 : w4.cell? ⟨w3.heap.size, 7, none⟩ = some (.string a0.sig) := HD9.out.cell 7
   have HD0 : Hid (Row (w4.setCell ⟨w3.heap.size, 7, none⟩ (.string a1)) w3.heap.size 27 [.bool a0.v2, .slice e0.oa a0.alg.length e0.ca, .slice e0.oi a0.issuer.length e0.ci, .string a0.this, .string a0.next, .slice e0.oe a0.entries.length e0.ce, .slice e0.ox a0.exts.length e0.cx, .string a1]) := Lib.hid (HD9.out.set 7 _)
   replace HBX : Hid (Below w3.heap.size w3 (w4.setCell ⟨w3.heap.size, 7, none⟩ (.string a1))) := Lib.hid (HBX.out.setCell (Nat.le_refl _) _)
   go_upto_region 5 with (fail)
   generalize w4.setCell ⟨w3.heap.size, 7, none⟩ (.string a1) = w5 at *
   replace HB := Lib.hid (HB.out.trans (HBX.out.mono HB.out.size))
   clear f7 y7 HD9 HBX z00 z01 z02 z03 z04 z05 z06 z07
   have HBD : Hid (Below w5.heap.size w5 w5) := Lib.hid (Below.refl _ _)
   obtain ⟨d, hd⟩ : ∃ d : CrlV, d = { a0 with sig := a1 } := ⟨_, rfl⟩
   have sD : d.Small := by rw [hd]; exact ⟨HS.out.alg, HS.out.ain, HS.out.sets, HS.out.attrs, HS.out.this, HS.out.next, HS.out.many, HS.out.entries, HS.out.few, HS.out.exts, by show a1.size ≤ 300; omega⟩
   have fD : d.Fits := by rw [hd]; exact ⟨el0.ain, el0.attrs, el0.this, el0.next, el0.entries, el0.exts, by show a1.size ≤ maxLen; unfold maxLen; omega⟩
   have cD : CrlCap d e0 := by rw [hd]; exact ⟨cp0.a, cp0.i, cp0.e, cp0.x⟩
   have HCD : Hid (∀ W, Below w.heap.size w W → CameCrl W d e0) := Lib.hid (fun W hW => by
    have h := HC.out.below hW
    rw [hd]; exact ⟨h.alg, h.sets, h.entries, h.exts⟩)
   have HSG : Hid (tbsE a0 = 0 → ((crlS a0).toList == (crlS d).toList) = (a0.sig.toList == a1.toList) ∧ (tbsS a0).size < (crlS a0).size ∧ (tbsS a0).size < (crlS d).size) := Lib.hid (fun h => by
    obtain ⟨h1, h2, h3⟩ := crl_signed a1 HS.out (by omega) h
    rw [← hd] at h1 h2 h3
    have g1 := (crl_right HS.out h).2.2
    have g2 := (crl_right sD h1).2.2
    rw [h2] at g2
    refine ⟨?_, g1, g2⟩
    by_cases e : a0.sig = a1
    ·rw [h3.2 e, e]; simp
    ·have ne : ∀ x y : ByteArray, x ≠ y → (x.toList == y.toList) = false := fun x y h => by
      have : ¬ x.toList = y.toList := fun e => h (by
       rw [ByteArray.toList_eq, ByteArray.toList_eq] at e
       have := congrArg List.toArray e
       simp only [Array.toArray_toList] at this
       exact ByteArray.ext this)
      simpa using this
     rw [ne _ _ e, ne _ _ (fun q => e (h3.1 q))])
   have hDE : tbsE d = tbsE a0 := by rw [hd]; rfl
   have hDS : tbsS d = tbsS a0 := by rw [hd]; rfl
   have HV : Hid (crlV d e0 = .agg #[.bool a0.v2, .slice e0.oa a0.alg.length e0.ca, .slice e0.oi a0.issuer.length e0.ci, .string a0.this, .string a0.next, .slice e0.oe a0.entries.length e0.ce, .slice e0.ox a0.exts.length e0.cx, .string a1]) := Lib.hid (by rw [hd]; rfl)
   clear hd
   have z00 : w5.cell? ⟨w.heap.size, 0, none⟩ = some (.bool a0.v2) := (HK0.out.below HB.out HK0.out.lt).cell 0
   have z01 : w5.cell? ⟨w.heap.size, 1, none⟩ = some (.slice e0.oa a0.alg.length e0.ca) := (HK0.out.below HB.out HK0.out.lt).cell 1
   have z02 : w5.cell? ⟨w.heap.size, 2, none⟩ = some (.slice e0.oi a0.issuer.length e0.ci) := (HK0.out.below HB.out HK0.out.lt).cell 2
   have z03 : w5.cell? ⟨w.heap.size, 3, none⟩ = some (.string a0.this) := (HK0.out.below HB.out HK0.out.lt).cell 3
   have z04 : w5.cell? ⟨w.heap.size, 4, none⟩ = some (.string a0.next) := (HK0.out.below HB.out HK0.out.lt).cell 4
   have z05 : w5.cell? ⟨w.heap.size, 5, none⟩ = some (.slice e0.oe a0.entries.length e0.ce) := (HK0.out.below HB.out HK0.out.lt).cell 5
   have z06 : w5.cell? ⟨w.heap.size, 6, none⟩ = some (.slice e0.ox a0.exts.length e0.cx) := (HK0.out.below HB.out HK0.out.lt).cell 6
   have z07 : w5.cell? ⟨w.heap.size, 7, none⟩ = some (.string a0.sig) := (HK0.out.below HB.out HK0.out.lt).cell 7
   have H1 := Lib.hid (encSpec.tbs a0 e0 HS.out el0 cp0 w5 (HT.out.on (HB0.out.trans (HB.out.mono HB0.out.size))) (HC.out.below (HB0.out.trans (HB.out.mono HB0.out.size))))
   go_wp2_with fail
   refine (H1.out).mono ?_
   rintro e w6 ⟨rfl, hb9⟩
   replace HB := Lib.hid (HB.out.trans (hb9.mono HB.out.size))
   replace HBD := Lib.hid (HBD.out.trans (hb9.mono HBD.out.size))
   clear hb9 H1 z00 z01 z02 z03 z04 z05 z06 z07
   have y0 : w6.cell? ⟨w3.heap.size, 0, none⟩ = some (.bool a0.v2) := (HD0.out.below HBD.out HD0.out.lt).cell 0
   have y1 : w6.cell? ⟨w3.heap.size, 1, none⟩ = some (.slice e0.oa a0.alg.length e0.ca) := (HD0.out.below HBD.out HD0.out.lt).cell 1
   have y2 : w6.cell? ⟨w3.heap.size, 2, none⟩ = some (.slice e0.oi a0.issuer.length e0.ci) := (HD0.out.below HBD.out HD0.out.lt).cell 2
   have y3 : w6.cell? ⟨w3.heap.size, 3, none⟩ = some (.string a0.this) := (HD0.out.below HBD.out HD0.out.lt).cell 3
   have y4 : w6.cell? ⟨w3.heap.size, 4, none⟩ = some (.string a0.next) := (HD0.out.below HBD.out HD0.out.lt).cell 4
   have y5 : w6.cell? ⟨w3.heap.size, 5, none⟩ = some (.slice e0.oe a0.entries.length e0.ce) := (HD0.out.below HBD.out HD0.out.lt).cell 5
   have y6 : w6.cell? ⟨w3.heap.size, 6, none⟩ = some (.slice e0.ox a0.exts.length e0.cx) := (HD0.out.below HBD.out HD0.out.lt).cell 6
   have y7 : w6.cell? ⟨w3.heap.size, 7, none⟩ = some (.string a1) := (HD0.out.below HBD.out HD0.out.lt).cell 7
   have H2 := Lib.hid (encSpec.tbs d e0 sD fD cD w6 (HT.out.on (HB0.out.trans (HB.out.mono HB0.out.size))) (HCD.out _ (HB0.out.trans (HB.out.mono HB0.out.size))))
   rw [HV.out, hDE, hDS] at H2
   go_wp2_with fail
   refine (H2.out).mono ?_
   rintro e w7 ⟨rfl, hb9⟩
   replace HB := Lib.hid (HB.out.trans (hb9.mono HB.out.size))
   replace HBD := Lib.hid (HBD.out.trans (hb9.mono HBD.out.size))
   clear hb9 H2 y0 y1 y2 y3 y4 y5 y6 y7
   have z00 : w7.cell? ⟨w.heap.size, 0, none⟩ = some (.bool a0.v2) := (HK0.out.below HB.out HK0.out.lt).cell 0
   have z01 : w7.cell? ⟨w.heap.size, 1, none⟩ = some (.slice e0.oa a0.alg.length e0.ca) := (HK0.out.below HB.out HK0.out.lt).cell 1
   have z02 : w7.cell? ⟨w.heap.size, 2, none⟩ = some (.slice e0.oi a0.issuer.length e0.ci) := (HK0.out.below HB.out HK0.out.lt).cell 2
   have z03 : w7.cell? ⟨w.heap.size, 3, none⟩ = some (.string a0.this) := (HK0.out.below HB.out HK0.out.lt).cell 3
   have z04 : w7.cell? ⟨w.heap.size, 4, none⟩ = some (.string a0.next) := (HK0.out.below HB.out HK0.out.lt).cell 4
   have z05 : w7.cell? ⟨w.heap.size, 5, none⟩ = some (.slice e0.oe a0.entries.length e0.ce) := (HK0.out.below HB.out HK0.out.lt).cell 5
   have z06 : w7.cell? ⟨w.heap.size, 6, none⟩ = some (.slice e0.ox a0.exts.length e0.cx) := (HK0.out.below HB.out HK0.out.lt).cell 6
   have z07 : w7.cell? ⟨w.heap.size, 7, none⟩ = some (.string a0.sig) := (HK0.out.below HB.out HK0.out.lt).cell 7
   have H3 := Lib.hid (encSpec.encode a0 e0 HS.out el0 cp0 w7 (HT.out.on (HB0.out.trans (HB.out.mono HB0.out.size))) (HC.out.below (HB0.out.trans (HB.out.mono HB0.out.size))))
   go_wp2_with fail
   refine (H3.out).mono ?_
   rintro e w8 ⟨rfl, hb9⟩
   replace HB := Lib.hid (HB.out.trans (hb9.mono HB.out.size))
   replace HBD := Lib.hid (HBD.out.trans (hb9.mono HBD.out.size))
   clear hb9 H3 z00 z01 z02 z03 z04 z05 z06 z07
   have y0 : w8.cell? ⟨w3.heap.size, 0, none⟩ = some (.bool a0.v2) := (HD0.out.below HBD.out HD0.out.lt).cell 0
   have y1 : w8.cell? ⟨w3.heap.size, 1, none⟩ = some (.slice e0.oa a0.alg.length e0.ca) := (HD0.out.below HBD.out HD0.out.lt).cell 1
   have y2 : w8.cell? ⟨w3.heap.size, 2, none⟩ = some (.slice e0.oi a0.issuer.length e0.ci) := (HD0.out.below HBD.out HD0.out.lt).cell 2
   have y3 : w8.cell? ⟨w3.heap.size, 3, none⟩ = some (.string a0.this) := (HD0.out.below HBD.out HD0.out.lt).cell 3
   have y4 : w8.cell? ⟨w3.heap.size, 4, none⟩ = some (.string a0.next) := (HD0.out.below HBD.out HD0.out.lt).cell 4
   have y5 : w8.cell? ⟨w3.heap.size, 5, none⟩ = some (.slice e0.oe a0.entries.length e0.ce) := (HD0.out.below HBD.out HD0.out.lt).cell 5
   have y6 : w8.cell? ⟨w3.heap.size, 6, none⟩ = some (.slice e0.ox a0.exts.length e0.cx) := (HD0.out.below HBD.out HD0.out.lt).cell 6
   have y7 : w8.cell? ⟨w3.heap.size, 7, none⟩ = some (.string a1) := (HD0.out.below HBD.out HD0.out.lt).cell 7
   have H4 := Lib.hid (encSpec.encode d e0 sD fD cD w8 (HT.out.on (HB0.out.trans (HB.out.mono HB0.out.size))) (HCD.out _ (HB0.out.trans (HB.out.mono HB0.out.size))))
   rw [HV.out, hDE] at H4
   go_wp2_with fail
   refine (H4.out).mono ?_
   rintro e w9 ⟨rfl, hb9⟩
   replace HB := Lib.hid (HB.out.trans (hb9.mono HB.out.size))
   replace HBD := Lib.hid (HBD.out.trans (hb9.mono HBD.out.size))
   clear hb9 H4 y0 y1 y2 y3 y4 y5 y6 y7
   have z00 : w9.cell? ⟨w.heap.size, 0, none⟩ = some (.bool a0.v2) := (HK0.out.below HB.out HK0.out.lt).cell 0
   have z01 : w9.cell? ⟨w.heap.size, 1, none⟩ = some (.slice e0.oa a0.alg.length e0.ca) := (HK0.out.below HB.out HK0.out.lt).cell 1
   have z02 : w9.cell? ⟨w.heap.size, 2, none⟩ = some (.slice e0.oi a0.issuer.length e0.ci) := (HK0.out.below HB.out HK0.out.lt).cell 2
   have z03 : w9.cell? ⟨w.heap.size, 3, none⟩ = some (.string a0.this) := (HK0.out.below HB.out HK0.out.lt).cell 3
   have z04 : w9.cell? ⟨w.heap.size, 4, none⟩ = some (.string a0.next) := (HK0.out.below HB.out HK0.out.lt).cell 4
   have z05 : w9.cell? ⟨w.heap.size, 5, none⟩ = some (.slice e0.oe a0.entries.length e0.ce) := (HK0.out.below HB.out HK0.out.lt).cell 5
   have z06 : w9.cell? ⟨w.heap.size, 6, none⟩ = some (.slice e0.ox a0.exts.length e0.cx) := (HK0.out.below HB.out HK0.out.lt).cell 6
   have z07 : w9.cell? ⟨w.heap.size, 7, none⟩ = some (.string a0.sig) := (HK0.out.below HB.out HK0.out.lt).cell 7
   have z7 : w9.cell? ⟨w.heap.size, 7, none⟩ = some (.string a0.sig) := z07
   have HF := Lib.hid (HB0.out.trans (HB.out.mono HB0.out.size))
   generalize tbsS a0 = TS at *
   generalize tbsE a0 = TE at *
   generalize crlS a0 = CA at *
   generalize crlS d = CB at *
   generalize a0.sig = sg at *
   by_cases h0 : TE = 0
   ·obtain ⟨q1, q2, q3⟩ := HSG.out h0
    have i2 : (TS.size : Int) < (CA.size : Int) := by omega
    have i3 : (TS.size : Int) < (CB.size : Int) := by omega
    subst h0
    generalize hq2 : (sg.toList == a1.toList) = q at *
    clear HSG HB HBD HK0 HD0 HCD HC HT HB0 HS HV
    go_wp2
    go_returns
    exact ⟨rfl, HF.out⟩
   ·have hne : (TE != 0) = true := by simpa using h0
    clear HSG HB HBD HK0 HD0 HCD HC HT HB0 HS HV
    go_wp2
    go_returns
    exact ⟨rfl, HF.out⟩


/-! ### EncodeSigned: the step from the walk to the statement -/
namespace encodeSigned
theorem own : ownKnob Tryz.prog.godebug = none := by kernel_rfl
theorem laidOut : laidOutB Tryz.prog = true := by kernel_rfl
set_option maxRecDepth 100000 in
theorem laid_met (os : Os) : laidMet Tryz.prog Rows.encodeSignedRow.laid ((laidWorld os).forCall (fun _ _ => 0) ⟨#[], #[.agg #[.bool false, .slice none 0 0, .slice none 0 0, .string ByteArray.empty, .string ByteArray.empty, .slice none 0 0, .slice none 0 0, .string ByteArray.empty], .string ByteArray.empty], []⟩).memory :=
 laidMet_of_run' 8 (by kernel_rfl) (by kernel_rfl)
theorem reads (os : Os) {H : Type} (enc : TypeId × Value → H) : ∃ places, DataW.whole enc Tryz.prog ((laidWorld os).forCall (fun _ _ => 0) ⟨#[], #[.agg #[.bool false, .slice none 0 0, .slice none 0 0, .string ByteArray.empty, .string ByteArray.empty, .slice none 0 0, .slice none 0 0, .string ByteArray.empty], .string ByteArray.empty], []⟩).memory Tryz.f7.params.toList Rows.encodeSignedSpec.vars false #[.agg #[.bool false, .slice none 0 0, .slice none 0 0, .string ByteArray.empty, .string ByteArray.empty, .slice none 0 0, .slice none 0 0, .string ByteArray.empty], .string ByteArray.empty].toList 8 = some ([.agg [.lit (.bool false), .nil, .nil, .lit (.string []), .lit (.string []), .nil, .nil, .lit (.string [])], .lit (.string [])], [], places) :=
 ⟨[], by kernel_rfl⟩
set_option maxRecDepth 100000 in
theorem lifted (os : Os) (started : os.Started) (H : Type) (enc : TypeId × Value → H) (F : Stop.Interp) :
  ReturnsInHanded {} Tryz.checked os 7 .any ((OpenSpec.ofChange Rows.encodeSignedSpec).preRow enc Tryz.prog Tryz.f7 Rows.encodeSignedRow.domain false Rows.encodeSignedRow.laid) (((OpenSpec.ofChange Rows.encodeSignedSpec).at F).post enc Tryz.prog Tryz.f7 false true false false) := by
 obtain ⟨places, hx⟩ := reads os enc
 refine returnsInHanded_of_row (C := Tryz.checked) (s := OpenSpec.ofChange Rows.encodeSignedSpec) own started (by kernel_rfl) Tryz.func7
  (witness_row_at (enc := enc) (C := Tryz.checked) false (laidWorld os) #[.agg #[.bool false, .slice none 0 0, .slice none 0 0, .string ByteArray.empty, .string ByteArray.empty, .slice none 0 0, .slice none 0 0, .string ByteArray.empty], .string ByteArray.empty] rfl (by kernel_rfl) (by kernel_rfl) (by kernel_rfl)
   (OpenSpec.preRow_of_cond 8 hx (by kernel_rfl) (fun k hk => by cases hk) (by kernel_rfl) (laid_met os))) ?_
 intro W base args ds gs before hval0 hW _ _ _ hL _ _
 have hval : ∀ (j : Nat) t v, Tryz.f7.params[j]? = some t → args[j]? = some v → Value.okWide Tryz.prog W .any base t v := hval0
 have hW' := hW
 obtain ⟨p, q, hA0, hV, rfl, hfz, hnd⟩ := hW
 have hA : DataW.TrodAll enc Tryz.prog W 0 (fun _ => true) true Tryz.f7.params.toList args.toList ds p := hA0
 rw [Tryz.params7] at hA hval
 obtain ⟨v0, vs0, d0, ds0, p0, q0, hargs, rfl, rfl, h0, r0⟩ := trodAll_cons hA
 obtain ⟨v1, vs1, d1, ds1, p1, q1, rfl, rfl, rfl, h1, r1⟩ := trodAll_cons r0
 obtain ⟨rfl, rfl, rfl⟩ := trodAll_nil r1
 obtain rfl : args = #[v0, v1] := by cases args; simp_all
 obtain ⟨rfl, rfl⟩ := trodVars_none hV
 have k0 := h0
 have lt0 : ∀ x ∈ p0, x.block < W.heap.size := by obtain ⟨m, hm⟩ := k0; exact DataW.trod_lt m _ _ _ hm
 obtain ⟨a0, e0, rfl, cp0, ca0, el0⟩ := came_crl crlTypes (hval 0 27 v0 rfl rfl) h0
 obtain ⟨a1, rfl, rfl, rfl, w1⟩ := open_string Tryz.underlying9 (hval 1 9 v1 rfl rfl) h1
 clear hA0 hval0
 refine (walkEncodeSigned a0 e0 a1 cp0 el0 w1 W ca0 (tabOf hL)).mono fun e W' ⟨he, bel⟩ => ?_
 subst he
 exact ⟨_, rfl, _, _, _, [], _, [], hW', trodAll_mk1 (shut_bool Tryz.underlying4 _), (trodAll_cons_mk (Below.trod laidOut (by kernel_rfl) (of_decide_eq_true (by kernel_rfl)) k0 bel lt0) (trodAll_cons_mk (shut_string Tryz.underlying9 w1) trodAll_mk0)), rfl, bel.frame _, fun h => by cases h⟩
theorem said : Rows.EncodeSignedSaid :=
 OpenClaim.holds_of_cond 7 Tryz.f7 rfl rfl rfl rfl rfl rfl rfl ⟨rfl, rfl, rfl, rfl, rfl⟩ rfl rfl rfl rfl rfl (by kernel_rfl) Tryz.func7 (by kernel_rfl)
  (of_decide_eq_true (by kernel_rfl)) (by unfold Func.isWrapper; first | (rw [if_pos (by decide +kernel)]; kernel_rfl) | (rw [if_neg (by decide +kernel)]; exact ⟨rfl, rfl⟩))
  (fun os started H enc _ F => by rw [OpenClaim.pre_eq_preRow]; exact lifted os started H enc F)
theorem noStandIns : (#[27, 9].all fun t => !Tryz.prog.wantsStandIn t) = true := by kernel_rfl
theorem plain (f : FuncId) (fn : Func) (hf : Tryz.pinned.checked.prog.funcNamed "gantlet/gantletlaw19.EncodeSigned" = some f) (hfn : Tryz.pinned.checked.prog.funcs[f]? = some fn) :
  false = Tryz.pinned.checked.prog.looks [] ∧ ∀ (j : Nat) t, fn.params[j]? = some t → Tryz.pinned.checked.prog.wantsStandIn t = false := by
 obtain rfl : f = 7 := Option.some.inj ((show Tryz.prog.funcNamed "gantlet/gantletlaw19.EncodeSigned" = some 7 by kernel_rfl).symm.trans hf) |>.symm
 obtain rfl : fn = Tryz.f7 := (Option.some.inj (Tryz.func7.symm.trans hfn)).symm
 refine ⟨by kernel_rfl, fun j t ht => ?_⟩
 rw [Tryz.params7] at ht
 have h := Array.all_eq_true_iff_forall_mem.1 noStandIns t (Array.mem_of_getElem? ht)
 show Tryz.prog.wantsStandIn t = false
 simpa using h
theorem proved : Rows.EncodeSignedCardSaid :=
 Claim7.holds_tied_plain_at .later [] _ _ _ _ said (fun _ h => by cases h) (by kernel_rfl) (fun _ h => by cases h) encodeSigned_row_tie rfl ⟨rfl, rfl⟩ (by kernel_rfl) rfl plain (by kernel_rfl)
end encodeSigned
end Go.Proofs.YtiecbagejdcafaaGreatDoor
