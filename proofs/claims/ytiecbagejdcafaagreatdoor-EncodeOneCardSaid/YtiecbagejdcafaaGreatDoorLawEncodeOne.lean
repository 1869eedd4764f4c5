/- Of every two lists (of more than the sizes that are named the law asks only for the fixed answers): of the same bytes they are alike in what the law names. No condition but the form of the row, and that the library's tables read as their initialisers lay them (the card ties that to the program). -/
import Derived.Test.YtiecbagejdcafaaGreatDoorK5
import Derived.Test.YtiecbagejdcafaaGreatDoorK1
import Derived.Test.YtiecbagejdcafaaGreatDoorW4
import Derived.Test.YtiecbagejdcafaaGreatDoorRows
import Derived.WalkKit
import Derived.ProofKit
import Derived.OpenShut
import Derived.ShutString
import Derived.ChangeOld
import Derived.Below
import Derived.Carry
namespace Go.Proofs.YtiecbagejdcafaaGreatDoor
open Go.ChangeShapes Go.WideShapes Go.ChangeAt Go.RowKit
open Go.ChangeMaps (open_string shut_string)
set_option linter.unusedVariables false
open Go.PlainAid in
set_option maxRecDepth 100000 in
set_option maxHeartbeats 16000000 in
theorem walkEncodeOne (a0 : CrlV) (e0 : CrlR) (a1 : CrlV) (e1 : CrlR) (cp0 : CrlCap a0 e0) (el0 : a0.Fits) (cp1 : CrlCap a1 e1) (el1 : a1.Fits) (w : World) (ca0 : CameCrl w a0 e0) (ca1 : CameCrl w a1 e1) (hTab : Tab w) :
  Calls Tryz.prog 8 #[crlV a0 e0, crlV a1 e1] w fun e w' => e = .returned (.bool true) ∧ Below w.heap.size w w' := by
 have HK0 : Hid (Row ((w.alloc (.cells #[.bool a0.v2, .slice e0.oa a0.alg.length e0.ca, .slice e0.oi a0.issuer.length e0.ci, .string a0.this, .string a0.next, .slice e0.oe a0.entries.length e0.ce, .slice e0.ox a0.exts.length e0.cx, .string a0.sig] 27)).alloc (.cells #[.bool a1.v2, .slice e1.oa a1.alg.length e1.ca, .slice e1.oi a1.issuer.length e1.ci, .string a1.this, .string a1.next, .slice e1.oe a1.entries.length e1.ce, .slice e1.ox a1.exts.length e1.cx, .string a1.sig] 27)) w.heap.size 27 [.bool a0.v2, .slice e0.oa a0.alg.length e0.ca, .slice e0.oi a0.issuer.length e0.ci, .string a0.this, .string a0.next, .slice e0.oe a0.entries.length e0.ce, .slice e0.ox a0.exts.length e0.cx, .string a0.sig]) := Lib.hid ((Row.new w _ [.bool a0.v2, .slice e0.oa a0.alg.length e0.ca, .slice e0.oi a0.issuer.length e0.ci, .string a0.this, .string a0.next, .slice e0.oe a0.entries.length e0.ce, .slice e0.ox a0.exts.length e0.cx, .string a0.sig]).alloc _)
 have HK1 : Hid (Row ((w.alloc (.cells #[.bool a0.v2, .slice e0.oa a0.alg.length e0.ca, .slice e0.oi a0.issuer.length e0.ci, .string a0.this, .string a0.next, .slice e0.oe a0.entries.length e0.ce, .slice e0.ox a0.exts.length e0.cx, .string a0.sig] 27)).alloc (.cells #[.bool a1.v2, .slice e1.oa a1.alg.length e1.ca, .slice e1.oi a1.issuer.length e1.ci, .string a1.this, .string a1.next, .slice e1.oe a1.entries.length e1.ce, .slice e1.ox a1.exts.length e1.cx, .string a1.sig] 27)) (w.heap.size + 1) 27 [.bool a1.v2, .slice e1.oa a1.alg.length e1.ca, .slice e1.oi a1.issuer.length e1.ci, .string a1.this, .string a1.next, .slice e1.oe a1.entries.length e1.ce, .slice e1.ox a1.exts.length e1.cx, .string a1.sig]) := Lib.hid (by
  have h := Row.new (w.alloc (.cells #[.bool a0.v2, .slice e0.oa a0.alg.length e0.ca, .slice e0.oi a0.issuer.length e0.ci, .string a0.this, .string a0.next, .slice e0.oe a0.entries.length e0.ce, .slice e0.ox a0.exts.length e0.cx, .string a0.sig] 27)) 27 [.bool a1.v2, .slice e1.oa a1.alg.length e1.ca, .slice e1.oi a1.issuer.length e1.ci, .string a1.this, .string a1.next, .slice e1.oe a1.entries.length e1.ce, .slice e1.ox a1.exts.length e1.cx, .string a1.sig]
  have s : (w.alloc (.cells #[.bool a0.v2, .slice e0.oa a0.alg.length e0.ca, .slice e0.oi a0.issuer.length e0.ci, .string a0.this, .string a0.next, .slice e0.oe a0.entries.length e0.ce, .slice e0.ox a0.exts.length e0.cx, .string a0.sig] 27)).heap.size = w.heap.size + 1 := by simp
  rw [s] at h
  exact h)
 have HB0 : Hid (Below w.heap.size w ((w.alloc (.cells #[.bool a0.v2, .slice e0.oa a0.alg.length e0.ca, .slice e0.oi a0.issuer.length e0.ci, .string a0.this, .string a0.next, .slice e0.oe a0.entries.length e0.ce, .slice e0.ox a0.exts.length e0.cx, .string a0.sig] 27)).alloc (.cells #[.bool a1.v2, .slice e1.oa a1.alg.length e1.ca, .slice e1.oi a1.issuer.length e1.ci, .string a1.this, .string a1.next, .slice e1.oe a1.entries.length e1.ce, .slice e1.ox a1.exts.length e1.cx, .string a1.sig] 27))) := Lib.hid (by
  have b := (Below.refl w.heap.size w).alloc (Nat.le_refl _) (.cells #[.bool a0.v2, .slice e0.oa a0.alg.length e0.ca, .slice e0.oi a0.issuer.length e0.ci, .string a0.this, .string a0.next, .slice e0.oe a0.entries.length e0.ce, .slice e0.ox a0.exts.length e0.cx, .string a0.sig] 27)
  exact b.alloc b.size _)
 have HT := Lib.hid hTab
 have HC := Lib.hid ca0
 have HCD := Lib.hid ca1
 clear hTab ca0 ca1
 unfold crlV
 go_enter Tryz.func8, Tryz.ntmps8
 go_upto_region 1 with (fail)
 generalize ((w.alloc (.cells #[.bool a0.v2, .slice e0.oa a0.alg.length e0.ca, .slice e0.oi a0.issuer.length e0.ci, .string a0.this, .string a0.next, .slice e0.oe a0.entries.length e0.ce, .slice e0.ox a0.exts.length e0.cx, .string a0.sig] 27)).alloc (.cells #[.bool a1.v2, .slice e1.oa a1.alg.length e1.ca, .slice e1.oi a1.issuer.length e1.ci, .string a1.this, .string a1.next, .slice e1.oe a1.entries.length e1.ce, .slice e1.ox a1.exts.length e1.cx, .string a1.sig] 27)) = w1 at *
 have HB : Hid (Below w1.heap.size w1 w1) := Lib.hid (Below.refl _ _)
 go_wp2_with fail
 refine (awake19_any encSpec w1 (HT.out.on HB0.out)).mono ?_
 rintro e w2 ⟨rfl, hb9⟩
 replace HB := Lib.hid (HB.out.trans (hb9.mono HB.out.size))
 clear hb9 
 have z00 : w2.cell? ⟨w.heap.size, 0, none⟩ = some (.bool a0.v2) := (HK0.out.below HB.out HK0.out.lt).cell 0
 have z01 : w2.cell? ⟨w.heap.size, 1, none⟩ = some (.slice e0.oa a0.alg.length e0.ca) := (HK0.out.below HB.out HK0.out.lt).cell 1
 have z02 : w2.cell? ⟨w.heap.size, 2, none⟩ = some (.slice e0.oi a0.issuer.length e0.ci) := (HK0.out.below HB.out HK0.out.lt).cell 2
 have z03 : w2.cell? ⟨w.heap.size, 3, none⟩ = some (.string a0.this) := (HK0.out.below HB.out HK0.out.lt).cell 3
 have z04 : w2.cell? ⟨w.heap.size, 4, none⟩ = some (.string a0.next) := (HK0.out.below HB.out HK0.out.lt).cell 4
 have z05 : w2.cell? ⟨w.heap.size, 5, none⟩ = some (.slice e0.oe a0.entries.length e0.ce) := (HK0.out.below HB.out HK0.out.lt).cell 5
 have z06 : w2.cell? ⟨w.heap.size, 6, none⟩ = some (.slice e0.ox a0.exts.length e0.cx) := (HK0.out.below HB.out HK0.out.lt).cell 6
 have z07 : w2.cell? ⟨w.heap.size, 7, none⟩ = some (.string a0.sig) := (HK0.out.below HB.out HK0.out.lt).cell 7
 have HG := Lib.hid (refGreat19_any a0 e0 cp0 w2 (HC.out.below (HB0.out.trans (HB.out.mono HB0.out.size))))
 cases hgr : greatC a0 with
 |true =>
  rw [hgr] at HG
  go_wp2_with fail
  refine (HG.out).mono ?_
  rintro e w3 ⟨rfl, hb9⟩
  replace HB := Lib.hid (HB.out.trans (hb9.mono HB.out.size))
  clear hb9 HG z00 z01 z02 z03 z04 z05 z06 z07
  go_wp2_with fail
  refine (awake19_any encSpec w3 (HT.out.on (HB0.out.trans (HB.out.mono HB0.out.size)))).mono ?_
  rintro e w4 ⟨rfl, hb9⟩
  replace HB := Lib.hid (HB.out.trans (hb9.mono HB.out.size))
  clear hb9 
  go_wp2
  go_returns
  exact ⟨rfl, HB0.out.trans (HB.out.mono HB0.out.size)⟩
 |false =>
  have HS := Lib.hid (small_of el0 hgr)
  rw [hgr] at HG
  go_wp2_with fail
  refine (HG.out).mono ?_
  rintro e w3 ⟨rfl, hb9⟩
  replace HB := Lib.hid (HB.out.trans (hb9.mono HB.out.size))
  clear hb9 HG hgr z00 z01 z02 z03 z04 z05 z06 z07
  have z10 : w3.cell? ⟨w.heap.size + 1, 0, none⟩ = some (.bool a1.v2) := (HK1.out.below HB.out HK1.out.lt).cell 0
  have z11 : w3.cell? ⟨w.heap.size + 1, 1, none⟩ = some (.slice e1.oa a1.alg.length e1.ca) := (HK1.out.below HB.out HK1.out.lt).cell 1
  have z12 : w3.cell? ⟨w.heap.size + 1, 2, none⟩ = some (.slice e1.oi a1.issuer.length e1.ci) := (HK1.out.below HB.out HK1.out.lt).cell 2
  have z13 : w3.cell? ⟨w.heap.size + 1, 3, none⟩ = some (.string a1.this) := (HK1.out.below HB.out HK1.out.lt).cell 3
  have z14 : w3.cell? ⟨w.heap.size + 1, 4, none⟩ = some (.string a1.next) := (HK1.out.below HB.out HK1.out.lt).cell 4
  have z15 : w3.cell? ⟨w.heap.size + 1, 5, none⟩ = some (.slice e1.oe a1.entries.length e1.ce) := (HK1.out.below HB.out HK1.out.lt).cell 5
  have z16 : w3.cell? ⟨w.heap.size + 1, 6, none⟩ = some (.slice e1.ox a1.exts.length e1.cx) := (HK1.out.below HB.out HK1.out.lt).cell 6
  have z17 : w3.cell? ⟨w.heap.size + 1, 7, none⟩ = some (.string a1.sig) := (HK1.out.below HB.out HK1.out.lt).cell 7
  have HG := Lib.hid (refGreat19_any a1 e1 cp1 w3 (HCD.out.below (HB0.out.trans (HB.out.mono HB0.out.size))))
  cases hgr : greatC a1 with
  |true =>
   rw [hgr] at HG
   go_wp2_with fail
   refine (HG.out).mono ?_
   rintro e w4 ⟨rfl, hb9⟩
   replace HB := Lib.hid (HB.out.trans (hb9.mono HB.out.size))
   clear hb9 HG z10 z11 z12 z13 z14 z15 z16 z17
   go_wp2_with fail
   refine (awake19_any encSpec w4 (HT.out.on (HB0.out.trans (HB.out.mono HB0.out.size)))).mono ?_
   rintro e w5 ⟨rfl, hb9⟩
   replace HB := Lib.hid (HB.out.trans (hb9.mono HB.out.size))
   clear hb9 
   go_wp2
   go_returns
   exact ⟨rfl, HB0.out.trans (HB.out.mono HB0.out.size)⟩
  |false =>
   have HSD := Lib.hid (small_of el1 hgr)
   rw [hgr] at HG
   go_wp2_with fail
   refine (HG.out).mono ?_
   rintro e w4 ⟨rfl, hb9⟩
   replace HB := Lib.hid (HB.out.trans (hb9.mono HB.out.size))
   clear hb9 HG hgr z10 z11 z12 z13 z14 z15 z16 z17
   have z00 : w4.cell? ⟨w.heap.size, 0, none⟩ = some (.bool a0.v2) := (HK0.out.below HB.out HK0.out.lt).cell 0
   have z01 : w4.cell? ⟨w.heap.size, 1, none⟩ = some (.slice e0.oa a0.alg.length e0.ca) := (HK0.out.below HB.out HK0.out.lt).cell 1
   have z02 : w4.cell? ⟨w.heap.size, 2, none⟩ = some (.slice e0.oi a0.issuer.length e0.ci) := (HK0.out.below HB.out HK0.out.lt).cell 2
   have z03 : w4.cell? ⟨w.heap.size, 3, none⟩ = some (.string a0.this) := (HK0.out.below HB.out HK0.out.lt).cell 3
   have z04 : w4.cell? ⟨w.heap.size, 4, none⟩ = some (.string a0.next) := (HK0.out.below HB.out HK0.out.lt).cell 4
   have z05 : w4.cell? ⟨w.heap.size, 5, none⟩ = some (.slice e0.oe a0.entries.length e0.ce) := (HK0.out.below HB.out HK0.out.lt).cell 5
   have z06 : w4.cell? ⟨w.heap.size, 6, none⟩ = some (.slice e0.ox a0.exts.length e0.cx) := (HK0.out.below HB.out HK0.out.lt).cell 6
   have z07 : w4.cell? ⟨w.heap.size, 7, none⟩ = some (.string a0.sig) := (HK0.out.below HB.out HK0.out.lt).cell 7
   have H1 := Lib.hid (encSpec.encode a0 e0 HS.out el0 cp0 w4 (HT.out.on (HB0.out.trans (HB.out.mono HB0.out.size))) (HC.out.below (HB0.out.trans (HB.out.mono HB0.out.size))))
   go_wp2_with fail
   refine (H1.out).mono ?_
   rintro e w5 ⟨rfl, hb9⟩
   replace HB := Lib.hid (HB.out.trans (hb9.mono HB.out.size))
   clear hb9 H1 z00 z01 z02 z03 z04 z05 z06 z07
   have z10 : w5.cell? ⟨w.heap.size + 1, 0, none⟩ = some (.bool a1.v2) := (HK1.out.below HB.out HK1.out.lt).cell 0
   have z11 : w5.cell? ⟨w.heap.size + 1, 1, none⟩ = some (.slice e1.oa a1.alg.length e1.ca) := (HK1.out.below HB.out HK1.out.lt).cell 1
   have z12 : w5.cell? ⟨w.heap.size + 1, 2, none⟩ = some (.slice e1.oi a1.issuer.length e1.ci) := (HK1.out.below HB.out HK1.out.lt).cell 2
   have z13 : w5.cell? ⟨w.heap.size + 1, 3, none⟩ = some (.string a1.this) := (HK1.out.below HB.out HK1.out.lt).cell 3
   have z14 : w5.cell? ⟨w.heap.size + 1, 4, none⟩ = some (.string a1.next) := (HK1.out.below HB.out HK1.out.lt).cell 4
   have z15 : w5.cell? ⟨w.heap.size + 1, 5, none⟩ = some (.slice e1.oe a1.entries.length e1.ce) := (HK1.out.below HB.out HK1.out.lt).cell 5
   have z16 : w5.cell? ⟨w.heap.size + 1, 6, none⟩ = some (.slice e1.ox a1.exts.length e1.cx) := (HK1.out.below HB.out HK1.out.lt).cell 6
   have z17 : w5.cell? ⟨w.heap.size + 1, 7, none⟩ = some (.string a1.sig) := (HK1.out.below HB.out HK1.out.lt).cell 7
   have H2 := Lib.hid (encSpec.encode a1 e1 HSD.out el1 cp1 w5 (HT.out.on (HB0.out.trans (HB.out.mono HB0.out.size))) (HCD.out.below (HB0.out.trans (HB.out.mono HB0.out.size))))
   go_wp2_with fail
   refine (H2.out).mono ?_
   rintro e w6 ⟨rfl, hb9⟩
   replace HB := Lib.hid (HB.out.trans (hb9.mono HB.out.size))
   clear hb9 H2 z10 z11 z12 z13 z14 z15 z16 z17
   have HON : Hid (tbsE a0 = 0 → tbsE a1 = 0 → crlS a0 = crlS a1 → a0.v2 = a1.v2 ∧ a0.alg = a1.alg ∧ a0.this = a1.this ∧ a0.next = a1.next ∧ a0.sig = a1.sig ∧ a0.exts.length = a1.exts.length ∧ a0.entries.length = a1.entries.length ∧
      ∀ i (h1 : i < a0.entries.length) (h2 : i < a1.entries.length), a0.entries[i].serial = a1.entries[i].serial ∧ a0.entries[i].date = a1.entries[i].date ∧ a0.entries[i].exts.length = a1.entries[i].exts.length) := Lib.hid (fun h1 h2 h3 => crl_one HS.out HSD.out h1 h2 h3)
   generalize tbsE a0 = TE at *
   generalize tbsE a1 = TF at *
   generalize crlS a0 = CA at *
   generalize crlS a1 = CB at *
   have HF := Lib.hid (HB0.out.trans (HB.out.mono HB0.out.size))
   by_cases h0 : TE = 0
   ·by_cases h1 : TF = 0
    ·by_cases h2 : CA = CB
     ·obtain ⟨q0, q1, q3, q4, q7, q6, q5, qe⟩ := HON.out h0 h1 h2
      subst h0 h1 h2
      have z00 : w6.cell? ⟨w.heap.size, 0, none⟩ = some (.bool a0.v2) := (HK0.out.below HB.out HK0.out.lt).cell 0
      have z01 : w6.cell? ⟨w.heap.size, 1, none⟩ = some (.slice e0.oa a0.alg.length e0.ca) := (HK0.out.below HB.out HK0.out.lt).cell 1
      have z02 : w6.cell? ⟨w.heap.size, 2, none⟩ = some (.slice e0.oi a0.issuer.length e0.ci) := (HK0.out.below HB.out HK0.out.lt).cell 2
      have z03 : w6.cell? ⟨w.heap.size, 3, none⟩ = some (.string a0.this) := (HK0.out.below HB.out HK0.out.lt).cell 3
      have z04 : w6.cell? ⟨w.heap.size, 4, none⟩ = some (.string a0.next) := (HK0.out.below HB.out HK0.out.lt).cell 4
      have z05 : w6.cell? ⟨w.heap.size, 5, none⟩ = some (.slice e0.oe a0.entries.length e0.ce) := (HK0.out.below HB.out HK0.out.lt).cell 5
      have z06 : w6.cell? ⟨w.heap.size, 6, none⟩ = some (.slice e0.ox a0.exts.length e0.cx) := (HK0.out.below HB.out HK0.out.lt).cell 6
      have z07 : w6.cell? ⟨w.heap.size, 7, none⟩ = some (.string a0.sig) := (HK0.out.below HB.out HK0.out.lt).cell 7
      have z10 : w6.cell? ⟨w.heap.size + 1, 0, none⟩ = some (.bool a1.v2) := (HK1.out.below HB.out HK1.out.lt).cell 0
      have z11 : w6.cell? ⟨w.heap.size + 1, 1, none⟩ = some (.slice e1.oa a1.alg.length e1.ca) := (HK1.out.below HB.out HK1.out.lt).cell 1
      have z12 : w6.cell? ⟨w.heap.size + 1, 2, none⟩ = some (.slice e1.oi a1.issuer.length e1.ci) := (HK1.out.below HB.out HK1.out.lt).cell 2
      have z13 : w6.cell? ⟨w.heap.size + 1, 3, none⟩ = some (.string a1.this) := (HK1.out.below HB.out HK1.out.lt).cell 3
      have z14 : w6.cell? ⟨w.heap.size + 1, 4, none⟩ = some (.string a1.next) := (HK1.out.below HB.out HK1.out.lt).cell 4
      have z15 : w6.cell? ⟨w.heap.size + 1, 5, none⟩ = some (.slice e1.oe a1.entries.length e1.ce) := (HK1.out.below HB.out HK1.out.lt).cell 5
      have z16 : w6.cell? ⟨w.heap.size + 1, 6, none⟩ = some (.slice e1.ox a1.exts.length e1.cx) := (HK1.out.below HB.out HK1.out.lt).cell 6
      have z17 : w6.cell? ⟨w.heap.size + 1, 7, none⟩ = some (.string a1.sig) := (HK1.out.below HB.out HK1.out.lt).cell 7
      rw [← q0] at z10
      rw [← q1] at z11
      rw [← q3] at z13
      rw [← q4] at z14
      rw [← q5] at z15
      rw [← q6] at z16
      rw [← q7] at z17
      have HQ := Lib.hid qe
      have Q5 := Lib.hid q5
      have hen := HS.out.many
      have q5' := q5
      clear q0 q1 q3 q4 q5 q6 q7 qe HON z02 z12
      have HE0 := Lib.hid HC.out.entries
      have HE1 := Lib.hid HCD.out.entries
      have HKD : Hid (∀ W, Below w6.heap.size w6 W → W.cell? ⟨w.heap.size + 1, 5, none⟩ = some (.slice e1.oe a0.entries.length e1.ce)) := Lib.hid (fun W hW => cell_keep z15 hW)
      have hlc : a0.entries.length ≤ e1.ce := by rw [q5']; exact cp1.e.1
      have hlc0 : a0.entries.length ≤ e0.ce := cp0.e.1
      have HBW : Hid (∀ W, Below w6.heap.size w6 W → Below w.heap.size w W) := Lib.hid (fun W hW => HF.out.trans (hW.mono HF.out.size))
      clear q5' HT HS HSD HC HCD HK0 HK1 HB HB0 cp0 cp1 el0 el1
      generalize e0.oe = O0 at *
      generalize e1.oe = O1 at *
      generalize e0.ce = C0 at *
      generalize e1.ce = C1 at *
      generalize a0.entries = E0 at *
      generalize a1.entries = E1 at *
      go_wp2_with fail
      go_loopg [99] E0.length (fun gk iv wr => ∃ i : Nat, iv = .int .i64 (i : Int) ∧ i ≤ E0.length ∧ E0.length - i ≤ gk ∧ Hid (Below w6.heap.size w6 wr))
      case atStart => exact ⟨0, rfl, by omega, by omega, Lib.hid (Below.refl _ _)⟩
      case round =>
       obtain ⟨i, rfl, hi, hgk, HBL⟩ := hrel
       by_cases hlt : i < E0.length
       ·have hlt2 : (i : Int) < (E0.length : Int) := by omega
        have hi1 : i < E1.length := by have := Q5.out; omega
        obtain ⟨ad, oo, co, ho, hX⟩ := (HE0.out.below (HBW.out wr HBL.out)) i hlt
        subst ho
        obtain ⟨ad1, oo1, co1, ho1, hY⟩ := (HE1.out.below (HBW.out wr HBL.out)) i hi1
        subst ho1
        obtain ⟨s1, s2, s3⟩ := HQ.out i hlt hi1
        obtain ⟨k0, k1, k2, _, _⟩ := hX
        obtain ⟨l0, l1, l2, _, _⟩ := hY
        rw [← s1] at l0
        rw [← s2] at l1
        rw [← s3] at l2
        clear s1 s2 s3
        generalize E0[i].serial = ser at *
        generalize E0[i].date = dat at *
        generalize E0[i].exts.length = xn at *
        replace k1 : wr.cell? ⟨(ad.add (i * 3)).block, (ad.add (i * 3)).off + 1, none⟩ = some (.string dat) := k1
        replace k2 : wr.cell? ⟨(ad.add (i * 3)).block, (ad.add (i * 3)).off + 2, none⟩ = some (.slice oo xn co) := k2
        have HYL : Hid (∀ W, Below wr.heap.size wr W → W.cell? (ad1.add (i * 3)) = some (.string ser) ∧ W.cell? ⟨(ad1.add (i * 3)).block, (ad1.add (i * 3)).off + 1, none⟩ = some (.string dat) ∧ W.cell? ⟨(ad1.add (i * 3)).block, (ad1.add (i * 3)).off + 2, none⟩ = some (.slice oo1 xn co1)) := Lib.hid (fun W hW => ⟨cell_keep l0 hW, cell_keep l1 hW, cell_keep l2 hW⟩)
        clear l0 l1 l2 HQ
        have HN : Hid (Row (wr.alloc (.cells #[.string ser, .string dat, .slice oo xn co] 49)) wr.heap.size 49 [.string ser, .string dat, .slice oo xn co]) := Lib.hid (Row.new wr 49 [.string ser, .string dat, .slice oo xn co])
        have HNB : Hid (Below wr.heap.size wr (wr.alloc (.cells #[.string ser, .string dat, .slice oo xn co] 49))) := Lib.hid ((Below.refl _ _).alloc (Nat.le_refl _) _)
        go_upto_region 12 with (fail)
        generalize wr.alloc (.cells #[.string ser, .string dat, .slice oo xn co] 49) = W at *
        have n0 : W.cell? ⟨wr.heap.size, 0, none⟩ = some (.string ser) := HN.out.cell 0
        have n1 : W.cell? ⟨wr.heap.size, 1, none⟩ = some (.string dat) := HN.out.cell 1
        have n2 : W.cell? ⟨wr.heap.size, 2, none⟩ = some (.slice oo xn co) := HN.out.cell 2
        have d5 : W.cell? ⟨w.heap.size + 1, 5, none⟩ = some (.slice (some ad1) E0.length C1) := HKD.out W (HBL.out.trans (HNB.out.mono HBL.out.size))
        obtain ⟨m0, m1, m2⟩ := HYL.out W HNB.out
        have HBN := Lib.hid (HBL.out.trans (HNB.out.mono HBL.out.size))
        have b1 : (ser.toList != ser.toList) = false := by simp
        have b2 : (dat.toList != dat.toList) = false := by simp
        clear k0 k1 k2 HYL HN HNB HBL
        go_quiet (fail)
        go_wp2
        go_roundg (E0.length - (i + 1))
        case measure => omega
        case rel => exact ⟨i + 1, by simp, by omega, by omega, Lib.hid (HBN.out.trans (show Below w6.heap.size W (W.drewN nq) from ⟨rfl, rfl, rfl, Nat.le_refl _, fun _ _ => rfl⟩))⟩
       ·have hlt2 : ¬ (i : Int) < (E0.length : Int) := by omega
        have HFF := Lib.hid (HBW.out wr HBL.out)
        clear HQ HKD HE0 HE1 HBW HBL
        go_wp2
        go_returns
        exact ⟨rfl, HFF.out⟩
     ·have hne : (CA.toList == CB.toList) = false := by
       have : ¬ CA.toList = CB.toList := fun e => h2 (by
        rw [ByteArray.toList_eq, ByteArray.toList_eq] at e
        have := congrArg List.toArray e
        simp only [Array.toArray_toList] at this
        exact ByteArray.ext this)
       simpa using this
      have hne2 : (CA.toList != CB.toList) = true := by rw [bne, hne]; rfl
      subst h0 h1
      clear HON HK0 HK1 HC HCD HT HB HS HSD h2
      go_wp2
      go_returns
      exact ⟨rfl, HF.out⟩
    ·have hne : (TF != 0) = true := by simpa using h1
     subst h0
     clear HON HK0 HK1 HC HCD HT HB HS HSD
     go_wp2
     go_returns
     exact ⟨rfl, HF.out⟩
   ·have hne : (TE != 0) = true := by simpa using h0
    clear HON HK0 HK1 HC HCD HT HB HS HSD
    go_wp2
    go_returns
    exact ⟨rfl, HF.out⟩


/-! ### EncodeOne: the step from the walk to the statement -/
namespace encodeOne
theorem own : ownKnob Tryz.prog.godebug = none := by kernel_rfl
theorem laidOut : laidOutB Tryz.prog = true := by kernel_rfl
set_option maxRecDepth 100000 in
theorem laid_met (os : Os) : laidMet Tryz.prog Rows.encodeOneRow.laid ((laidWorld os).forCall (fun _ _ => 0) ⟨#[], #[.agg #[.bool false, .slice none 0 0, .slice none 0 0, .string ByteArray.empty, .string ByteArray.empty, .slice none 0 0, .slice none 0 0, .string ByteArray.empty], .agg #[.bool false, .slice none 0 0, .slice none 0 0, .string ByteArray.empty, .string ByteArray.empty, .slice none 0 0, .slice none 0 0, .string ByteArray.empty]], []⟩).memory :=
 laidMet_of_run' 8 (by kernel_rfl) (by kernel_rfl)
theorem reads (os : Os) {H : Type} (enc : TypeId × Value → H) : ∃ places, DataW.whole enc Tryz.prog ((laidWorld os).forCall (fun _ _ => 0) ⟨#[], #[.agg #[.bool false, .slice none 0 0, .slice none 0 0, .string ByteArray.empty, .string ByteArray.empty, .slice none 0 0, .slice none 0 0, .string ByteArray.empty], .agg #[.bool false, .slice none 0 0, .slice none 0 0, .string ByteArray.empty, .string ByteArray.empty, .slice none 0 0, .slice none 0 0, .string ByteArray.empty]], []⟩).memory Tryz.f8.params.toList Rows.encodeOneSpec.vars false #[.agg #[.bool false, .slice none 0 0, .slice none 0 0, .string ByteArray.empty, .string ByteArray.empty, .slice none 0 0, .slice none 0 0, .string ByteArray.empty], .agg #[.bool false, .slice none 0 0, .slice none 0 0, .string ByteArray.empty, .string ByteArray.empty, .slice none 0 0, .slice none 0 0, .string ByteArray.empty]].toList 8 = some ([.agg [.lit (.bool false), .nil, .nil, .lit (.string []), .lit (.string []), .nil, .nil, .lit (.string [])], .agg [.lit (.bool false), .nil, .nil, .lit (.string []), .lit (.string []), .nil, .nil, .lit (.string [])]], [], places) :=
 ⟨[], by kernel_rfl⟩
set_option maxRecDepth 100000 in
theorem lifted (os : Os) (started : os.Started) (H : Type) (enc : TypeId × Value → H) (F : Stop.Interp) :
  ReturnsInHanded {} Tryz.checked os 8 .any ((OpenSpec.ofChange Rows.encodeOneSpec).preRow enc Tryz.prog Tryz.f8 Rows.encodeOneRow.domain false Rows.encodeOneRow.laid) (((OpenSpec.ofChange Rows.encodeOneSpec).at F).post enc Tryz.prog Tryz.f8 false true false false) := by
 obtain ⟨places, hx⟩ := reads os enc
 refine returnsInHanded_of_row (C := Tryz.checked) (s := OpenSpec.ofChange Rows.encodeOneSpec) own started (by kernel_rfl) Tryz.func8
  (witness_row_at (enc := enc) (C := Tryz.checked) false (laidWorld os) #[.agg #[.bool false, .slice none 0 0, .slice none 0 0, .string ByteArray.empty, .string ByteArray.empty, .slice none 0 0, .slice none 0 0, .string ByteArray.empty], .agg #[.bool false, .slice none 0 0, .slice none 0 0, .string ByteArray.empty, .string ByteArray.empty, .slice none 0 0, .slice none 0 0, .string ByteArray.empty]] rfl (by kernel_rfl) (by kernel_rfl) (by kernel_rfl)
   (OpenSpec.preRow_of_cond 8 hx (by kernel_rfl) (fun k hk => by cases hk) (by kernel_rfl) (laid_met os))) ?_
 intro W base args ds gs before hval0 hW _ _ _ hL _ _
 have hval : ∀ (j : Nat) t v, Tryz.f8.params[j]? = some t → args[j]? = some v → Value.okWide Tryz.prog W .any base t v := hval0
 have hW' := hW
 obtain ⟨p, q, hA0, hV, rfl, hfz, hnd⟩ := hW
 have hA : DataW.TrodAll enc Tryz.prog W 0 (fun _ => true) true Tryz.f8.params.toList args.toList ds p := hA0
 rw [Tryz.params8] at hA hval
 obtain ⟨v0, vs0, d0, ds0, p0, q0, hargs, rfl, rfl, h0, r0⟩ := trodAll_cons hA
 obtain ⟨v1, vs1, d1, ds1, p1, q1, rfl, rfl, rfl, h1, r1⟩ := trodAll_cons r0
 obtain ⟨rfl, rfl, rfl⟩ := trodAll_nil r1
 obtain rfl : args = #[v0, v1] := by cases args; simp_all
 obtain ⟨rfl, rfl⟩ := trodVars_none hV
 have k0 := h0
 have lt0 : ∀ x ∈ p0, x.block < W.heap.size := by obtain ⟨m, hm⟩ := k0; exact DataW.trod_lt m _ _ _ hm
 obtain ⟨a0, e0, rfl, cp0, ca0, el0⟩ := came_crl crlTypes (hval 0 27 v0 rfl rfl) h0
 have k1 := h1
 have lt1 : ∀ x ∈ p1, x.block < W.heap.size := by obtain ⟨m, hm⟩ := k1; exact DataW.trod_lt m _ _ _ hm
 obtain ⟨a1, e1, rfl, cp1, ca1, el1⟩ := came_crl crlTypes (hval 1 27 v1 rfl rfl) h1
 clear hA0 hval0
 refine (walkEncodeOne a0 e0 a1 e1 cp0 el0 cp1 el1 W ca0 ca1 (tabOf hL)).mono fun e W' ⟨he, bel⟩ => ?_
 subst he
 exact ⟨_, rfl, _, _, _, [], _, [], hW', trodAll_mk1 (shut_bool Tryz.underlying4 _), (trodAll_cons_mk (Below.trod laidOut (by kernel_rfl) (of_decide_eq_true (by kernel_rfl)) k0 bel lt0) (trodAll_cons_mk (Below.trod laidOut (by kernel_rfl) (of_decide_eq_true (by kernel_rfl)) k1 bel lt1) trodAll_mk0)), rfl, bel.frame _, fun h => by cases h⟩
theorem said : Rows.EncodeOneSaid :=
 OpenClaim.holds_of_cond 8 Tryz.f8 rfl rfl rfl rfl rfl rfl rfl ⟨rfl, rfl, rfl, rfl, rfl⟩ rfl rfl rfl rfl rfl (by kernel_rfl) Tryz.func8 (by kernel_rfl)
  (of_decide_eq_true (by kernel_rfl)) (by unfold Func.isWrapper; first | (rw [if_pos (by decide +kernel)]; kernel_rfl) | (rw [if_neg (by decide +kernel)]; exact ⟨rfl, rfl⟩))
  (fun os started H enc _ F => by rw [OpenClaim.pre_eq_preRow]; exact lifted os started H enc F)
theorem noStandIns : (#[27, 27].all fun t => !Tryz.prog.wantsStandIn t) = true := by kernel_rfl
theorem plain (f : FuncId) (fn : Func) (hf : Tryz.pinned.checked.prog.funcNamed "gantlet/gantletlaw19.EncodeOne" = some f) (hfn : Tryz.pinned.checked.prog.funcs[f]? = some fn) :
  false = Tryz.pinned.checked.prog.looks [] ∧ ∀ (j : Nat) t, fn.params[j]? = some t → Tryz.pinned.checked.prog.wantsStandIn t = false := by
 obtain rfl : f = 8 := Option.some.inj ((show Tryz.prog.funcNamed "gantlet/gantletlaw19.EncodeOne" = some 8 by kernel_rfl).symm.trans hf) |>.symm
 obtain rfl : fn = Tryz.f8 := (Option.some.inj (Tryz.func8.symm.trans hfn)).symm
 refine ⟨by kernel_rfl, fun j t ht => ?_⟩
 rw [Tryz.params8] at ht
 have h := Array.all_eq_true_iff_forall_mem.1 noStandIns t (Array.mem_of_getElem? ht)
 show Tryz.prog.wantsStandIn t = false
 simpa using h
theorem proved : Rows.EncodeOneCardSaid :=
 Claim7.holds_tied_plain_at .later [] _ _ _ _ said (fun _ h => by cases h) (by kernel_rfl) (fun _ h => by cases h) encodeOne_row_tie rfl ⟨rfl, rfl⟩ (by kernel_rfl) rfl plain (by kernel_rfl)
end encodeOne
end Go.Proofs.YtiecbagejdcafaaGreatDoor
