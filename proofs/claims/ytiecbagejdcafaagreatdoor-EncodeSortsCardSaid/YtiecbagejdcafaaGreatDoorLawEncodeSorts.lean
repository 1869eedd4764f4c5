/- Of every list (of more than the sizes that are named the law asks only for the fixed answers): the sets turned round make the same name. No condition but the form of the row, and that the library's tables read as their initialisers lay them (the card ties that to the program). -/
import Derived.Test.YtiecbagejdcafaaGreatDoorK5
import Derived.Test.YtiecbagejdcafaaGreatDoorK1
import Derived.Test.YtiecbagejdcafaaGreatDoorW4
import Derived.Test.YtiecbagejdcafaaGreatDoorEncTurn
import Derived.Test.YtiecbagejdcafaaGreatDoorF1
import Derived.Test.YtiecbagejdcafaaGreatDoorRows
import Derived.WalkKit
import Derived.ProofKit
import Derived.OpenShut
import Derived.ShutString
import Derived.ChangeOld
import Derived.Below
import Derived.Carry
namespace Go.Proofs.YtiecbagejdcafaaGreatDoor
open Go.ChangeShapes Go.WideShapes Go.ChangeAt Go.RowKit
open Go.ChangeMaps (open_string shut_string)
set_option linter.unusedVariables false
open Go.PlainAid in
set_option maxRecDepth 100000 in
set_option maxHeartbeats 16000000 in
theorem walkEncodeSorts (a0 : CrlV) (e0 : CrlR) (cp0 : CrlCap a0 e0) (el0 : a0.Fits) (w : World) (ca0 : CameCrl w a0 e0) (hTab : Tab w) :
  Calls Tryz.prog 6 #[crlV a0 e0] w fun e w' => e = .returned (.bool true) ∧ Below w.heap.size w w' := by
 have HK0 : Hid (Row (w.alloc (.cells #[.bool a0.v2, .slice e0.oa a0.alg.length e0.ca, .slice e0.oi a0.issuer.length e0.ci, .string a0.this, .string a0.next, .slice e0.oe a0.entries.length e0.ce, .slice e0.ox a0.exts.length e0.cx, .string a0.sig] 27)) w.heap.size 27 [.bool a0.v2, .slice e0.oa a0.alg.length e0.ca, .slice e0.oi a0.issuer.length e0.ci, .string a0.this, .string a0.next, .slice e0.oe a0.entries.length e0.ce, .slice e0.ox a0.exts.length e0.cx, .string a0.sig]) := Lib.hid (Row.new w _ [.bool a0.v2, .slice e0.oa a0.alg.length e0.ca, .slice e0.oi a0.issuer.length e0.ci, .string a0.this, .string a0.next, .slice e0.oe a0.entries.length e0.ce, .slice e0.ox a0.exts.length e0.cx, .string a0.sig])
 have HB0 : Hid (Below w.heap.size w (w.alloc (.cells #[.bool a0.v2, .slice e0.oa a0.alg.length e0.ca, .slice e0.oi a0.issuer.length e0.ci, .string a0.this, .string a0.next, .slice e0.oe a0.entries.length e0.ce, .slice e0.ox a0.exts.length e0.cx, .string a0.sig] 27))) := Lib.hid ((Below.refl _ _).alloc (Nat.le_refl _) _)
 have HT := Lib.hid hTab
 have HC := Lib.hid ca0
 clear hTab ca0
 unfold crlV
 go_enter Tryz.func6, Tryz.ntmps6
 go_upto_region 1 with (fail)
 generalize (w.alloc (.cells #[.bool a0.v2, .slice e0.oa a0.alg.length e0.ca, .slice e0.oi a0.issuer.length e0.ci, .string a0.this, .string a0.next, .slice e0.oe a0.entries.length e0.ce, .slice e0.ox a0.exts.length e0.cx, .string a0.sig] 27)) = w1 at *
 have HB : Hid (Below w1.heap.size w1 w1) := Lib.hid (Below.refl _ _)
 go_wp2_with fail
 refine (awake19_any encSpec w1 (HT.out.on HB0.out)).mono ?_
 rintro e w2 ⟨rfl, hb9⟩
 replace HB := Lib.hid (HB.out.trans (hb9.mono HB.out.size))
 clear hb9 
 have z00 : w2.cell? ⟨w.heap.size, 0, none⟩ = some (.bool a0.v2) := (HK0.out.below HB.out HK0.out.lt).cell 0
 have z01 : w2.cell? ⟨w.heap.size, 1, none⟩ = some (.slice e0.oa a0.alg.length e0.ca) := (HK0.out.below HB.out HK0.out.lt).cell 1
 have z02 : w2.cell? ⟨w.heap.size, 2, none⟩ = some (.slice e0.oi a0.issuer.length e0.ci) := (HK0.out.below HB.out HK0.out.lt).cell 2
 have z03 : w2.cell? ⟨w.heap.size, 3, none⟩ = some (.string a0.this) := (HK0.out.below HB.out HK0.out.lt).cell 3
 have z04 : w2.cell? ⟨w.heap.size, 4, none⟩ = some (.string a0.next) := (HK0.out.below HB.out HK0.out.lt).cell 4
 have z05 : w2.cell? ⟨w.heap.size, 5, none⟩ = some (.slice e0.oe a0.entries.length e0.ce) := (HK0.out.below HB.out HK0.out.lt).cell 5
 have z06 : w2.cell? ⟨w.heap.size, 6, none⟩ = some (.slice e0.ox a0.exts.length e0.cx) := (HK0.out.below HB.out HK0.out.lt).cell 6
 have z07 : w2.cell? ⟨w.heap.size, 7, none⟩ = some (.string a0.sig) := (HK0.out.below HB.out HK0.out.lt).cell 7
 have HG := Lib.hid (refGreat19_any a0 e0 cp0 w2 (HC.out.below (HB0.out.trans (HB.out.mono HB0.out.size))))
 cases hgr : greatC a0 with
 |true =>
  rw [hgr] at HG
  go_wp2_with fail
  refine (HG.out).mono ?_
  rintro e w3 ⟨rfl, hb9⟩
  replace HB := Lib.hid (HB.out.trans (hb9.mono HB.out.size))
  clear hb9 HG z00 z01 z02 z03 z04 z05 z06 z07
  go_wp2_with fail
  refine (awake19_any encSpec w3 (HT.out.on (HB0.out.trans (HB.out.mono HB0.out.size)))).mono ?_
  rintro e w4 ⟨rfl, hb9⟩
  replace HB := Lib.hid (HB.out.trans (hb9.mono HB.out.size))
  clear hb9 
  go_wp2
  go_returns
  exact ⟨rfl, HB0.out.trans (HB.out.mono HB0.out.size)⟩
 |false =>
  have HS := Lib.hid (small_of el0 hgr)
  rw [hgr] at HG
  go_wp2_with fail
  refine (HG.out).mono ?_
  rintro e w3 ⟨rfl, hb9⟩
  replace HB := Lib.hid (HB.out.trans (hb9.mono HB.out.size))
  clear hb9 HG z00 z01 z02 z03 z04 z05 z06 z07
  have z00 : w3.cell? ⟨w.heap.size, 0, none⟩ = some (.bool a0.v2) := (HK0.out.below HB.out HK0.out.lt).cell 0
  have z01 : w3.cell? ⟨w.heap.size, 1, none⟩ = some (.slice e0.oa a0.alg.length e0.ca) := (HK0.out.below HB.out HK0.out.lt).cell 1
  have z02 : w3.cell? ⟨w.heap.size, 2, none⟩ = some (.slice e0.oi a0.issuer.length e0.ci) := (HK0.out.below HB.out HK0.out.lt).cell 2
  have z03 : w3.cell? ⟨w.heap.size, 3, none⟩ = some (.string a0.this) := (HK0.out.below HB.out HK0.out.lt).cell 3
  have z04 : w3.cell? ⟨w.heap.size, 4, none⟩ = some (.string a0.next) := (HK0.out.below HB.out HK0.out.lt).cell 4
  have z05 : w3.cell? ⟨w.heap.size, 5, none⟩ = some (.slice e0.oe a0.entries.length e0.ce) := (HK0.out.below HB.out HK0.out.lt).cell 5
  have z06 : w3.cell? ⟨w.heap.size, 6, none⟩ = some (.slice e0.ox a0.exts.length e0.cx) := (HK0.out.below HB.out HK0.out.lt).cell 6
  have z07 : w3.cell? ⟨w.heap.size, 7, none⟩ = some (.string a0.sig) := (HK0.out.below HB.out HK0.out.lt).cell 7
  clear z00 z01 z03 z04 z05 z06 z07
  have HBW : Hid (Below w.heap.size w w3) := Lib.hid (HB0.out.trans (HB.out.mono HB0.out.size))
  have HFI := Lib.hid el0.attrs
  have HCP := Lib.hid cp0.i
  have HCS := Lib.hid HC.out.sets
  have hci : a0.issuer.length ≤ e0.ci := cp0.i.1
  have HKI : Hid (∀ W, Below w3.heap.size w3 W → W.cell? ⟨w.heap.size, 2, none⟩ = some (.slice e0.oi a0.issuer.length e0.ci)) := Lib.hid (fun W hW => cell_keep z02 hW)
  have hs8 : a0.issuer.length ≤ 8 := HS.out.sets
  have HAS := Lib.hid HS.out.attrs
  clear HB HK0 HC HS cp0 el0
  generalize e0.oi = OI at *
  generalize e0.ci = CI at *
  generalize a0.issuer = I at *
  go_wp2_with fail
  go_loopg [25, 3] I.length (fun gk iv tvv wr => ∃ (i : Nat) (tv : Value) (RR : List (List RA)), iv = .int .i64 (i : Int) ∧ tvv = tv ∧ i ≤ I.length ∧ I.length - i ≤ gk ∧ Hid (TIn wr w3.heap.size tv RR) ∧ Hid (RR.map (List.map RA.x) = (I.take i).map List.reverse) ∧ Hid (∀ R ∈ RR, ∀ r ∈ R, RaIn w r) ∧ Hid (Below w3.heap.size w3 wr))
  case atStart => exact ⟨0, _, [], rfl, rfl, by omega, by omega, Lib.hid (TIn.nil _ _), Lib.hid rfl, Lib.hid (by intro R hR; cases hR), Lib.hid (Below.refl _ _)⟩
  case round =>
   clear z02
   obtain ⟨i, tv, RR, rfl, rfl, hi, hgk, HTI, HRM, HRI, HBL⟩ := hrel
   by_cases hlt : i < I.length
   ·have hlt2 : (i : Int) < (I.length : Int) := by omega
    obtain ⟨ad, oo, co, ho, hX⟩ := HCS.out i hlt
    subst ho
    have hwr : Below w.heap.size w wr := HBW.out.trans (HBL.out.mono HBW.out.size)
    have k0 : wr.cell? (ad.add i) = some (.slice oo I[i].length co) := cell_keep hX.c0 hwr
    obtain ⟨R, hR, hin, hcells⟩ := came_ras hX.set
    have hRl : I[i].length = R.length := by rw [← hR, List.length_map]
    have hR8 : R.length ≤ 8 := by rw [← hRl]; exact (HAS.out _ (List.getElem_mem hlt)).1
    have hRc : R.length ≤ co := by rw [← hRl]; exact hX.cap.1
    have HRx := Lib.hid hR
    have HIN := Lib.hid hin
    have HCL := Lib.hid hcells
    have HWR := Lib.hid hwr
    rw [hRl] at k0
    clear hX hcells hin hR hwr hRl
    obtain ⟨wo, hwo⟩ : ∃ x : World, x = wr := ⟨wr, rfl⟩
    subst hwo
    go_wp2_with fail
    go_loopg [31, 6] R.length (fun gj jv lvv wq => ∃ (j : Nat) (lv : Value), jv = .int .i64 (j : Int) ∧ lvv = lv ∧ j ≤ R.length ∧ R.length - j ≤ gj ∧ Hid (ARow wq wo.heap.size lv (R.take j).reverse) ∧ Hid (Below wo.heap.size wo wq))
    case atStart => exact ⟨0, _, rfl, rfl, by omega, by omega, Lib.hid (ARow.nil _ _), Lib.hid (Below.refl _ _)⟩
    case round =>
     clear k0
     obtain ⟨j, lv, rfl, rfl, hj, hgj, HLV, HBQ⟩ := hrel
     by_cases hlj : j < R.length
     ·have hlj2 : (j : Int) < (R.length : Int) := by omega
      obtain ⟨ad1, ho1, c0, c1, c2⟩ := HCL.out j hlj
      subst ho1
      have hrev : (R.take (j + 1)).reverse = [R[j]] ++ (R.take j).reverse := by rw [List.take_add_one, List.getElem?_eq_getElem hlj, Option.toList_some, List.reverse_append]; rfl
      have HREV := Lib.hid hrev
      clear hrev
      generalize R[j] = r at *
      have hq : Below w.heap.size w wr := HWR.out.trans (HBQ.out.mono HWR.out.size)
      have c0 := cell_keep c0 hq
      have c1 : wr.cell? ⟨(ad1.add (j * 3)).block, (ad1.add (j * 3)).off + 1, none⟩ = some (.int .i64 r.x.tag) := cell_keep c1 hq
      have c2 : wr.cell? ⟨(ad1.add (j * 3)).block, (ad1.add (j * 3)).off + 2, none⟩ = some (.string r.x.text) := cell_keep c2 hq
      clear hq
      go_upto_region 11 with (fail)
      obtain ⟨W1, hW1⟩ : ∃ W, wr.alloc (.cells #[.slice r.oo r.x.oid.length r.co, .int .i64 r.x.tag, .string r.x.text] 46) = W := ⟨_, rfl⟩
      have hN : Row W1 wr.heap.size 46 [.slice r.oo r.x.oid.length r.co, .int .i64 r.x.tag, .string r.x.text] := by rw [← hW1]; exact Row.new wr 46 _
      have hNB : Below wr.heap.size wr W1 := by rw [← hW1]; exact (Below.refl _ _).alloc (Nat.le_refl _) _
      rw [hW1]
      clear hW1 c0 c1 c2
      have n0 : W1.cell? ⟨wr.heap.size, 0, none⟩ = some (.slice r.oo r.x.oid.length r.co) := hN.cell 0
      have n1 : W1.cell? ⟨wr.heap.size, 1, none⟩ = some (.int .i64 r.x.tag) := hN.cell 1
      have n2 : W1.cell? ⟨wr.heap.size, 2, none⟩ = some (.string r.x.text) := hN.cell 2
      have HB1 := Lib.hid (HBQ.out.trans (hNB.mono HBQ.out.size))
      have HLV1 := Lib.hid ((HLV.out.below hNB).below ((Below.refl W1.heap.size W1).alloc (Nat.le_refl _) (.cells #[.slice r.oo r.x.oid.length r.co, .int .i64 r.x.tag, .string r.x.text] 46)))
      have HON := Lib.hid (ARow.one W1 r)
      have hsz : W1.heap.size ≤ (W1.alloc (.cells #[.slice r.oo r.x.oid.length r.co, .int .i64 r.x.tag, .string r.x.text] 46)).heap.size := by simp
      have hl9 : [r].length + (R.take j).reverse.length ≤ 1000000000 := by rw [List.length_reverse, List.length_take]; simp; omega
      clear hN hNB HLV HBQ
      go_wp2_with (at_builtin; refine wpList_append_attrs rfl (.tmp 36) (.tmp 37) rfl W1.heap.size wo.heap.size rfl HON.out rfl HLV1.out hsz hl9 ?_)
      intro v5 w5 hv5 hg5
      have hB5 : Below wo.heap.size wo w5 := (HB1.out.alloc HB1.out.size _).grown hg5 (Nat.le_trans HB1.out.size hsz) (by intro k hk; injection hk with hk; have := HB1.out.size; have hk : W1.heap.size = k := hk; omega)
      have HV5 : Hid (ARow w5 wo.heap.size v5 (R.take (j + 1)).reverse) := Lib.hid (by rw [HREV.out]; exact hv5.mono HB1.out.size)
      have HB5 := Lib.hid hB5
      clear hv5 hg5 hB5 HB1 HLV1 HON hsz hl9 n0 n1 n2 HREV
      go_wp2_with fail
      go_roundg (R.length - (j + 1))
      case measure => omega
      case rel => exact ⟨j + 1, v5, by simp, by first | rfl | trivial, by omega, by omega, HV5, HB5⟩
     ·have hlj2 : ¬ (j : Int) < (R.length : Int) := by omega
      obtain rfl : j = R.length := by omega
      have hL := HLV.out
      rw [List.take_of_length_le (Nat.le_refl _)] at hL
      have hsh : ∃ lo ln lc, u6 = .slice lo ln lc ∧ ∀ b, (Value.slice lo ln lc).ownBlock = some b → wo.heap.size ≤ b := by
       rcases hL.shape with ⟨rfl, _⟩ | ⟨g, c, rfl, _, _, h, _⟩
       ·exact ⟨_, _, _, rfl, fun b hb => by cases hb⟩
       ·exact ⟨_, _, _, rfl, fun b hb => by injection hb with hb; have hb : g = b := hb; omega⟩
      obtain ⟨lo, ln, lc, rfl, hfr⟩ := hsh
      have hne : ∀ b, (Value.slice lo ln lc).ownBlock = some b → u3.ownBlock ≠ some b := fun b hb e => by have := (HTI.out.block e).2; have := hfr b hb; omega
      have hal : Below wr.heap.size wr (wr.alloc (.cells #[.slice lo ln lc] 44)) := (Below.refl _ _).alloc (Nat.le_refl _) _
      have HT13 := Lib.hid (HTI.out.below (HBQ.out.trans (hal.mono HBQ.out.size)))
      have HL13 := Lib.hid ((hL.below hal).mono HBL.out.size)
      have hc13 : (wr.alloc (.cells #[.slice lo ln lc] 44)).cell? ⟨wr.heap.size, 0, none⟩ = some (.slice lo ln lc) := by simp
      have HC13 := Lib.hid hc13
      have HB13 := Lib.hid (HBL.out.trans ((HBQ.out.trans (hal.mono HBQ.out.size)).mono HBL.out.size))
      have hst : w3.heap.size ≤ (wr.alloc (.cells #[.slice lo ln lc] 44)).heap.size := HB13.out.size
      have hRRl : RR.length + 1 ≤ 1000000000 := by
       have := congrArg List.length HRM.out
       rw [List.length_map, List.length_map, List.length_take] at this
       omega
      have HN2 := Lib.hid hne
      clear hL HLV hfr hne hal hc13
      go_wp2_with (at_builtin; refine wpList_append_sets rfl (.tmp 40) (.tmp 42) rfl w3.heap.size rfl HT13.out wr.heap.size (.slice lo ln lc) R.reverse rfl HC13.out HL13.out HN2.out hst hRRl ?_)
      intro tv7 w7 hT7 hg7
      have HB7 := Lib.hid (HB13.out.grown hg7 hst (fun k hk => (HT13.out.block hk).1))
      have HT7 := Lib.hid hT7
      have HM7 : Hid ((RR ++ [R.reverse]).map (List.map RA.x) = (I.take (i + 1)).map List.reverse) := Lib.hid (by
       rw [List.map_append, HRM.out, List.map_cons, List.map_nil, List.map_reverse, HRx.out, List.take_add_one, List.getElem?_eq_getElem hlt, Option.toList_some, List.map_append]; rfl)
      have HI7 : Hid (∀ S ∈ RR ++ [R.reverse], ∀ r ∈ S, RaIn w r) := Lib.hid (by
       intro S hS r hr
       rcases List.mem_append.1 hS with q | q
       ·exact HRI.out S q r hr
       ·simp at q; subst q; exact HIN.out r (by simpa using hr))
      clear hT7 hg7 HT13 HL13 HC13 HB13 hst hRRl HN2 HTI HRM HRI HIN HBQ HBL HRx HCL
      go_wp2_with fail
      go_roundg (I.length - (i + 1))
      case measure => omega
      case rel => exact ⟨i + 1, tv7, RR ++ [R.reverse], by simp, by first | rfl | trivial, by omega, by omega, HT7, HM7, HI7, HB7⟩
   ·have hlt2 : ¬ (i : Int) < (I.length : Int) := by omega
    obtain rfl : i = I.length := by omega
    have hB := HBW.out.trans (HBL.out.mono HBW.out.size)
    have hM := HRM.out
    rw [List.take_of_length_le (Nat.le_refl _)] at hM
    obtain ⟨oi, ci, hu3, q1, q2, q3⟩ := HTI.out.came HRI.out hB
    rw [hM] at q3
    have hTl : (I.map List.reverse).length = RR.length := by rw [← hM, List.length_map]
    obtain ⟨t1, t2⟩ := nameS_turn I (fun s hs a ha => (HAS.out s hs).2 a ha)
    have H2 : Hid (∀ W, Below wr.heap.size wr W → Calls Tryz.prog 15 #[.slice oi RR.length ci] W fun e w' => e = .returned (.tuple #[.string (nameS I), .bool (nameOk I)]) ∧ Below W.heap.size W w') := Lib.hid (fun W hW => by
     have h := encSpec.name oi ci (I.map List.reverse) (by rw [List.length_map]; exact hs8) (fun s hs => by
      obtain ⟨s', hs', rfl⟩ := List.mem_map.1 hs
      rw [List.length_reverse]
      exact ⟨(HAS.out s' hs').1, fun a ha => (HAS.out s' hs').2 a (by simpa using ha)⟩) (fun s hs a ha => by
      obtain ⟨s', hs', rfl⟩ := List.mem_map.1 hs
      exact HFI.out s' hs' a (by simpa using ha)) (by rw [hTl]; exact ⟨q1, q2⟩) W (HT.out.on (hB.trans (hW.mono hB.size))) (q3.below hW)
     rw [t1, t2, hTl] at h
     exact h)
    have H1 : Hid (∀ W, Below wr.heap.size wr W → Calls Tryz.prog 15 #[.slice OI I.length CI] W fun e w' => e = .returned (.tuple #[.string (nameS I), .bool (nameOk I)]) ∧ Below W.heap.size W w') := Lib.hid (fun W hW =>
     encSpec.name OI CI I hs8 HAS.out HFI.out HCP.out W (HT.out.on (hB.trans (hW.mono hB.size))) (HCS.out.below (hB.trans (hW.mono hB.size))))
    have HZ : Hid (∀ W, Below wr.heap.size wr W → W.cell? ⟨w.heap.size, 2, none⟩ = some (.slice OI I.length CI)) := Lib.hid (fun W hW => HKI.out W (HBL.out.trans (hW.mono HBL.out.size)))
    have HF := Lib.hid hB
    subst hu3
    generalize nameS I = NS at *
    generalize nameOk I = NK at *
    have HB : Hid (Below wr.heap.size wr wr) := Lib.hid (Below.refl _ _)
    have z02 := HZ.out wr HB.out
    clear t1 t2 hTl q1 q2 q3 hM hB HTI HRM HRI HBL HKI HT HCS HAS HFI HCP HBW HB0
    go_wp2_with fail
    refine (H1.out _ HB.out).mono ?_
    rintro e w8 ⟨rfl, hb9⟩
    replace HB := Lib.hid (HB.out.trans (hb9.mono HB.out.size))
    clear hb9 z02
    go_wp2_with fail
    refine (H2.out _ HB.out).mono ?_
    rintro e w9 ⟨rfl, hb9⟩
    replace HB := Lib.hid (HB.out.trans (hb9.mono HB.out.size))
    clear hb9
    have z02 := HZ.out w9 HB.out
    go_wp2_with fail
    refine (H1.out _ HB.out).mono ?_
    rintro e w10 ⟨rfl, hb9⟩
    replace HB := Lib.hid (HB.out.trans (hb9.mono HB.out.size))
    have HG := Lib.hid (HF.out.trans (HB.out.mono HF.out.size))
    clear hb9 z02 H1 H2 HZ HB HF
    cases NK
    all_goals
     go_wp2
     go_returns
     exact ⟨rfl, HG.out⟩


/-! ### EncodeSorts: the step from the walk to the statement -/
namespace encodeSorts
theorem own : ownKnob Tryz.prog.godebug = none := by kernel_rfl
theorem laidOut : laidOutB Tryz.prog = true := by kernel_rfl
set_option maxRecDepth 100000 in
theorem laid_met (os : Os) : laidMet Tryz.prog Rows.encodeSortsRow.laid ((laidWorld os).forCall (fun _ _ => 0) ⟨#[], #[.agg #[.bool false, .slice none 0 0, .slice none 0 0, .string ByteArray.empty, .string ByteArray.empty, .slice none 0 0, .slice none 0 0, .string ByteArray.empty]], []⟩).memory :=
 laidMet_of_run' 8 (by kernel_rfl) (by kernel_rfl)
theorem reads (os : Os) {H : Type} (enc : TypeId × Value → H) : ∃ places, DataW.whole enc Tryz.prog ((laidWorld os).forCall (fun _ _ => 0) ⟨#[], #[.agg #[.bool false, .slice none 0 0, .slice none 0 0, .string ByteArray.empty, .string ByteArray.empty, .slice none 0 0, .slice none 0 0, .string ByteArray.empty]], []⟩).memory Tryz.f6.params.toList Rows.encodeSortsSpec.vars false #[.agg #[.bool false, .slice none 0 0, .slice none 0 0, .string ByteArray.empty, .string ByteArray.empty, .slice none 0 0, .slice none 0 0, .string ByteArray.empty]].toList 8 = some ([.agg [.lit (.bool false), .nil, .nil, .lit (.string []), .lit (.string []), .nil, .nil, .lit (.string [])]], [], places) :=
 ⟨[], by kernel_rfl⟩
set_option maxRecDepth 100000 in
theorem lifted (os : Os) (started : os.Started) (H : Type) (enc : TypeId × Value → H) (F : Stop.Interp) :
  ReturnsInHanded {} Tryz.checked os 6 .any ((OpenSpec.ofChange Rows.encodeSortsSpec).preRow enc Tryz.prog Tryz.f6 Rows.encodeSortsRow.domain false Rows.encodeSortsRow.laid) (((OpenSpec.ofChange Rows.encodeSortsSpec).at F).post enc Tryz.prog Tryz.f6 false true false false) := by
 obtain ⟨places, hx⟩ := reads os enc
 refine returnsInHanded_of_row (C := Tryz.checked) (s := OpenSpec.ofChange Rows.encodeSortsSpec) own started (by kernel_rfl) Tryz.func6
  (witness_row_at (enc := enc) (C := Tryz.checked) false (laidWorld os) #[.agg #[.bool false, .slice none 0 0, .slice none 0 0, .string ByteArray.empty, .string ByteArray.empty, .slice none 0 0, .slice none 0 0, .string ByteArray.empty]] rfl (by kernel_rfl) (by kernel_rfl) (by kernel_rfl)
   (OpenSpec.preRow_of_cond 8 hx (by kernel_rfl) (fun k hk => by cases hk) (by kernel_rfl) (laid_met os))) ?_
 intro W base args ds gs before hval0 hW _ _ _ hL _ _
 have hval : ∀ (j : Nat) t v, Tryz.f6.params[j]? = some t → args[j]? = some v → Value.okWide Tryz.prog W .any base t v := hval0
 have hW' := hW
 obtain ⟨p, q, hA0, hV, rfl, hfz, hnd⟩ := hW
 have hA : DataW.TrodAll enc Tryz.prog W 0 (fun _ => true) true Tryz.f6.params.toList args.toList ds p := hA0
 rw [Tryz.params6] at hA hval
 obtain ⟨v0, vs0, d0, ds0, p0, q0, hargs, rfl, rfl, h0, r0⟩ := trodAll_cons hA
 obtain ⟨rfl, rfl, rfl⟩ := trodAll_nil r0
 obtain rfl : args = #[v0] := by cases args; simp_all
 obtain ⟨rfl, rfl⟩ := trodVars_none hV
 have k0 := h0
 have lt0 : ∀ x ∈ p0, x.block < W.heap.size := by obtain ⟨m, hm⟩ := k0; exact DataW.trod_lt m _ _ _ hm
 obtain ⟨a0, e0, rfl, cp0, ca0, el0⟩ := came_crl crlTypes (hval 0 27 v0 rfl rfl) h0
 clear hA0 hval0
 refine (walkEncodeSorts a0 e0 cp0 el0 W ca0 (tabOf hL)).mono fun e W' ⟨he, bel⟩ => ?_
 subst he
 exact ⟨_, rfl, _, _, _, [], _, [], hW', trodAll_mk1 (shut_bool Tryz.underlying4 _), (trodAll_cons_mk (Below.trod laidOut (by kernel_rfl) (of_decide_eq_true (by kernel_rfl)) k0 bel lt0) trodAll_mk0), rfl, bel.frame _, fun h => by cases h⟩
theorem said : Rows.EncodeSortsSaid :=
 OpenClaim.holds_of_cond 6 Tryz.f6 rfl rfl rfl rfl rfl rfl rfl ⟨rfl, rfl, rfl, rfl, rfl⟩ rfl rfl rfl rfl rfl (by kernel_rfl) Tryz.func6 (by kernel_rfl)
  (of_decide_eq_true (by kernel_rfl)) (by unfold Func.isWrapper; first | (rw [if_pos (by decide +kernel)]; kernel_rfl) | (rw [if_neg (by decide +kernel)]; exact ⟨rfl, rfl⟩))
  (fun os started H enc _ F => by rw [OpenClaim.pre_eq_preRow]; exact lifted os started H enc F)
theorem noStandIns : (#[27].all fun t => !Tryz.prog.wantsStandIn t) = true := by kernel_rfl
theorem plain (f : FuncId) (fn : Func) (hf : Tryz.pinned.checked.prog.funcNamed "gantlet/gantletlaw19.EncodeSorts" = some f) (hfn : Tryz.pinned.checked.prog.funcs[f]? = some fn) :
  false = Tryz.pinned.checked.prog.looks [] ∧ ∀ (j : Nat) t, fn.params[j]? = some t → Tryz.pinned.checked.prog.wantsStandIn t = false := by
 obtain rfl : f = 6 := Option.some.inj ((show Tryz.prog.funcNamed "gantlet/gantletlaw19.EncodeSorts" = some 6 by kernel_rfl).symm.trans hf) |>.symm
 obtain rfl : fn = Tryz.f6 := (Option.some.inj (Tryz.func6.symm.trans hfn)).symm
 refine ⟨by kernel_rfl, fun j t ht => ?_⟩
 rw [Tryz.params6] at ht
 have h := Array.all_eq_true_iff_forall_mem.1 noStandIns t (Array.mem_of_getElem? ht)
 show Tryz.prog.wantsStandIn t = false
 simpa using h
theorem proved : Rows.EncodeSortsCardSaid :=
 Claim7.holds_tied_plain_at .later [] _ _ _ _ said (fun _ h => by cases h) (by kernel_rfl) (fun _ h => by cases h) encodeSorts_row_tie rfl ⟨rfl, rfl⟩ (by kernel_rfl) rfl plain (by kernel_rfl)
end encodeSorts
end Go.Proofs.YtiecbagejdcafaaGreatDoor
