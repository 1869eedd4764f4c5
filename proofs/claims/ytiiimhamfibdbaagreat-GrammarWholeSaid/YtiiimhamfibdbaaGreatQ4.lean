/- Layer 20's reference: a state behind an element's end. Of every state in which a part is open. -/
import Derived.Test.YtiiimhamfibdbaaGreatQ2
import Derived.Test.YtiiimhamfibdbaaGreatQ3
import Derived.Test.YtiiimhamfibdbaaGreatM1
import Derived.Test.YtiiimhamfibdbaaGreatE1
import Derived.Test.YtiiimhamfibdbaaGreatV2
import Derived.Deep.LoopGhost
import Derived.StillTailTactics
import Derived.Deep.QuietTactic
import Derived.BigQuiet
namespace Go.Proofs.YtiiimhamfibdbaaGreat
open Go.RowKit Go.PlainAid
set_option linter.unusedVariables false
theorem SlotsAt.state {w w' : World} {b : Nat} {v : Value} {l : List GSlot} {L : List Value} (h : SlotsAt w v l) (hR : Row w b 61 L) (hk : ∀ j, j ≠ b → w'.heap[j]? = w.heap[j]?) : SlotsAt w' v l := by
 obtain ⟨hl, h1 | ⟨g, cap, cur, hv, hg, hh, hr⟩⟩ := h
 ·exact ⟨hl, .inl h1⟩
 ·refine ⟨hl, .inr ⟨g, cap, cur, hv, hg, ?_, hr⟩⟩
  rw [hk g ?_]; exact hh
  rintro rfl
  have h' : w.heap[g]? = some (.cells L.toArray 61 (0, 0)) := hR
  rw [h'] at hh
  injection hh with hh
  injection hh with _ ht _
  revert ht
  decide
set_option maxRecDepth 100000 in
set_option maxHeartbeats 16000000 in
theorem refGPush_exit {w : World} {ov : Value} {sop : List GO} {sleaf spart : Int} {sver : Bool} (hO : OpA w 0 ov sop.reverse) {oP : Int} {oK : Nat} {oC : Bool} {r : List GO} (hop : sop = GO.mk oP oK oC :: r) (hk : oK ≤ 1000) (hl : r.length ≤ 100000) (eat ec et : Int) (ef : Bool) (en eb : Int) :
  Calls Tryz.prog 17 #[rgV ov ⟨sop, sleaf, sver, spart⟩, evV ⟨5, eat, ec, et, ef, en, eb⟩] w fun x w' => ∃ v', x = .returned v' ∧ RgAt w' v' (GS.push ⟨sop, sleaf, sver, spart⟩ ⟨5, eat, ec, et, ef, en, eb⟩) ∧ Below w.heap.size w w' := by
 unfold rgV evV
 have HPS : Hid (∀ X : Int, X = (if overG oC ((rowG oP).drop oK) = true then oP else 0) → GS.push ⟨sop, sleaf, sver, spart⟩ ⟨5, eat, ec, et, ef, en, eb⟩ = ⟨r, sleaf, sver, X⟩) := Lib.hid (fun X hX => by
  unfold GS.push
  rw [if_neg (by show ¬ (5 : Int) = 1; decide), if_neg (by show ¬ (5 : Int) = 2; decide), if_neg (by show ¬ (5 : Int) = 3; decide), if_neg (by show ¬ (5 : Int) = 4; decide), hX, hop])
 subst hop
 rw [List.reverse_cons] at hO
 have hlen : (r.reverse ++ [GO.mk oP oK oC]).length = r.length + 1 := by simp
 obtain ⟨g, cp, rfl, hcp, hcm, _, hgw⟩ : ∃ g c, ov = .slice (some ⟨g, 0, none⟩) (r.reverse ++ [GO.mk oP oK oC]).length c ∧ (r.reverse ++ [GO.mk oP oK oC]).length ≤ c ∧ c ≤ maxLen ∧ 0 ≤ g ∧ g < w.heap.size := by
  rcases hO.shape with ⟨_, q⟩ | q
  ·simp at q
  ·exact q
 rw [hlen] at hO hcp ⊢
 have hcell := hO.at3 r.length (by rw [hlen]; omega)
 have hlast : (r.reverse ++ [GO.mk oP oK oC])[r.length]'(by rw [hlen]; omega) = GO.mk oP oK oC := by
  rw [List.getElem_append_right (by simp)]; simp
 rw [hlast] at hcell
 obtain ⟨c0, c1, c2⟩ := hcell
 have HOF := Lib.hid hO
 have hw1 : IntKind.i64.wrap ((r.length : Int) + 1 - 1) = (r.length : Int) := by rw [IntKind.wrap_i64]; omega
 have hw2 : ((r.length + 1 : Nat) : Int) - 1 = (r.length : Int) := by omega
 have hrl : (r.length : Int) < ((r.length + 1 : Nat) : Int) := by omega
 have HRW := Lib.hid (fun W => refRow_any oP W)
 clear hlast
 obtain ⟨W0, hW0⟩ : ∃ W, ((w.alloc (.cells #[.slice (some ⟨g, 0, none⟩) (r.length + 1) cp, .int .i64 sleaf, .bool sver, .int .i64 spart] 61)).alloc (.cells #[.int .i64 5, .int .i64 eat, .int .i64 ec, .int .i64 et, .bool ef, .int .i64 en, .int .u8 eb] 34)).alloc (.cells #[.slice none 0 0, .int .i64 0, .bool false, .int .i64 0] 61) = W := ⟨_, rfl⟩
 have hSX : Row W0 w.heap.size 61 [.slice (some ⟨g, 0, none⟩) (r.length + 1) cp, .int .i64 sleaf, .bool sver, .int .i64 spart] := by rw [← hW0]; exact ((Row.new w _ [.slice (some ⟨g, 0, none⟩) (r.length + 1) cp, .int .i64 sleaf, .bool sver, .int .i64 spart]).alloc _).alloc _
 have hEX : Row W0 (w.heap.size + 1) 34 [.int .i64 5, .int .i64 eat, .int .i64 ec, .int .i64 et, .bool ef, .int .i64 en, .int .u8 eb] := by rw [← hW0]; exact (row_new2 w _ _ [.int .i64 5, .int .i64 eat, .int .i64 ec, .int .i64 et, .bool ef, .int .i64 en, .int .u8 eb]).alloc _
 have hRX : Row W0 (w.heap.size + 1 + 1) 61 [.slice none 0 0, .int .i64 0, .bool false, .int .i64 0] := by
  have h := row_new2 (w.alloc (.cells #[.slice (some ⟨g, 0, none⟩) (r.length + 1) cp, .int .i64 sleaf, .bool sver, .int .i64 spart] 61)) (.cells #[.int .i64 5, .int .i64 eat, .int .i64 ec, .int .i64 et, .bool ef, .int .i64 en, .int .u8 eb] 34) 61 [.slice none 0 0, .int .i64 0, .bool false, .int .i64 0]
  have hs : (w.alloc (.cells #[.slice (some ⟨g, 0, none⟩) (r.length + 1) cp, .int .i64 sleaf, .bool sver, .int .i64 spart] 61)).heap.size = w.heap.size + 1 := by simp
  rw [hs] at h
  rw [← hW0]; exact h
 have hB0 : Below w.heap.size w W0 := by rw [← hW0]; exact (((Below.refl _ _).alloc (Nat.le_refl _) _).alloc (by simp) _).alloc (by simp; omega) _
 have HO0 : Hid (OpA W0 0 (.slice (some ⟨g, 0, none⟩) (r.length + 1) cp) (r.reverse ++ [GO.mk oP oK oC])) := Lib.hid (by rw [← hW0]; exact hO.below (((Below.refl _ _).alloc (Nat.le_refl _) _).alloc (by simp) _ |>.alloc (by simp; omega) _))
 have HSX := Lib.hid hSX
 have HEX := Lib.hid hEX
 have HRX := Lib.hid hRX
 have HB0 := Lib.hid hB0
 have HW0 := Lib.hid hW0
 clear hW0 hSX hEX hRX hB0 hO
 go_enter Tryz.func17, Tryz.ntmps17
 go_upto_region 1 with (fail)
 rw [HW0.out]
 clear HW0
 have z0 : W0.cell? ⟨w.heap.size + 1, 0, none⟩ = some (.int .i64 5) := HEX.out.cell 0
 have hgw0 : g < w.heap.size := hgw
 have c0 : W0.cell? ⟨g, r.length * 3, none⟩ = some (.int .i64 oP) := by rw [HB0.out.cell (show g < w.heap.size from hgw)]; exact c0
 have c1 : W0.cell? ⟨g, r.length * 3 + 1, none⟩ = some (.int .i64 (oK : Int)) := by rw [HB0.out.cell (show g < w.heap.size from hgw)]; exact c1
 have c2 : W0.cell? ⟨g, r.length * 3 + 2, none⟩ = some (.bool oC) := by rw [HB0.out.cell (show g < w.heap.size from hgw)]; exact c2
 have y0 : W0.cell? ⟨w.heap.size, 0, none⟩ = some (.slice (some ⟨g, 0, none⟩) (r.length + 1) cp) := HSX.out.cell 0
 have hlt0 : w.heap.size + 1 + 1 < W0.heap.size := HRX.out.lt
 go_upto_region 20 with (fail)
 have hba : Below W0.heap.size W0 (W0.alloc (.cells #[.int .i64 oP, .int .i64 (oK : Int), .bool oC] 89)) := (Below.refl _ _).alloc (Nat.le_refl _) _
 have HT1 : Hid (Row (W0.alloc (.cells #[.int .i64 oP, .int .i64 (oK : Int), .bool oC] 89)) W0.heap.size 89 [.int .i64 oP, .int .i64 (oK : Int), .bool oC]) := Lib.hid (Row.new W0 _ [.int .i64 oP, .int .i64 (oK : Int), .bool oC])
 have HS1 := Lib.hid (HSX.out.below hba HSX.out.lt)
 have HR1 := Lib.hid (HRX.out.below hba HRX.out.lt)
 have HB1 := Lib.hid (HB0.out.trans (hba.mono HB0.out.size))
 have HO1 := Lib.hid (HO0.out.below hba)
 clear hba c0 c1 c2 y0 z0 HSX HEX HRX HB0 HO0 HOF
 generalize W0.alloc (.cells #[.int .i64 oP, .int .i64 (oK : Int), .bool oC] 89) = w1 at *
 have hbt : w.heap.size < W0.heap.size := by omega
 have htw : W0.heap.size < w1.heap.size := HT1.out.lt
 have y0 : w1.cell? ⟨w.heap.size, 0, none⟩ = some (.slice (some ⟨g, 0, none⟩) (r.length + 1) cp) := HS1.out.cell 0
 have y0a : (w1.alloc (.cells #[] 89)).cell? ⟨w.heap.size, 0, none⟩ = some (.slice (some ⟨g, 0, none⟩) (r.length + 1) cp) := (HS1.out.below ((Below.refl _ _).alloc (Nat.le_refl _) _) HS1.out.lt).cell 0
 have hc1 : (r.length : Int) ≤ (cp : Int) := by omega
 have hrr : r.reverse.length = r.length := List.length_reverse
 have HEW : Hid (OpA (w1.alloc (.cells #[] 89)) w1.heap.size (.slice (some ⟨w1.heap.size, 0, none⟩) 0 0) []) := Lib.hid (OpA.made (Row.new w1 89 []) (Nat.le_refl _))
 have HFC : Hid (∀ j u, (gosC r.reverse)[j]? = some u → (w1.alloc (.cells #[] 89)).cell? ((⟨g, 0, none⟩ : Addr).add j) = some u) := Lib.hid ((HO1.out.below ((Below.refl _ _).alloc (Nat.le_refl _) _)).front)
 go_wp2_with (at_builtin; refine wpList_append_gos rfl (.tmp 84) (.tmp 91) rfl w1.heap.size (l := []) rfl HEW.out (by simp) ⟨g, 0, none⟩ r.length cp r.reverse rfl hrr HFC.out (by rw [hrr]; simp; omega) ?_)
 intro v1 X1 hv1 hg1
 have hX1 : Below w1.heap.size w1 X1 := ((Below.refl _ _).alloc (Nat.le_refl _) _).grown hg1 (by simp) (by intro q hq; cases hq; exact Nat.le_refl _)
 have HV1 : Hid (OpA X1 w1.heap.size v1 r.reverse) := Lib.hid (by simpa using hv1)
 have HVC := Lib.hid HV1.out.one_cell
 obtain ⟨oo1, n1, d1, rfl⟩ : ∃ o n c, v1 = .slice o n c := by
  rcases HV1.out.shape with ⟨q, _⟩ | ⟨g, c, q, _⟩
  ·exact ⟨_, _, _, q⟩
  ·exact ⟨_, _, _, q⟩
 have HSa := Lib.hid (HS1.out.below hX1 HS1.out.lt)
 have HTa := Lib.hid (HT1.out.below hX1 HT1.out.lt)
 have HRa := Lib.hid (HR1.out.below hX1 HR1.out.lt)
 have HBa := Lib.hid (HB1.out.trans (hX1.mono HB1.out.size))
 have y0 : X1.cell? ⟨w.heap.size, 0, none⟩ = some (.slice (some ⟨g, 0, none⟩) (r.length + 1) cp) := HSa.out.cell 0
 have f0 := HSa.out.frozen 0
 clear y0a hv1 hg1 hX1 HEW HFC HS1 HT1 HR1 HB1 HO1
 have t0 : X1.cell? ⟨W0.heap.size, 0, none⟩ = some (.int .i64 oP) := HTa.out.cell 0
 go_upto_region 21 with (fail)
 have HS2 : Hid (Row (X1.setCell ⟨w.heap.size, 0, none⟩ (.slice oo1 n1 d1)) w.heap.size 61 [.slice oo1 n1 d1, .int .i64 sleaf, .bool sver, .int .i64 spart]) := Lib.hid (HSa.out.set 0 _)
 have HT2 : Hid (Row (X1.setCell ⟨w.heap.size, 0, none⟩ (.slice oo1 n1 d1)) W0.heap.size 89 [.int .i64 oP, .int .i64 (oK : Int), .bool oC]) := Lib.hid (HTa.out.far (p := ⟨w.heap.size, 0, none⟩) (by show W0.heap.size ≠ w.heap.size; omega) _)
 have HR2 : Hid (Row (X1.setCell ⟨w.heap.size, 0, none⟩ (.slice oo1 n1 d1)) (w.heap.size + 1 + 1) 61 [.slice none 0 0, .int .i64 0, .bool false, .int .i64 0]) := Lib.hid (HRa.out.far (p := ⟨w.heap.size, 0, none⟩) (by show w.heap.size + 1 + 1 ≠ w.heap.size; omega) _)
 have HB2 : Hid (Below w.heap.size w (X1.setCell ⟨w.heap.size, 0, none⟩ (.slice oo1 n1 d1))) := Lib.hid (HBa.out.setCell (Nat.le_refl _) _)
 have HV2 : Hid (OpA (X1.setCell ⟨w.heap.size, 0, none⟩ (.slice oo1 n1 d1)) 0 (.slice oo1 n1 d1) r.reverse) := Lib.hid ((HV1.out.mono (Nat.zero_le _)).state HSa.out (fun j hj => Below.heap_setCell _ _ _ j hj))
 clear y0 f0 t0 HSa HTa HRa HBa HV1
 generalize X1.setCell ⟨w.heap.size, 0, none⟩ (.slice oo1 n1 d1) = w2 at *
 have t0 : w2.cell? ⟨W0.heap.size, 0, none⟩ = some (.int .i64 oP) := HT2.out.cell 0
 have y3 : w2.cell? ⟨w.heap.size, 3, none⟩ = some (.int .i64 spart) := HS2.out.cell 3
 have f3 := HS2.out.frozen 3
 go_upto_region 22 with (fail)
 have HS3 : Hid (Row (w2.setCell ⟨w.heap.size, 3, none⟩ (.int .i64 oP)) w.heap.size 61 [.slice oo1 n1 d1, .int .i64 sleaf, .bool sver, .int .i64 oP]) := Lib.hid (HS2.out.set 3 _)
 have HT3 : Hid (Row (w2.setCell ⟨w.heap.size, 3, none⟩ (.int .i64 oP)) W0.heap.size 89 [.int .i64 oP, .int .i64 (oK : Int), .bool oC]) := Lib.hid (HT2.out.far (p := ⟨w.heap.size, 3, none⟩) (by show W0.heap.size ≠ w.heap.size; omega) _)
 have HR3 : Hid (Row (w2.setCell ⟨w.heap.size, 3, none⟩ (.int .i64 oP)) (w.heap.size + 1 + 1) 61 [.slice none 0 0, .int .i64 0, .bool false, .int .i64 0]) := Lib.hid (HR2.out.far (p := ⟨w.heap.size, 3, none⟩) (by show w.heap.size + 1 + 1 ≠ w.heap.size; omega) _)
 have HB3 : Hid (Below w.heap.size w (w2.setCell ⟨w.heap.size, 3, none⟩ (.int .i64 oP))) := Lib.hid (HB2.out.setCell (Nat.le_refl _) _)
 have HV3 : Hid (OpA (w2.setCell ⟨w.heap.size, 3, none⟩ (.int .i64 oP)) 0 (.slice oo1 n1 d1) r.reverse) := Lib.hid (HV2.out.state HS2.out (fun j hj => Below.heap_setCell _ _ _ j hj))
 clear t0 y3 f3 HS2 HT2 HR2 HB2 HV2
 generalize w2.setCell ⟨w.heap.size, 3, none⟩ (.int .i64 oP) = w3 at *
 have t0 : w3.cell? ⟨W0.heap.size, 0, none⟩ = some (.int .i64 oP) := HT3.out.cell 0
 go_wp2_with fail
 refine (HRW.out _).mono ?_
 rintro e w4 ⟨lv, rfl, hlv, hb⟩
 have HS4 := Lib.hid (HS3.out.below hb HS3.out.lt)
 have HT4 := Lib.hid (HT3.out.below hb HT3.out.lt)
 have HR4 := Lib.hid (HR3.out.below hb HR3.out.lt)
 have HB4 := Lib.hid (HB3.out.trans (hb.mono HB3.out.size))
 have HV4 := Lib.hid (HV3.out.below hb)
 have HL4 := Lib.hid hlv
 obtain ⟨lo, lc, hle⟩ : ∃ lo c, lv = .slice lo (rowG oP).length c := by
  rcases hlv.shape with ⟨rfl, q⟩ | ⟨g, c, rfl, _⟩
  ·rw [q]; exact ⟨_, _, rfl⟩
  ·exact ⟨_, _, rfl⟩
 subst hle
 clear hb hlv t0 HS3 HT3 HR3 HB3 HV3 HRW
 have t1 : w4.cell? ⟨W0.heap.size, 1, none⟩ = some (.int .i64 (oK : Int)) := HT4.out.cell 1
 go_upto_region 24 with (fail)
 obtain ⟨OV, hOV⟩ : ∃ OV, overG oC ((rowG oP).drop oK) = OV := ⟨_, rfl⟩
 have HOV := Lib.hid hOV
 rw [hOV] at HPS
 clear hOV
 go_loopg [7] (rowG oP).length (fun gk kv wr => ∃ (i : Nat) (ok : Bool) (X : Int), kv = .int .i64 (i : Int) ∧ oK ≤ i ∧ i ≤ 100000 ∧ (rowG oP).length - i ≤ gk ∧ Hid (X = if ok = true then oP else 0) ∧ Hid ((ok && overG (decide (i = oK) && oC) ((rowG oP).drop i)) = OV) ∧ Hid (Row wr w.heap.size 61 [.slice oo1 n1 d1, .int .i64 sleaf, .bool sver, .int .i64 X]) ∧ Hid (Row wr W0.heap.size 89 [.int .i64 oP, .int .i64 (oK : Int), .bool oC]) ∧ Hid (Row wr (w.heap.size + 1 + 1) 61 [.slice none 0 0, .int .i64 0, .bool false, .int .i64 0]) ∧ Hid (Below w.heap.size w wr) ∧ Hid (OpA wr 0 (.slice oo1 n1 d1) r.reverse) ∧ Hid (SlotsAt wr (.slice lo (rowG oP).length lc) (rowG oP)))
 case atStart => exact ⟨oK, true, oP, rfl, Nat.le_refl _, by omega, by omega, Lib.hid rfl, Lib.hid (by simpa using HOV.out), HS4, HT4, HR4, HB4, HV4, HL4⟩
 case round =>
  clear t1 HS4 HT4 HR4 HB4 HV4 HL4
  obtain ⟨i, ok, X, rfl, hki, hi1, hgk, HX, HOK, HS4, HT4, HR4, HB4, HV4, HL4⟩ := hrel
  obtain ⟨w4, hw4⟩ : ∃ x, x = wr := ⟨_, rfl⟩
  subst hw4
  by_cases hlt : i < (rowG oP).length
  ·have hlt2 : (i : Int) < ((rowG oP).length : Int) := by omega
   have hdr : (rowG oP).drop i = (rowG oP)[i] :: (rowG oP).drop (i + 1) := List.drop_eq_getElem_cons hlt
   obtain ⟨lg, rfl, hlc⟩ : ∃ lg, lo = some ⟨lg, 0, none⟩ ∧ (rowG oP).length ≤ lc := by
    rcases HL4.out.shape with ⟨q, e⟩ | ⟨g, c, q, h1, _⟩
    ·rw [e] at hlt; exact absurd hlt (Nat.not_lt_zero _)
    ·injection q with q1 q2 q3; subst q3; exact ⟨g, q1, h1⟩
   obtain ⟨s0, s1, s2⟩ := HL4.out.cells i hlt
   obtain ⟨⟨P, mb, mn⟩, hrow⟩ : ∃ x, (rowG oP)[i] = x := ⟨_, rfl⟩
   have hok := HOK.out
   rw [hdr, hrow, overG] at hok
   rw [hrow] at s1
   replace s1 : w4.cell? ⟨lg, i * 3 + 1, none⟩ = some (.bool mb) := s1
   replace hok : (ok && ((decide (i = oK) && oC || mb) && overG false ((rowG oP).drop (i + 1)))) = OV := hok
   have hic : (i : Int) < (lc : Int) := by omega
   have t1 : w4.cell? ⟨W0.heap.size, 1, none⟩ = some (.int .i64 (oK : Int)) := HT4.out.cell 1
   have t2 : w4.cell? ⟨W0.heap.size, 2, none⟩ = some (.bool oC) := HT4.out.cell 2
   have y3 : w4.cell? ⟨w.heap.size, 3, none⟩ = some (.int .i64 X) := HS4.out.cell 3
   have f3 := HS4.out.frozen 3
   have hro : rowG oP ≠ [] := by intro e; rw [e] at hlt; exact absurd hlt (Nat.not_lt_zero _)
   have hrl9 := rowG_len oP
   have HOK2 := Lib.hid hok
   have HDI : Hid (decide (i + 1 = oK) = false) := Lib.hid (decide_eq_false (by omega))
   have hg0 : w.heap.size ≠ lg := by
    intro e
    have h1 := HL4.out
    obtain ⟨hl', ⟨h1, _⟩ | ⟨g9, cap, cur, hv, hg, hh, hr⟩⟩ := h1
    ·cases h1
    ·injection hv with q1; injection q1 with q1; injection q1 with q1
     subst q1
     have h' : w4.heap[lg]? = some (.cells [.slice oo1 n1 d1, .int .i64 sleaf, .bool sver, .int .i64 X].toArray 61 (0, 0)) := by rw [← e]; exact HS4.out
     rw [h'] at hh
     injection hh with hh
     injection hh with _ ht _
     revert ht
     decide
   clear hdr hok hrow s0 s2 HOK hro
   have HSN : Hid (∀ b : Bool, (decide (i = oK) && oC || mb) = b → ∃ ok2, (if b = true then ok2 = ok else ok2 = false) ∧ (ok2 && overG (decide (i + 1 = oK) && oC) ((rowG oP).drop (i + 1))) = OV) := Lib.hid (fun b hb => by
    have h := HOK2.out
    rw [hb] at h
    rw [HDI.out, Bool.false_and]
    cases b
    ·exact ⟨false, rfl, by rw [Bool.false_and]; rw [Bool.false_and, Bool.and_false] at h; exact h⟩
    ·exact ⟨ok, rfl, by rw [Bool.true_and] at h; exact h⟩)
   obtain ⟨CM, hCM⟩ : ∃ CM : Bool, (decide (i = oK) && oC) = CM := ⟨_, rfl⟩
   have HCM := Lib.hid hCM
   rw [hCM] at HSN
   clear hCM HOK2 HDI
   by_cases hik : i = oK
   ·subst hik
    have hik2 : ((i : Int) == (i : Int)) = true := by simp
    cases oC
    ·have HCM2 : Hid (CM = false) := Lib.hid (by rw [← HCM.out]; simp)
     cases mb
     ·have HN := Lib.hid (HSN.out false (by rw [HCM2.out]; rfl))
      obtain ⟨ok2, hk1, hk2⟩ := HN.out
      rw [if_neg (by decide)] at hk1
      subst hk1
      have HK2 := Lib.hid hk2
      have HS5 : Hid (Row (w4.setCell ⟨w.heap.size, 3, none⟩ (.int .i64 0)) w.heap.size 61 [.slice oo1 n1 d1, .int .i64 sleaf, .bool sver, .int .i64 0]) := Lib.hid (HS4.out.set 3 _)
      have HT5 : Hid (Row (w4.setCell ⟨w.heap.size, 3, none⟩ (.int .i64 0)) W0.heap.size 89 [.int .i64 oP, .int .i64 (i : Int), .bool false]) := Lib.hid (HT4.out.far (p := ⟨w.heap.size, 3, none⟩) (by show W0.heap.size ≠ w.heap.size; omega) _)
      have HR5 : Hid (Row (w4.setCell ⟨w.heap.size, 3, none⟩ (.int .i64 0)) (w.heap.size + 1 + 1) 61 [.slice none 0 0, .int .i64 0, .bool false, .int .i64 0]) := Lib.hid (HR4.out.far (p := ⟨w.heap.size, 3, none⟩) (by show w.heap.size + 1 + 1 ≠ w.heap.size; omega) _)
      have HB5 : Hid (Below w.heap.size w (w4.setCell ⟨w.heap.size, 3, none⟩ (.int .i64 0))) := Lib.hid (HB4.out.setCell (Nat.le_refl _) _)
      have HV5 : Hid (OpA (w4.setCell ⟨w.heap.size, 3, none⟩ (.int .i64 0)) 0 (.slice oo1 n1 d1) r.reverse) := Lib.hid (HV4.out.state HS4.out (fun j hj => Below.heap_setCell _ _ _ j hj))
      have HL5 : Hid (SlotsAt (w4.setCell ⟨w.heap.size, 3, none⟩ (.int .i64 0)) (.slice (some ⟨lg, 0, none⟩) (rowG oP).length lc) (rowG oP)) := Lib.hid (HL4.out.state HS4.out (fun j hj => Below.heap_setCell _ _ _ j hj))
      clear HN hk2 HSN HCM HCM2 HX HS4 HT4 HR4 HB4 HV4 HL4
      go_wp2_with fail
      go_roundg ((rowG oP).length - (i + 1))
      case measure => omega
      case rel => exact ⟨i + 1, false, 0, by simp, by omega, by omega, by omega, Lib.hid rfl, HK2, HS5, HT5, HR5, HB5, HV5, HL5⟩
     ·have HN := Lib.hid (HSN.out true (by rw [HCM2.out]; simp))
      obtain ⟨ok2, hk1, hk2⟩ := HN.out
      rw [if_pos rfl] at hk1
      subst hk1
      have HK2 := Lib.hid hk2
      clear HN hk2 HSN HCM HCM2
      go_wp2_with fail
      go_roundg ((rowG oP).length - (i + 1))
      case measure => omega
      case rel => exact ⟨i + 1, ok2, X, by simp, by omega, by omega, by omega, HX, HK2, HS4, HT4, HR4, HB4, HV4, HL4⟩
    ·have HCM2 : Hid (CM = true) := Lib.hid (by rw [← HCM.out]; simp)
     have HN := Lib.hid (HSN.out true (by rw [HCM2.out]; simp))
     obtain ⟨ok2, hk1, hk2⟩ := HN.out
     rw [if_pos rfl] at hk1
     subst hk1
     have HK2 := Lib.hid hk2
     clear HN hk2 HSN HCM HCM2
     go_wp2_with fail
     go_roundg ((rowG oP).length - (i + 1))
     case measure => omega
     case rel => exact ⟨i + 1, ok2, X, by simp, by omega, by omega, by omega, HX, HK2, HS4, HT4, HR4, HB4, HV4, HL4⟩
   ·have hik2 : ((i : Int) == (oK : Int)) = false := by simp; omega
    have HCM2 : Hid (CM = false) := Lib.hid (by rw [← HCM.out]; simp [hik])
    clear hik
    cases mb
    ·have HN := Lib.hid (HSN.out false (by rw [HCM2.out]; rfl))
     obtain ⟨ok2, hk1, hk2⟩ := HN.out
     rw [if_neg (by decide)] at hk1
     subst hk1
     have HK2 := Lib.hid hk2
     have HS5 : Hid (Row (w4.setCell ⟨w.heap.size, 3, none⟩ (.int .i64 0)) w.heap.size 61 [.slice oo1 n1 d1, .int .i64 sleaf, .bool sver, .int .i64 0]) := Lib.hid (HS4.out.set 3 _)
     have HT5 : Hid (Row (w4.setCell ⟨w.heap.size, 3, none⟩ (.int .i64 0)) W0.heap.size 89 [.int .i64 oP, .int .i64 (oK : Int), .bool oC]) := Lib.hid (HT4.out.far (p := ⟨w.heap.size, 3, none⟩) (by show W0.heap.size ≠ w.heap.size; omega) _)
     have HR5 : Hid (Row (w4.setCell ⟨w.heap.size, 3, none⟩ (.int .i64 0)) (w.heap.size + 1 + 1) 61 [.slice none 0 0, .int .i64 0, .bool false, .int .i64 0]) := Lib.hid (HR4.out.far (p := ⟨w.heap.size, 3, none⟩) (by show w.heap.size + 1 + 1 ≠ w.heap.size; omega) _)
     have HB5 : Hid (Below w.heap.size w (w4.setCell ⟨w.heap.size, 3, none⟩ (.int .i64 0))) := Lib.hid (HB4.out.setCell (Nat.le_refl _) _)
     have HV5 : Hid (OpA (w4.setCell ⟨w.heap.size, 3, none⟩ (.int .i64 0)) 0 (.slice oo1 n1 d1) r.reverse) := Lib.hid (HV4.out.state HS4.out (fun j hj => Below.heap_setCell _ _ _ j hj))
     have HL5 : Hid (SlotsAt (w4.setCell ⟨w.heap.size, 3, none⟩ (.int .i64 0)) (.slice (some ⟨lg, 0, none⟩) (rowG oP).length lc) (rowG oP)) := Lib.hid (HL4.out.state HS4.out (fun j hj => Below.heap_setCell _ _ _ j hj))
     clear HN hk2 HSN HCM HCM2 HX HS4 HT4 HR4 HB4 HV4 HL4
     go_wp2_with fail
     go_roundg ((rowG oP).length - (i + 1))
     case measure => omega
     case rel => exact ⟨i + 1, false, 0, by simp, by omega, by omega, by omega, Lib.hid rfl, HK2, HS5, HT5, HR5, HB5, HV5, HL5⟩
    ·have HN := Lib.hid (HSN.out true (by rw [HCM2.out]; simp))
     obtain ⟨ok2, hk1, hk2⟩ := HN.out
     rw [if_pos rfl] at hk1
     subst hk1
     have HK2 := Lib.hid hk2
     clear HN hk2 HSN HCM HCM2
     go_wp2_with fail
     go_roundg ((rowG oP).length - (i + 1))
     case measure => omega
     case rel => exact ⟨i + 1, ok2, X, by simp, by omega, by omega, by omega, HX, HK2, HS4, HT4, HR4, HB4, HV4, HL4⟩
  ·have hge : ¬ (i : Int) < ((rowG oP).length : Int) := by omega
   have hdn : (rowG oP).drop i = [] := List.drop_of_length_le (by omega)
   have hov : ok = OV := by
    have h := HOK.out
    rw [hdn, overG, Bool.and_true] at h
    exact h
   have HXO : Hid (X = if OV = true then oP else 0) := Lib.hid (by rw [← hov]; exact HX.out)
   have hbl := HR4.out.lt
   clear hdn hov HOK HL4 HT4 HX
   obtain ⟨L, hL⟩ : ∃ L : List Value, L = [.slice oo1 n1 d1, .int .i64 sleaf, .bool sver, .int .i64 X] := ⟨_, rfl⟩
   have hLl : L.length = 4 := by rw [hL]; rfl
   have hRw : Row w4 w.heap.size 61 L := by rw [hL]; exact HS4.out
   have HLO : Hid (∀ u ∈ L, u.oneCell' = true) := Lib.hid (by rw [hL]; intro u hu; simp at hu; rcases hu with rfl | rfl | rfl | rfl <;> rfl)
   have HLI : Hid ((Tryz.prog.info? 61).map (·.size) = some L.length) := Lib.hid (by rw [hLl]; exact infoRg)
   have HLI2 : Hid ((Tryz.prog.info? 61).map (·.size) = some L.toArray.size) := Lib.hid (by rw [List.size_toArray, hLl]; exact infoRg)
   have HLR := Lib.hid hRw.whole
   have hSw : Row w4 (w.heap.size + 1 + 1) 61 [.slice none 0 0, .int .i64 0, .bool false, .int .i64 0] := HR4.out
   have HLT : Hid (World.there w4 (w.heap.size + 1 + 1) 0 L.toArray.size) := Lib.hid (hSw.there (by rw [List.size_toArray, hLl]; simp))
   have HFin : Hid (Row (World.setCells w4 (w.heap.size + 1 + 1) 0 L) (w.heap.size + 1 + 1) 61 L) := Lib.hid (hSw.setAll (by rw [hLl]; rfl))
   have hBw : Below w.heap.size w w4 := HB4.out
   have HFB : Hid (Below w.heap.size w (World.setCells w4 (w.heap.size + 1 + 1) 0 L)) := Lib.hid (below_setCells _ _ hBw (by omega))
   have HFO : Hid (OpA (World.setCells w4 (w.heap.size + 1 + 1) 0 L) 0 (.slice oo1 n1 d1) r.reverse) := Lib.hid ((HV4.out).state hSw (fun j hj => heap_setCells_far L 0 _ _ hj))
   have HPU : Hid (GS.push ⟨GO.mk oP oK oC :: r, sleaf, sver, spart⟩ ⟨5, eat, ec, et, ef, en, eb⟩ = ⟨r, sleaf, sver, X⟩) := Lib.hid (by exact HPS.out X HXO.out)
   have HLL := Lib.hid hL
   clear hRw hSw hBw hL hLl
   go_wp2_with (first
    |refine wpList_load_mid rfl 61 (.tmp 2) rfl w.heap.size 0 rfl L _ HLR.out Tryz.underlying61 rfl HLI.out ?_
    |refine wpList_store_mid rfl 61 (.tmp 4) (.tmp 126) rfl (w.heap.size + 1 + 1) 0 L.toArray rfl rfl HLT.out HLI2.out (all_oneCell_toArray HLO.out) ?_)
   exact bodyPost_ret (results_cell Tryz.results17 _ (ad := ⟨w.heap.size + 1 + 1, 0, none⟩) rfl (run_loadVar_mid _ _ 0 _ L _ HFin.out.whole Tryz.underlying61 rfl HLI.out)) rfl ⟨_, rfl, ⟨(.slice oo1 n1 d1), by rw [HPU.out, HLL.out]; rfl, by rw [HPU.out]; exact HFO.out⟩, HFB.out⟩
end Go.Proofs.YtiiimhamfibdbaaGreat
/- Layer 20's reference: its parts of some events, and the first thing that is wrong with a text. -/
namespace Go.Proofs.YtiiimhamfibdbaaGreat
open Go.RowKit Go.PlainAid
set_option linter.unusedVariables false
theorem refGPush_any {w : World} {v : Value} {s : GS} {o : GO} {r : List GO} (hv : RgAt w v s) (hop : s.op = o :: r) (hk : o.k ≤ 1000) (hl : r.length ≤ 100000) (e : Ev) (he : 1 ≤ e.k ∧ e.k ≤ 5) :
  Calls Tryz.prog 17 #[v, evV e] w fun x w' => ∃ v', x = .returned v' ∧ RgAt w' v' (s.push e) ∧ Below w.heap.size w w' := by
 obtain ⟨ov, rfl, hO⟩ := hv
 obtain ⟨sop, sleaf, sver, spart⟩ := s
 obtain ⟨ek, eat, ec, et, ef, en, eb⟩ := e
 replace hop : sop = o :: r := hop
 have hc : ek = 1 ∨ ek = 2 ∨ ek = 3 ∨ ek = 4 ∨ ek = 5 := by have h1 : 1 ≤ ek := he.1; have h2 : ek ≤ 5 := he.2; omega
 rcases hc with rfl | rfl | rfl | rfl | rfl
 ·exact refGPush_enter hO hop hk hl eat ec et ef en eb
 ·exact refGPush_leaf hO hop hk hl eat ec et ef en eb
 ·exact refGPush_byte hO eat ec et ef en eb
 ·exact refGPush_end hO eat ec et ef en eb
 ·exact refGPush_exit hO hop hk hl eat ec et ef en eb
def GS.low (s : GS) : Prop := ∀ o ∈ s.op, o.k ≤ 7
theorem scanG_lt {c t : Int} {f : Bool} {n : Int} : ∀ (l : List GSlot) (came : Bool) (k k' : Nat) (p : Int), scanG c t f n came k l = some (k', p) → k' < k + l.length := by
 intro l
 induction l with
 |nil => intro came k k' p h; cases h
 |cons s r ih =>
  intro came k k' p h
  unfold scanG at h
  rw [List.length_cons]
  split at h
  ·injection h with h
   injection h with h1 h2
   omega
  ·split at h
   ·cases h
   ·have := ih _ _ _ _ h
    omega
theorem GS.low_head {s : GS} (h : s.low) (c t : Int) (f : Bool) (n : Int) : (s.head c t f n).low := by
 unfold GS.low at *
 unfold GS.head
 cases hs : s.op with
 |nil => intro o ho; cases ho
 |cons o r =>
  rw [hs] at h
  dsimp only
  cases hq : scanG c t f n o.came o.k ((rowG o.p).drop o.k) with
  |none => intro x hx; exact h x hx
  |some x =>
   obtain ⟨k, p⟩ := x
   intro y hy
   rcases List.mem_cons.1 hy with rfl | hy
   ·have h1 := scanG_lt _ _ _ _ _ hq
    have h2 := rowG_len o.p
    have h3 := h o (List.mem_cons_self ..)
    rw [List.length_drop] at h1
    show k ≤ 7
    omega
   ·exact h y (List.mem_cons_of_mem _ hy)
theorem GS.low_push {s : GS} (h : s.low) (e : Ev) : (s.push e).low := by
 have hh := GS.low_head h e.c e.t e.f e.n
 unfold GS.push
 split
 ·intro o ho
  rcases List.mem_cons.1 ho with rfl | ho
  ·exact Nat.zero_le _
  ·exact hh o ho
 ·split
  ·exact hh
  ·split
   ·exact h
   ·split
    ·exact h
    ·cases hs : s.op with
     |nil => intro o ho; cases ho
     |cons o r => intro x hx; exact h x (by rw [hs]; exact List.mem_cons_of_mem _ hx)
theorem GS.parts_next {s : GS} {l : List Ev} {e : Ev} (h : (s.parts l).length = l.length) : (((s.run l).push e).part = 0 → ∀ r, s.parts (l ++ e :: r) = s.parts l) ∧ (((s.run l).push e).part ≠ 0 → s.parts (l ++ [e]) = s.parts l ++ [((s.run l).push e).part]) := by
 refine ⟨fun h0 r => ?_, fun h0 => ?_⟩
 ·rw [GS.parts_append l _ s h, GS.parts, if_pos h0, List.append_nil]
 ·rw [GS.parts_append l _ s h, GS.parts, if_neg h0]; rfl
theorem Sl.state {w w' : World} {b g : Nat} {v : Value} {l : List Value} {L : List Value} (h : Sl w 3 v l g) (hR : Row w b 61 L) (hk : ∀ j, j ≠ b → w'.heap[j]? = w.heap[j]?) : Sl w' 3 v l g := by
 obtain ⟨sp, hv, hm, hr⟩ := h
 refine ⟨sp, hv, hm, ?_⟩
 have hr' : w.heap[g]? = some (.cells (l ++ sp).toArray 3 (0, 0)) := hr
 show w'.heap[g]? = _
 rw [hk g ?_]; exact hr
 rintro rfl
 have h' : w.heap[g]? = some (.cells L.toArray 61 (0, 0)) := hR
 rw [h'] at hr'
 injection hr' with hh
 injection hh with _ ht _
 revert ht
 decide
theorem own_other {w w' : World} {base : Nat} {e t : TypeId} {size : Nat} {v : Value} {n : Nat} {xs L : List Value} {b : Nat} (h : w.ownsRow base e size v n xs) (hR : Row w b t L) (he : e ≠ t) (hk : ∀ j, j < w.heap.size → j ≠ b → w'.heap[j]? = w.heap[j]?) : w'.ownsRow base e size v n xs := by
 obtain ⟨hl, h1 | ⟨g, cap, cur, hv, hg, hh, hr⟩⟩ := h
 ·exact ⟨hl, .inl h1⟩
 ·refine ⟨hl, .inr ⟨g, cap, cur, hv, hg, ?_, hr⟩⟩
  have hlt : g < w.heap.size := by
   rcases Nat.lt_or_ge g w.heap.size with h1 | h1
   ·exact h1
   ·rw [Array.getElem?_eq_none h1] at hh; cases hh
  rw [hk g hlt ?_]; exact hh
  rintro rfl
  have h' : w.heap[g]? = some (.cells L.toArray t (0, 0)) := hR
  rw [h'] at hh
  injection hh with hh
  injection hh with _ ht _
  exact he ht.symm
theorem row_apart {w : World} {a b : Nat} {s t : TypeId} {L M : List Value} (h : Row w a s L) (k : Row w b t M) (he : s ≠ t) : a ≠ b := by
 rintro rfl
 have h1 : w.heap[a]? = some (.cells L.toArray s (0, 0)) := h
 have h2 : w.heap[a]? = some (.cells M.toArray t (0, 0)) := k
 rw [h1] at h2
 injection h2 with h2
 injection h2 with _ ht _
 exact he ht
set_option maxRecDepth 100000 in
set_option maxHeartbeats 16000000 in
theorem refGParts_any {w : World} {base : Nat} {v : Value} {L : List Ev} (hE : Evs w base v L) (hl : L.length ≤ 90000) (hf : GS.fine 64 GS.new L) (hk : ∀ e ∈ L, 1 ≤ e.k ∧ e.k ≤ 5) :
  Calls Tryz.prog 9 #[v] w fun x w' => ∃ v' g, x = .returned v' ∧ Sl w' 3 v' (i64s (partsG L)) g ∧ w.heap.size ≤ g ∧ Below w.heap.size w w' := by
 obtain ⟨vo, vc, rfl⟩ : ∃ o c, v = .slice o L.length c := by
  rcases hE.shape with ⟨rfl, q⟩ | ⟨g, c, rfl, _⟩
  ·rw [q]; exact ⟨_, _, rfl⟩
  ·exact ⟨_, _, rfl⟩
 have HE := Lib.hid hE
 have HF := Lib.hid hf
 have HK := Lib.hid hk
 have hl9 : (L.length : Int) ≤ 90000 := by omega
 clear hE hf hk
 go_enter Tryz.func9, Tryz.ntmps9
 go_wp2_with fail
 refine (refGNew_any _).mono ?_
 rintro e w1 ⟨vn, rfl, ⟨ov, rfl, hO⟩, hb⟩
 obtain ⟨oo, n, d, rfl⟩ : ∃ o n c, ov = .slice o n c := by
  rcases hO.shape with ⟨q, _⟩ | ⟨g, c, q, _⟩
  ·exact ⟨_, _, _, q⟩
  ·exact ⟨_, _, _, q⟩
 have hRV : rgV (.slice oo n d) GS.new = .agg #[.slice oo n d, .int .i64 0, .bool false, .int .i64 0] := rfl
 rw [hRV]
 have hba : Below w1.heap.size w1 ((w1.alloc (.cells #[.slice oo n d, .int .i64 0, .bool false, .int .i64 0] 61)).alloc (.cells #[] 3)) := ((Below.refl _ _).alloc (Nat.le_refl _) _).alloc (by simp) _
 have HR1 : Hid (Row ((w1.alloc (.cells #[.slice oo n d, .int .i64 0, .bool false, .int .i64 0] 61)).alloc (.cells #[] 3)) w1.heap.size 61 [.slice oo n d, .int .i64 0, .bool false, .int .i64 0]) := Lib.hid ((Row.new w1 _ [.slice oo n d, .int .i64 0, .bool false, .int .i64 0]).alloc _)
 have HL1 : Hid (Sl ((w1.alloc (.cells #[.slice oo n d, .int .i64 0, .bool false, .int .i64 0] 61)).alloc (.cells #[] 3)) 3 (.slice (some ⟨w1.heap.size + 1, 0, none⟩) 0 0) (i64s []) (w1.heap.size + 1)) := Lib.hid (by
  have h := sl_new_ints (w1.alloc (.cells #[.slice oo n d, .int .i64 0, .bool false, .int .i64 0] 61)) [] (Nat.zero_le _)
  have hs : (w1.alloc (.cells #[.slice oo n d, .int .i64 0, .bool false, .int .i64 0] 61)).heap.size = w1.heap.size + 1 := by simp
  rw [hs] at h
  exact h)
 have HO1 := Lib.hid (hO.below hba)
 have HE1 := Lib.hid ((HE.out.below hb).below hba)
 have HB1 := Lib.hid (hb.trans (hba.mono hb.size))
 have hw1 : w.heap.size ≤ w1.heap.size := hb.size
 clear hO hb hba HE hRV
 go_upto_region 4 with (fail)
 generalize (w1.alloc (.cells #[.slice oo n d, .int .i64 0, .bool false, .int .i64 0] 61)).alloc (.cells #[] 3) = w2 at *
 generalize w1.heap.size = kb at *
 go_loopg [4, 5] L.length (fun gk lv iv wr => ∃ (i : Nat) (s : GS) (oo : Option Addr) (n d : Nat), iv = .int .i64 (i : Int) ∧ i ≤ L.length ∧ L.length - i ≤ gk ∧ Hid (s = GS.new.run (L.take i)) ∧ Hid ((GS.new.parts (L.take i)).length = i) ∧ Hid (∃ g, Sl wr 3 lv (i64s (GS.new.parts (L.take i))) g ∧ w.heap.size ≤ g) ∧ Hid (Row wr kb 61 [.slice oo n d, .int .i64 s.leaf, .bool s.ver, .int .i64 s.part]) ∧ Hid (OpA wr 0 (.slice oo n d) s.op.reverse) ∧ Hid (s.fine 64 (L.drop i)) ∧ Hid s.low ∧ Hid (Evs wr base (.slice vo L.length vc) L) ∧ Hid (Below w.heap.size w wr))
 case atStart => exact ⟨0, GS.new, oo, n, d, rfl, by omega, by omega, Lib.hid rfl, Lib.hid rfl, Lib.hid ⟨_, HL1.out, by omega⟩, HR1, HO1, HF, Lib.hid (by intro o ho; have : o ∈ [GO.mk 0 0 false] := ho; rw [List.mem_singleton] at this; subst this; exact Nat.zero_le _), HE1, HB1⟩
 case round =>
  clear HL1 HR1 HO1 HF HE1 HB1
  obtain ⟨i, s, oo, n, d, rfl, hi, hgk, HS, HN, HL, HR, HO, HF, HW, HE, HB⟩ := hrel
  obtain ⟨w2, hw2⟩ : ∃ x, x = wr := ⟨_, rfl⟩
  subst hw2
  obtain ⟨gl, hgl, hgw⟩ := HL.out
  obtain ⟨cl, hcl, hcl1, hcl2⟩ := hgl.open (n := i) (by rw [i64s_length]; exact HN.out)
  subst hcl
  have HL := Lib.hid hgl
  clear hgl
  by_cases hlt : i < L.length
  ·have hlt2 : (i : Int) < (L.length : Int) := by omega
   have hdr : L.drop i = L[i] :: L.drop (i + 1) := List.drop_eq_getElem_cons hlt
   have hfi := HF.out
   rw [hdr] at hfi
   obtain ⟨f1, f2, f3⟩ := hfi
   obtain ⟨o, r, hop⟩ : ∃ o r, s.op = o :: r := by
    cases hq : s.op with
    |nil => exact absurd hq f1
    |cons o r => exact ⟨o, r, rfl⟩
   have hke := HK.out L[i] (List.getElem_mem hlt)
   have hok : o.k ≤ 1000 := by have := HW.out o (by rw [hop]; exact List.mem_cons_self ..); omega
   have hrl : r.length ≤ 100000 := by
    have h1 := GS.push_len s L[i] f1
    have h2 : (s.op.length : Int) = (r.length : Int) + 1 := by rw [hop, List.length_cons]; omega
    split at h1
    ·omega
    ·split at h1 <;> omega
   have hpx := GS.parts_next (s := GS.new) (l := L.take i) (e := L[i]) (by rw [HN.out, List.length_take]; omega)
   rw [← HS.out] at hpx
   have HTK : Hid (L.take (i + 1) = L.take i ++ [L[i]]) := Lib.hid (List.take_succ_eq_append_getElem hlt)
   have HAL : Hid (L = L.take i ++ L[i] :: L.drop (i + 1)) := Lib.hid (by rw [← hdr, List.take_append_drop])
   have HRN : Hid (GS.new.run (L.take (i + 1)) = s.push L[i]) := Lib.hid (by rw [HTK.out, GS.run_append, ← HS.out]; rfl)
   have HLW := Lib.hid (GS.low_push HW.out L[i])
   obtain ⟨e, he⟩ : ∃ e, L[i] = e := ⟨_, rfl⟩
   have HE0 := Lib.hid he
   rw [he] at f2 f3 hke hpx HTK HAL HRN HLW
   have HPX := Lib.hid hpx
   have HF3 := Lib.hid f3
   obtain ⟨g, c, hv, hc1, hcm, hgw2⟩ : ∃ g c, Value.slice vo L.length vc = .slice (some ⟨g, 0, none⟩) L.length c ∧ L.length ≤ c ∧ c ≤ maxLen ∧ g < w2.heap.size := by
    rcases HE.out.shape with ⟨_, hh⟩ | hh
    ·rw [hh] at hlt; simp at hlt
    ·obtain ⟨g, c, q1, q2, q3, _, q4⟩ := hh
     exact ⟨g, c, q1, q2, q3, q4⟩
   injection hv with v1 _ v3
   subst v1 v3
   have HP := Lib.hid (refGPush_any (w := w2.drewN 1) (v := rgV (.slice oo n d) s) (s := s) ⟨_, rfl, HO.out⟩ hop hok hrl e hke)
   obtain ⟨s2, hs2⟩ : ∃ s2, s.push e = s2 := ⟨_, rfl⟩
   rw [hs2] at HP HRN HLW
   have HPX2 : Hid ((s2.part = 0 → partsG L = GS.new.parts (L.take i)) ∧ (s2.part ≠ 0 → GS.new.parts (L.take (i + 1)) = GS.new.parts (L.take i) ++ [s2.part] ∧ s2.fine 64 (L.drop (i + 1)))) := Lib.hid (by
    have h := HPX.out
    rw [hs2] at h
    refine ⟨fun h0 => ?_, fun h0 => ⟨?_, ?_⟩⟩
    ·have h3 := h.1 h0 (L.drop (i + 1))
     rw [← HAL.out] at h3
     exact h3
    ·rw [HTK.out]; exact h.2 h0
    ·have := HF3.out; rw [hs2] at this; exact this h0)
   obtain ⟨x0, x1, x2, x3, x4, x5, x6⟩ := e
   obtain ⟨y0, y1, y2, y3, y4, y5, y6⟩ := HE.out.evAt i hlt he
   have z0 : w2.cell? ⟨kb, 0, none⟩ = some (.slice oo n d) := HR.out.cell 0
   have z1 : w2.cell? ⟨kb, 1, none⟩ = some (.int .i64 s.leaf) := HR.out.cell 1
   have z2 : w2.cell? ⟨kb, 2, none⟩ = some (.bool s.ver) := HR.out.cell 2
   have z3 : w2.cell? ⟨kb, 3, none⟩ = some (.int .i64 s.part) := HR.out.cell 3
   have hic : i < vc := by omega
   have hba : Below w2.heap.size w2 (w2.drewN 1) := draws_below' w2 1 (Nat.le_refl _)
   have HRd := Lib.hid (HR.out.below hba HR.out.lt)
   have HLd := Lib.hid (HL.out.below hba HL.out.lt)
   have HEd := Lib.hid (HE.out.below hba)
   have HBd := Lib.hid (HB.out.trans (hba.mono HB.out.size))
   unfold rgV evV at HP
   clear hdr f1 f2 f3 hop hok hrl hke hpx he hs2 HS HF HW HO HR HL HE HB hba HTK HAL HPX HF3 HE0 HK
   go_upto_region 6 with (fail)
   go_still_tail 5, (by kernel_rfl)
   change wpList _ _ _ _ _ (w2.drewN 1)
   clear z0 z1 z2 z3 y0 y1 y2 y3 y4 y5 y6
   generalize w2.drewN 1 = w3 at *
   go_wp2_with fail
   refine HP.out.mono ?_
   rintro e w5 ⟨v', rfl, ⟨ov', rfl, hO'⟩, hb⟩
   obtain ⟨oo2, n2, d2, rfl⟩ : ∃ o n c, ov' = .slice o n c := by
    rcases hO'.shape with ⟨q, _⟩ | ⟨g, c, q, _⟩
    ·exact ⟨_, _, _, q⟩
    ·exact ⟨_, _, _, q⟩
   have HR5 := Lib.hid (HRd.out.below hb HRd.out.lt)
   have HL5 := Lib.hid (HLd.out.below hb HLd.out.lt)
   have HE5 := Lib.hid (HEd.out.below hb)
   have HB5 := Lib.hid (HBd.out.trans (hb.mono HBd.out.size))
   have HO5 := Lib.hid hO'
   clear hb hO' HP HRd HLd HEd HBd
   have hRV : rgV (.slice oo2 n2 d2) s2 = .agg [.slice oo2 n2 d2, .int .i64 s2.leaf, .bool s2.ver, .int .i64 s2.part].toArray := rfl
   rw [hRV]
   clear hRV
   obtain ⟨L3, hL3⟩ : ∃ L : List Value, L = [.slice oo2 n2 d2, .int .i64 s2.leaf, .bool s2.ver, .int .i64 s2.part] := ⟨_, rfl⟩
   rw [← hL3]
   have hL3l : L3.length = 4 := by rw [hL3]; rfl
   have HL3O : Hid (∀ u ∈ L3, u.oneCell' = true) := Lib.hid (by rw [hL3]; intro u hu; simp at hu; rcases hu with rfl | rfl | rfl | rfl <;> rfl)
   have HL3I : Hid ((Tryz.prog.info? 61).map (·.size) = some L3.toArray.size) := Lib.hid (by rw [List.size_toArray, hL3l]; exact infoRg)
   have HL3T : Hid (World.there w5 kb 0 L3.toArray.size) := Lib.hid (HR5.out.there (by rw [List.size_toArray, hL3l]; simp))
   have HR6 : Hid (Row (w5.setCells kb 0 L3) kb 61 [.slice oo2 n2 d2, .int .i64 s2.leaf, .bool s2.ver, .int .i64 s2.part]) := Lib.hid (by rw [← hL3]; exact HR5.out.setAll (by rw [hL3l]; rfl))
   have HB6 : Hid (Below w.heap.size w (w5.setCells kb 0 L3)) := Lib.hid (below_setCells _ _ HB5.out hw1)
   have HO6 : Hid (OpA (w5.setCells kb 0 L3) 0 (.slice oo2 n2 d2) s2.op.reverse) := Lib.hid (HO5.out.state HR5.out (fun j hj => heap_setCells_far L3 0 _ _ hj))
   have HL6 : Hid (Sl (w5.setCells kb 0 L3) 3 (.slice (some ⟨gl, 0, none⟩) i cl) (i64s (GS.new.parts (L.take i))) gl) := Lib.hid (HL5.out.state HR5.out (fun j hj => heap_setCells_far L3 0 _ _ hj))
   have HE6 : Hid (Evs (w5.setCells kb 0 L3) base (.slice (some ⟨g, 0, none⟩) L.length vc) L) := Lib.hid (own_other HE5.out HR5.out (by decide) (fun j _ hj => heap_setCells_far L3 0 _ _ hj))
   clear hL3 hL3l HR5 HL5 HE5 HB5 HO5
   go_upto_region 7 with (refine wpList_store_mid rfl 61 (.tmp 3) (.tmp 19) rfl kb 0 L3.toArray rfl rfl HL3T.out HL3I.out (all_oneCell_toArray HL3O.out) ?_)
   clear HL3T HL3I HL3O
   generalize w5.setCells kb 0 L3 = w6 at *
   have z3 : w6.cell? ⟨kb, 3, none⟩ = some (.int .i64 s2.part) := HR6.out.cell 3
   by_cases h0 : s2.part = 0
   ·have b0 : (s2.part == 0) = true := by simpa using h0
    have HPE := Lib.hid (HPX2.out.1 h0)
    clear h0 HPX2 HRN HLW HO6 HE6
    go_wp2
    go_returns
    exact ⟨_, gl, rfl, by rw [HPE.out]; exact HL6.out, hgw, HB6.out⟩
   ·have b0 : (s2.part == 0) = false := by simpa using h0
    have HPE := Lib.hid (HPX2.out.2 h0)
    have hba : Below w6.heap.size w6 (w6.alloc (.cells #[.int .i64 s2.part] 3)) := (Below.refl _ _).alloc (Nat.le_refl _) _
    have HRx := Lib.hid (HR6.out.below hba HR6.out.lt)
    have HLx := Lib.hid (HL6.out.below hba HL6.out.lt)
    have HEx := Lib.hid (HE6.out.below hba)
    have HOx := Lib.hid (HO6.out.below hba)
    have HBx := Lib.hid (HB6.out.trans (hba.mono HB6.out.size))
    have hcx : (w6.alloc (.cells #[.int .i64 s2.part] 3)).cell? ⟨w6.heap.size, 0, none⟩ = some (.int .i64 s2.part) := (Row.new w6 3 [.int .i64 s2.part]).cell 0
    have z3x : (w6.alloc (.cells #[.int .i64 s2.part] 3)).cell? ⟨kb, 3, none⟩ = some (.int .i64 s2.part) := HRx.out.cell 3
    have hpl : (GS.new.parts (L.take i)).length ≤ 1000000000 := by have := GS.parts_len (L.take i) GS.new; rw [List.length_take] at this; omega
    have hkg : kb ≠ gl := by
     obtain ⟨sp, hv, hm, hr⟩ := HL6.out
     exact row_apart HR6.out hr (by decide)
    clear h0 HPX2 hba HR6 HL6 HE6 HO6 HB6
    go_wp2_with (at_builtin; refine wpList_append_int1 rfl (.tmp 24) (.tmp 27) rfl rfl HLx.out w6.heap.size 1 s2.part rfl hcx hpl ?_)
    intro v8 w8 g8 hs8 hg8 hgr8
    have HR8 := Lib.hid (HRx.out.grown hgr8 (by intro q; injection q with q; exact hkg q))
    have HL8 := Lib.hid hs8
    have HB8 : Hid (Below w.heap.size w w8) := Lib.hid (HBx.out.grown hgr8 HBx.out.size (by intro q hq; cases hq; exact hgw))
    have HO8 : Hid (OpA w8 0 (.slice oo2 n2 d2) s2.op.reverse) := Lib.hid (by
     obtain ⟨sp, hv, hm, hr⟩ := HLx.out
     exact own_other HOx.out hr (by decide) (fun j hj hne => hgr8.block j hj (by intro q; injection q with q; exact hne q)))
    have HE8 : Hid (Evs w8 base (.slice (some ⟨g, 0, none⟩) L.length vc) L) := Lib.hid (by
     obtain ⟨sp, hv, hm, hr⟩ := HLx.out
     exact own_other HEx.out hr (by decide) (fun j hj hne => hgr8.block j hj (by intro q; injection q with q; exact hne q)))
    have hg9 : w.heap.size ≤ g8 := by
     rcases hg8 with h | h
     ·rw [h]; exact hgw
     ·rw [h]; have := HBx.out.size; simpa using this
    have HN8 : Hid ((GS.new.parts (L.take (i + 1))).length = i + 1) := Lib.hid (by rw [HPE.out.1, List.length_append, HN.out]; rfl)
    have HLP : Hid (∃ g, Sl w8 3 v8 (i64s (GS.new.parts (L.take (i + 1)))) g ∧ w.heap.size ≤ g) := Lib.hid ⟨g8, by rw [HPE.out.1]; exact HL8.out, hg9⟩
    have HF8 := Lib.hid HPE.out.2
    have HRN2 := Lib.hid HRN.out.symm
    clear hs8 hg8 hgr8 HL8 HRx HLx HEx HOx HBx hcx z3x HPE HRN HN hg9 hkg z3
    go_wp2_with fail
    go_roundg (L.length - (i + 1))
    case measure => omega
    case rel => exact ⟨i + 1, s2, oo2, n2, d2, by simp, by omega, by omega, HRN2, HN8, HLP, HR8, HO8, HF8, HLW, HE8, HB8⟩
  ·have hge : ¬ (i : Int) < (L.length : Int) := by omega
   obtain rfl : i = L.length := by omega
   rw [List.take_length] at HL
   have HBf := HB.out
   clear HS HN HR HO HF HW HE HB HK
   go_wp2
   go_returns
   exact ⟨_, rfl, gl, HL.out, hgw, HBf⟩
end Go.Proofs.YtiiimhamfibdbaaGreat
/- Layer 20's reference: the first thing that is wrong with a text as a list. Of every text of at most 80000 bytes, and every depth. -/
namespace Go.Proofs.YtiiimhamfibdbaaGreat
open Go.RowKit Go.PlainAid
set_option linter.unusedVariables false
set_option maxRecDepth 100000 in
set_option maxHeartbeats 16000000 in
theorem refGWhole_any (b : ByteArray) (depth : Int) (hs : b.size ≤ 80000) (hd : -9223372036854775808 ≤ depth ∧ depth ≤ 9223372036854775807) (w : World) :
  Calls Tryz.prog 12 #[.string b, .int .i64 depth] w fun e w' => e = .returned (.tuple #[.int .i64 (gramW b depth).1, .int .i64 (gramW b depth).2]) ∧ Below w.heap.size w w' := by
 obtain ⟨L, E, P, hw⟩ : ∃ L e p, evW b depth = (L, e, p) := ⟨_, _, _, rfl⟩
 have hm : b.size ≤ maxLen := by unfold maxLen; omega
 have hln := evW_len b depth
 rw [hw] at hln
 have hln : L.length ≤ b.size := hln
 have HBd := Lib.hid (VS.bounds (evW_fits hm hw))
 have hfk := evW_fine hm hw
 have HFine := Lib.hid hfk.1
 have HKind := Lib.hid hfk.2
 have HC := Lib.hid (fun w => refEvWhole_is b depth (by omega) hd hw w)
 obtain ⟨⟨v1, v2⟩, _⟩ := v_bad (evW_fits hm hw)
 have hpn := parts_le L
 obtain ⟨N, hN⟩ : ∃ N, (partsG L).length = N := ⟨_, rfl⟩
 have HN := Lib.hid hN
 rw [hN] at hpn
 clear hfk
 by_cases h0 : 0 ≤ vF L ∧ vF L ≤ (N : Int)
 ·obtain ⟨i, hi⟩ := Int.eq_ofNat_of_zero_le h0.1
  have HV : Hid (vF L = (i : Int)) := Lib.hid hi
  have hil : i < L.length := by omega
  have hin : (i : Int) ≤ (N : Int) := by omega
  have HA : Hid ((gramW b depth).1 = 7 ∧ (gramW b depth).2 = L[i].at_) := Lib.hid (by
   have hg : gF L = some (i, 7) := by unfold gF; rw [hN, if_pos h0, hi, Int.toNat_natCast]
   rw [gramW_some hw hg, atOf_some (List.getElem?_eq_getElem hil)]
   exact ⟨rfl, rfl⟩)
  clear h0 hi
  clear hw hd v1 v2 hN hm
  go_enter Tryz.func12, Tryz.ntmps12
  go_wp2_with fail
  refine (HC.out _).mono ?_
  rintro r w4 ⟨o2, n2, c2, rfl, he2, hn2, hb⟩
  subst hn2
  have hal : Below w4.heap.size w4 (w4.alloc (.cells (tdC (.slice o2 L.length c2) E (P : Int)).toArray 27)) := (Below.refl _ _).alloc (Nat.le_refl _) _
  have HE := Lib.hid (he2.below hal)
  have HB := Lib.hid (hb.trans (hal.mono hb.size))
  have HT : Hid (Row (w4.alloc (.cells (tdC (.slice o2 L.length c2) E (P : Int)).toArray 27)) w4.heap.size 27 (tdC (.slice o2 L.length c2) E (P : Int))) := Lib.hid (Row.new w4 27 (tdC (.slice o2 L.length c2) E (P : Int)))
  have hX : w4.alloc (.cells (tdC (.slice o2 L.length c2) E (P : Int)).toArray 27) = w4.alloc (.cells #[.slice o2 L.length c2, .int .i64 E, .int .i64 (P : Int)] 27) := rfl
  have HX := Lib.hid hX
  clear hb he2 hal hX HC
  go_upto_region 2 with (fail)
  rw [← HX.out]
  clear HX
  generalize w4.alloc (.cells (tdC (.slice o2 L.length c2) E (P : Int)).toArray 27) = X at *
  generalize w4.heap.size = k4 at *
  obtain ⟨q0, q1, q2, _, _, _⟩ := told_facts HT.out
  have HF := Lib.hid (refFirst_any HE.out (by omega) HBd.out)
  rw [HV.out] at HF
  go_wp2_with fail
  refine HF.out.mono ?_
  rintro r w5 ⟨rfl, hb⟩
  have HT5 := Lib.hid (HT.out.below hb HT.out.lt)
  have HE5 := Lib.hid (HE.out.below hb)
  have HB5 := Lib.hid (HB.out.trans (hb.mono HB.out.size))
  clear hb HF HE HB HT q0 q1 q2
  obtain ⟨q0, q1, q2, _, _, _⟩ := told_facts HT5.out
  have HG := Lib.hid (refGParts_any HE5.out (by omega) HFine.out HKind.out)
  go_wp2_with fail
  refine HG.out.mono ?_
  rintro r w6 ⟨v6, g6, rfl, hsl, hg6, hb⟩
  obtain ⟨cl, hcl, hcl1, hcl2⟩ := hsl.open (n := N) (by rw [i64s_length]; exact HN.out)
  subst hcl
  have HT6 := Lib.hid (HT5.out.below hb HT5.out.lt)
  have HE6 := Lib.hid (HE5.out.below hb)
  have HB6 := Lib.hid (HB5.out.trans (hb.mono HB5.out.size))
  clear hb hsl HG HE5 HB5 HT5 q0 q1 q2 HFine HKind HBd HN
  obtain ⟨q0, q1, q2, _, _, _⟩ := told_facts HT6.out
  obtain ⟨g1, c1, hv, hc1⟩ : ∃ g c, Value.slice o2 L.length c2 = .slice (some ⟨g, 0, none⟩) L.length c ∧ L.length ≤ c := by
   rcases HE6.out.shape with ⟨_, hh⟩ | ⟨g, c, h1, h2, _⟩
   ·rw [hh] at hil; simp at hil
   ·exact ⟨g, c, h1, h2⟩
  injection hv with e1 _ e3
  subst e1 e3
  obtain ⟨⟨x0, x1, x2, x3, x4, x5, x6⟩, he⟩ : ∃ e, L[i] = e := ⟨_, rfl⟩
  obtain ⟨y0, y1, y2, y3, y4, y5, y6⟩ := HE6.out.evAt i hil he
  rw [he] at HA
  have hlt2 : (i : Int) < (L.length : Int) := by omega
  have hc2 : i < c2 := by omega
  have hB6 := HB6.out
  clear HE6 HB6 HT6 HV he
  go_wp2_with fail
  go_quiet (fail)
  go_wp2
  go_returns
  exact ⟨rets2 (congrArg (Value.int .i64) HA.out.1.symm) (congrArg (Value.int .i64) HA.out.2.symm), hB6.trans (draws_below' _ _ hB6.size)⟩
 ·by_cases hnl : N < L.length
  ·have HA : Hid ((gramW b depth).1 = 8 ∧ (gramW b depth).2 = L[N].at_) := Lib.hid (by
    have hg : gF L = some (N, 8) := by unfold gF; rw [hN, if_neg h0, if_pos hnl]
    rw [gramW_some hw hg, atOf_some (List.getElem?_eq_getElem hnl)]
    exact ⟨rfl, rfl⟩)
   have hil : N < L.length := hnl
   obtain ⟨V, hV⟩ : ∃ V, vF L = V := ⟨_, rfl⟩
   have HV := Lib.hid hV
   rw [hV] at h0 v1 v2
   clear hV
   by_cases hv0 : 0 ≤ V
   ·have hvn : ¬ V ≤ (N : Int) := by omega
    have hvm : V ≤ 9223372036854775807 := by omega
    clear h0
    clear hw hd v1 v2 hN hm
    go_enter Tryz.func12, Tryz.ntmps12
    go_wp2_with fail
    refine (HC.out _).mono ?_
    rintro r w4 ⟨o2, n2, c2, rfl, he2, hn2, hb⟩
    subst hn2
    have hal : Below w4.heap.size w4 (w4.alloc (.cells (tdC (.slice o2 L.length c2) E (P : Int)).toArray 27)) := (Below.refl _ _).alloc (Nat.le_refl _) _
    have HE := Lib.hid (he2.below hal)
    have HB := Lib.hid (hb.trans (hal.mono hb.size))
    have HT : Hid (Row (w4.alloc (.cells (tdC (.slice o2 L.length c2) E (P : Int)).toArray 27)) w4.heap.size 27 (tdC (.slice o2 L.length c2) E (P : Int))) := Lib.hid (Row.new w4 27 (tdC (.slice o2 L.length c2) E (P : Int)))
    have hX : w4.alloc (.cells (tdC (.slice o2 L.length c2) E (P : Int)).toArray 27) = w4.alloc (.cells #[.slice o2 L.length c2, .int .i64 E, .int .i64 (P : Int)] 27) := rfl
    have HX := Lib.hid hX
    clear hb he2 hal hX HC
    go_upto_region 2 with (fail)
    rw [← HX.out]
    clear HX
    generalize w4.alloc (.cells (tdC (.slice o2 L.length c2) E (P : Int)).toArray 27) = X at *
    generalize w4.heap.size = k4 at *
    obtain ⟨q0, q1, q2, _, _, _⟩ := told_facts HT.out
    have HF := Lib.hid (refFirst_any HE.out (by omega) HBd.out)
    rw [HV.out] at HF
    go_wp2_with fail
    refine HF.out.mono ?_
    rintro r w5 ⟨rfl, hb⟩
    have HT5 := Lib.hid (HT.out.below hb HT.out.lt)
    have HE5 := Lib.hid (HE.out.below hb)
    have HB5 := Lib.hid (HB.out.trans (hb.mono HB.out.size))
    clear hb HF HE HB HT q0 q1 q2
    obtain ⟨q0, q1, q2, _, _, _⟩ := told_facts HT5.out
    have HG := Lib.hid (refGParts_any HE5.out (by omega) HFine.out HKind.out)
    go_wp2_with fail
    refine HG.out.mono ?_
    rintro r w6 ⟨v6, g6, rfl, hsl, hg6, hb⟩
    obtain ⟨cl, hcl, hcl1, hcl2⟩ := hsl.open (n := N) (by rw [i64s_length]; exact HN.out)
    subst hcl
    have HT6 := Lib.hid (HT5.out.below hb HT5.out.lt)
    have HE6 := Lib.hid (HE5.out.below hb)
    have HB6 := Lib.hid (HB5.out.trans (hb.mono HB5.out.size))
    clear hb hsl HG HE5 HB5 HT5 q0 q1 q2 HFine HKind HBd HN
    obtain ⟨q0, q1, q2, _, _, _⟩ := told_facts HT6.out
    obtain ⟨g1, c1, hv, hc1⟩ : ∃ g c, Value.slice o2 L.length c2 = .slice (some ⟨g, 0, none⟩) L.length c ∧ L.length ≤ c := by
     rcases HE6.out.shape with ⟨_, hh⟩ | ⟨g, c, h1, h2, _⟩
     ·rw [hh] at hil; simp at hil
     ·exact ⟨g, c, h1, h2⟩
    injection hv with e1 _ e3
    subst e1 e3
    obtain ⟨⟨x0, x1, x2, x3, x4, x5, x6⟩, he⟩ : ∃ e, L[N] = e := ⟨_, rfl⟩
    obtain ⟨y0, y1, y2, y3, y4, y5, y6⟩ := HE6.out.evAt N hil he
    rw [he] at HA
    have hlt2 : (N : Int) < (L.length : Int) := by omega
    have hc2 : N < c2 := by omega
    have hB6 := HB6.out
    clear HE6 HB6 HT6 HV he
    go_wp2_with fail
    go_quiet (fail)
    go_wp2
    go_returns
    exact ⟨rets2 (congrArg (Value.int .i64) HA.out.1.symm) (congrArg (Value.int .i64) HA.out.2.symm), hB6.trans (draws_below' _ _ hB6.size)⟩
   ·clear h0
    clear hw hd v1 v2 hN hm
    go_enter Tryz.func12, Tryz.ntmps12
    go_wp2_with fail
    refine (HC.out _).mono ?_
    rintro r w4 ⟨o2, n2, c2, rfl, he2, hn2, hb⟩
    subst hn2
    have hal : Below w4.heap.size w4 (w4.alloc (.cells (tdC (.slice o2 L.length c2) E (P : Int)).toArray 27)) := (Below.refl _ _).alloc (Nat.le_refl _) _
    have HE := Lib.hid (he2.below hal)
    have HB := Lib.hid (hb.trans (hal.mono hb.size))
    have HT : Hid (Row (w4.alloc (.cells (tdC (.slice o2 L.length c2) E (P : Int)).toArray 27)) w4.heap.size 27 (tdC (.slice o2 L.length c2) E (P : Int))) := Lib.hid (Row.new w4 27 (tdC (.slice o2 L.length c2) E (P : Int)))
    have hX : w4.alloc (.cells (tdC (.slice o2 L.length c2) E (P : Int)).toArray 27) = w4.alloc (.cells #[.slice o2 L.length c2, .int .i64 E, .int .i64 (P : Int)] 27) := rfl
    have HX := Lib.hid hX
    clear hb he2 hal hX HC
    go_upto_region 2 with (fail)
    rw [← HX.out]
    clear HX
    generalize w4.alloc (.cells (tdC (.slice o2 L.length c2) E (P : Int)).toArray 27) = X at *
    generalize w4.heap.size = k4 at *
    obtain ⟨q0, q1, q2, _, _, _⟩ := told_facts HT.out
    have HF := Lib.hid (refFirst_any HE.out (by omega) HBd.out)
    rw [HV.out] at HF
    go_wp2_with fail
    refine HF.out.mono ?_
    rintro r w5 ⟨rfl, hb⟩
    have HT5 := Lib.hid (HT.out.below hb HT.out.lt)
    have HE5 := Lib.hid (HE.out.below hb)
    have HB5 := Lib.hid (HB.out.trans (hb.mono HB.out.size))
    clear hb HF HE HB HT q0 q1 q2
    obtain ⟨q0, q1, q2, _, _, _⟩ := told_facts HT5.out
    have HG := Lib.hid (refGParts_any HE5.out (by omega) HFine.out HKind.out)
    go_wp2_with fail
    refine HG.out.mono ?_
    rintro r w6 ⟨v6, g6, rfl, hsl, hg6, hb⟩
    obtain ⟨cl, hcl, hcl1, hcl2⟩ := hsl.open (n := N) (by rw [i64s_length]; exact HN.out)
    subst hcl
    have HT6 := Lib.hid (HT5.out.below hb HT5.out.lt)
    have HE6 := Lib.hid (HE5.out.below hb)
    have HB6 := Lib.hid (HB5.out.trans (hb.mono HB5.out.size))
    clear hb hsl HG HE5 HB5 HT5 q0 q1 q2 HFine HKind HBd HN
    obtain ⟨q0, q1, q2, _, _, _⟩ := told_facts HT6.out
    obtain ⟨g1, c1, hv, hc1⟩ : ∃ g c, Value.slice o2 L.length c2 = .slice (some ⟨g, 0, none⟩) L.length c ∧ L.length ≤ c := by
     rcases HE6.out.shape with ⟨_, hh⟩ | ⟨g, c, h1, h2, _⟩
     ·rw [hh] at hil; simp at hil
     ·exact ⟨g, c, h1, h2⟩
    injection hv with e1 _ e3
    subst e1 e3
    obtain ⟨⟨x0, x1, x2, x3, x4, x5, x6⟩, he⟩ : ∃ e, L[N] = e := ⟨_, rfl⟩
    obtain ⟨y0, y1, y2, y3, y4, y5, y6⟩ := HE6.out.evAt N hil he
    rw [he] at HA
    have hlt2 : (N : Int) < (L.length : Int) := by omega
    have hc2 : N < c2 := by omega
    have hB6 := HB6.out
    clear HE6 HB6 HT6 HV he
    go_wp2_with fail
    go_quiet (fail)
    go_wp2
    go_returns
    exact ⟨rets2 (congrArg (Value.int .i64) HA.out.1.symm) (congrArg (Value.int .i64) HA.out.2.symm), hB6.trans (draws_below' _ _ hB6.size)⟩
  ·have HA : Hid ((gramW b depth).1 = E ∧ (gramW b depth).2 = (P : Int)) := Lib.hid (by
    have hg : gF L = none := by unfold gF; rw [hN, if_neg h0, if_neg hnl]
    rw [gramW_none hw hg]; exact ⟨rfl, rfl⟩)
   have hnl2 : ¬ (N : Int) < (L.length : Int) := by omega
   obtain ⟨V, hV⟩ : ∃ V, vF L = V := ⟨_, rfl⟩
   have HV := Lib.hid hV
   rw [hV] at h0 v1 v2
   clear hV hnl
   by_cases hv0 : 0 ≤ V
   ·have hvn : ¬ V ≤ (N : Int) := by omega
    clear h0
    clear hw hd v1 v2 hN hm
    go_enter Tryz.func12, Tryz.ntmps12
    go_wp2_with fail
    refine (HC.out _).mono ?_
    rintro r w4 ⟨o2, n2, c2, rfl, he2, hn2, hb⟩
    subst hn2
    have hal : Below w4.heap.size w4 (w4.alloc (.cells (tdC (.slice o2 L.length c2) E (P : Int)).toArray 27)) := (Below.refl _ _).alloc (Nat.le_refl _) _
    have HE := Lib.hid (he2.below hal)
    have HB := Lib.hid (hb.trans (hal.mono hb.size))
    have HT : Hid (Row (w4.alloc (.cells (tdC (.slice o2 L.length c2) E (P : Int)).toArray 27)) w4.heap.size 27 (tdC (.slice o2 L.length c2) E (P : Int))) := Lib.hid (Row.new w4 27 (tdC (.slice o2 L.length c2) E (P : Int)))
    have hX : w4.alloc (.cells (tdC (.slice o2 L.length c2) E (P : Int)).toArray 27) = w4.alloc (.cells #[.slice o2 L.length c2, .int .i64 E, .int .i64 (P : Int)] 27) := rfl
    have HX := Lib.hid hX
    clear hb he2 hal hX HC
    go_upto_region 2 with (fail)
    rw [← HX.out]
    clear HX
    generalize w4.alloc (.cells (tdC (.slice o2 L.length c2) E (P : Int)).toArray 27) = X at *
    generalize w4.heap.size = k4 at *
    obtain ⟨q0, q1, q2, _, _, _⟩ := told_facts HT.out
    have HF := Lib.hid (refFirst_any HE.out (by omega) HBd.out)
    rw [HV.out] at HF
    go_wp2_with fail
    refine HF.out.mono ?_
    rintro r w5 ⟨rfl, hb⟩
    have HT5 := Lib.hid (HT.out.below hb HT.out.lt)
    have HE5 := Lib.hid (HE.out.below hb)
    have HB5 := Lib.hid (HB.out.trans (hb.mono HB.out.size))
    clear hb HF HE HB HT q0 q1 q2
    obtain ⟨q0, q1, q2, _, _, _⟩ := told_facts HT5.out
    have HG := Lib.hid (refGParts_any HE5.out (by omega) HFine.out HKind.out)
    go_wp2_with fail
    refine HG.out.mono ?_
    rintro r w6 ⟨v6, g6, rfl, hsl, hg6, hb⟩
    obtain ⟨cl, hcl, hcl1, hcl2⟩ := hsl.open (n := N) (by rw [i64s_length]; exact HN.out)
    subst hcl
    have HT6 := Lib.hid (HT5.out.below hb HT5.out.lt)
    have HE6 := Lib.hid (HE5.out.below hb)
    have HB6 := Lib.hid (HB5.out.trans (hb.mono HB5.out.size))
    clear hb hsl HG HE5 HB5 HT5 q0 q1 q2 HFine HKind HBd HN
    obtain ⟨q0, q1, q2, _, _, _⟩ := told_facts HT6.out
    have hB6 := HB6.out
    clear HE6 HB6 HT6 HV
    go_wp2_with fail
    go_quiet (fail)
    go_wp2
    go_returns
    exact ⟨rets2 (congrArg (Value.int .i64) HA.out.1.symm) (congrArg (Value.int .i64) HA.out.2.symm), hB6.trans (draws_below' _ _ hB6.size)⟩
   ·clear h0
    clear hw hd v1 v2 hN hm
    go_enter Tryz.func12, Tryz.ntmps12
    go_wp2_with fail
    refine (HC.out _).mono ?_
    rintro r w4 ⟨o2, n2, c2, rfl, he2, hn2, hb⟩
    subst hn2
    have hal : Below w4.heap.size w4 (w4.alloc (.cells (tdC (.slice o2 L.length c2) E (P : Int)).toArray 27)) := (Below.refl _ _).alloc (Nat.le_refl _) _
    have HE := Lib.hid (he2.below hal)
    have HB := Lib.hid (hb.trans (hal.mono hb.size))
    have HT : Hid (Row (w4.alloc (.cells (tdC (.slice o2 L.length c2) E (P : Int)).toArray 27)) w4.heap.size 27 (tdC (.slice o2 L.length c2) E (P : Int))) := Lib.hid (Row.new w4 27 (tdC (.slice o2 L.length c2) E (P : Int)))
    have hX : w4.alloc (.cells (tdC (.slice o2 L.length c2) E (P : Int)).toArray 27) = w4.alloc (.cells #[.slice o2 L.length c2, .int .i64 E, .int .i64 (P : Int)] 27) := rfl
    have HX := Lib.hid hX
    clear hb he2 hal hX HC
    go_upto_region 2 with (fail)
    rw [← HX.out]
    clear HX
    generalize w4.alloc (.cells (tdC (.slice o2 L.length c2) E (P : Int)).toArray 27) = X at *
    generalize w4.heap.size = k4 at *
    obtain ⟨q0, q1, q2, _, _, _⟩ := told_facts HT.out
    have HF := Lib.hid (refFirst_any HE.out (by omega) HBd.out)
    rw [HV.out] at HF
    go_wp2_with fail
    refine HF.out.mono ?_
    rintro r w5 ⟨rfl, hb⟩
    have HT5 := Lib.hid (HT.out.below hb HT.out.lt)
    have HE5 := Lib.hid (HE.out.below hb)
    have HB5 := Lib.hid (HB.out.trans (hb.mono HB.out.size))
    clear hb HF HE HB HT q0 q1 q2
    obtain ⟨q0, q1, q2, _, _, _⟩ := told_facts HT5.out
    have HG := Lib.hid (refGParts_any HE5.out (by omega) HFine.out HKind.out)
    go_wp2_with fail
    refine HG.out.mono ?_
    rintro r w6 ⟨v6, g6, rfl, hsl, hg6, hb⟩
    obtain ⟨cl, hcl, hcl1, hcl2⟩ := hsl.open (n := N) (by rw [i64s_length]; exact HN.out)
    subst hcl
    have HT6 := Lib.hid (HT5.out.below hb HT5.out.lt)
    have HE6 := Lib.hid (HE5.out.below hb)
    have HB6 := Lib.hid (HB5.out.trans (hb.mono HB5.out.size))
    clear hb hsl HG HE5 HB5 HT5 q0 q1 q2 HFine HKind HBd HN
    obtain ⟨q0, q1, q2, _, _, _⟩ := told_facts HT6.out
    have hB6 := HB6.out
    clear HE6 HB6 HT6 HV
    go_wp2_with fail
    go_quiet (fail)
    go_wp2
    go_returns
    exact ⟨rets2 (congrArg (Value.int .i64) HA.out.1.symm) (congrArg (Value.int .i64) HA.out.2.symm), hB6.trans (draws_below' _ _ hB6.size)⟩
end Go.Proofs.YtiiimhamfibdbaaGreat
