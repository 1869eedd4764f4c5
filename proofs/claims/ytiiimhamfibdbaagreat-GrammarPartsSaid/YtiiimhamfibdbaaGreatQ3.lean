/- Layer 20's reference: a state behind an event that begins no element. Of every state, whatever is open. -/
import Derived.Test.YtiiimhamfibdbaaGreatQ1
import Derived.Test.YtiiimhamfibdbaaGreatV2
import Derived.Test.YtiiimhamfibdbaaGreatQ2
import Derived.Test.YtiiimhamfibdbaaGreatM1
import Derived.Deep.CutRange
namespace Go.Proofs.YtiiimhamfibdbaaGreat
open Go.RowKit Go.PlainAid
set_option linter.unusedVariables false
theorem OpA.one_cell {w : World} {base : Nat} {v : Value} {l : List GO} (h : OpA w base v l) : v.oneCell' = true := by
 rcases h.shape with ⟨rfl, _⟩ | ⟨g, c, rfl, _⟩ <;> rfl
theorem OpA.state {w w' : World} {base b : Nat} {v : Value} {l : List GO} {L : List Value} (h : OpA w base v l) (hR : Row w b 61 L) (hk : ∀ j, j ≠ b → w'.heap[j]? = w.heap[j]?) : OpA w' base v l := by
 obtain ⟨hl, h1 | ⟨g, cap, cur, hv, hg, hh, hr⟩⟩ := h
 ·exact ⟨hl, .inl h1⟩
 ·refine ⟨hl, .inr ⟨g, cap, cur, hv, hg, ?_, hr⟩⟩
  rw [hk g ?_]; exact hh
  rintro rfl
  have h' : w.heap[g]? = some (.cells L.toArray 61 (0, 0)) := hR
  rw [h'] at hh
  injection hh with hh
  injection hh with _ ht _
  revert ht
  decide
set_option maxRecDepth 100000 in
set_option maxHeartbeats 16000000 in
theorem refGPush_end {w : World} {ov : Value} {sop : List GO} {sleaf spart : Int} {sver : Bool} (hO : OpA w 0 ov sop.reverse) (eat ec et : Int) (ef : Bool) (en eb : Int) :
  Calls Tryz.prog 17 #[rgV ov ⟨sop, sleaf, sver, spart⟩, evV ⟨4, eat, ec, et, ef, en, eb⟩] w fun x w' => ∃ v', x = .returned v' ∧ RgAt w' v' (GS.push ⟨sop, sleaf, sver, spart⟩ ⟨4, eat, ec, et, ef, en, eb⟩) ∧ Below w.heap.size w w' := by
 unfold rgV evV
 have HOC := Lib.hid hO.one_cell
 obtain ⟨W0, hW0⟩ : ∃ W, ((w.alloc (.cells #[ov, .int .i64 sleaf, .bool sver, .int .i64 spart] 61)).alloc (.cells #[.int .i64 4, .int .i64 eat, .int .i64 ec, .int .i64 et, .bool ef, .int .i64 en, .int .u8 eb] 34)).alloc (.cells #[.slice none 0 0, .int .i64 0, .bool false, .int .i64 0] 61) = W := ⟨_, rfl⟩
 have hSX : Row W0 w.heap.size 61 [ov, .int .i64 sleaf, .bool sver, .int .i64 spart] := by rw [← hW0]; exact ((Row.new w _ [ov, .int .i64 sleaf, .bool sver, .int .i64 spart]).alloc _).alloc _
 have hEX : Row W0 (w.heap.size + 1) 34 [.int .i64 4, .int .i64 eat, .int .i64 ec, .int .i64 et, .bool ef, .int .i64 en, .int .u8 eb] := by rw [← hW0]; exact (row_new2 w _ _ [.int .i64 4, .int .i64 eat, .int .i64 ec, .int .i64 et, .bool ef, .int .i64 en, .int .u8 eb]).alloc _
 have hRX : Row W0 (w.heap.size + 1 + 1) 61 [.slice none 0 0, .int .i64 0, .bool false, .int .i64 0] := by
  have h := row_new2 (w.alloc (.cells #[ov, .int .i64 sleaf, .bool sver, .int .i64 spart] 61)) (.cells #[.int .i64 4, .int .i64 eat, .int .i64 ec, .int .i64 et, .bool ef, .int .i64 en, .int .u8 eb] 34) 61 [.slice none 0 0, .int .i64 0, .bool false, .int .i64 0]
  have hs : (w.alloc (.cells #[ov, .int .i64 sleaf, .bool sver, .int .i64 spart] 61)).heap.size = w.heap.size + 1 := by simp
  rw [hs] at h
  rw [← hW0]; exact h
 have hB0 : Below w.heap.size w W0 := by rw [← hW0]; exact (((Below.refl _ _).alloc (Nat.le_refl _) _).alloc (by simp) _).alloc (by simp; omega) _
 have HO0 : Hid (OpA W0 0 ov sop.reverse) := Lib.hid (by rw [← hW0]; exact hO.below (((Below.refl _ _).alloc (Nat.le_refl _) _).alloc (by simp) _ |>.alloc (by simp; omega) _))
 have HSX := Lib.hid hSX
 have HEX := Lib.hid hEX
 have HRX := Lib.hid hRX
 have HB0 := Lib.hid hB0
 have HW0 := Lib.hid hW0
 clear hW0 hSX hEX hRX hB0 hO
 go_enter Tryz.func17, Tryz.ntmps17
 go_upto_region 1 with (fail)
 rw [HW0.out]
 clear HW0
 have z0 : W0.cell? ⟨w.heap.size + 1, 0, none⟩ = some (.int .i64 4) := HEX.out.cell 0
 have z1 : W0.cell? ⟨w.heap.size, 1, none⟩ = some (.int .i64 sleaf) := HSX.out.cell 1
 have z3 : W0.cell? ⟨w.heap.size, 3, none⟩ = some (.int .i64 spart) := HSX.out.cell 3
 have f3 := HSX.out.frozen 3
 have hbl := HRX.out.lt
 go_upto_region 18 with (fail)
 obtain ⟨L, hL⟩ : ∃ L : List Value, L = [ov, .int .i64 sleaf, .bool sver, .int .i64 sleaf] := ⟨_, rfl⟩
 have hLl : L.length = 4 := by rw [hL]; rfl
 have hRw : Row (W0.setCell ⟨w.heap.size, 3, none⟩ (.int .i64 sleaf)) w.heap.size 61 L := by rw [hL]; exact HSX.out.set 3 _
 have HLO : Hid (∀ u ∈ L, u.oneCell' = true) := Lib.hid (by rw [hL]; intro u hu; simp at hu; rcases hu with rfl | rfl | rfl | rfl <;> first | rfl | exact HOC.out)
 have HLI : Hid ((Tryz.prog.info? 61).map (·.size) = some L.length) := Lib.hid (by rw [hLl]; exact infoRg)
 have HLI2 : Hid ((Tryz.prog.info? 61).map (·.size) = some L.toArray.size) := Lib.hid (by rw [List.size_toArray, hLl]; exact infoRg)
 have HLR := Lib.hid hRw.whole
 have hSw : Row (W0.setCell ⟨w.heap.size, 3, none⟩ (.int .i64 sleaf)) (w.heap.size + 1 + 1) 61 [.slice none 0 0, .int .i64 0, .bool false, .int .i64 0] := HRX.out.far (p := ⟨w.heap.size, 3, none⟩) (by show w.heap.size + 1 + 1 ≠ w.heap.size; omega) _
 have HLT : Hid (World.there (W0.setCell ⟨w.heap.size, 3, none⟩ (.int .i64 sleaf)) (w.heap.size + 1 + 1) 0 L.toArray.size) := Lib.hid (hSw.there (by rw [List.size_toArray, hLl]; simp))
 have HFin : Hid (Row (World.setCells (W0.setCell ⟨w.heap.size, 3, none⟩ (.int .i64 sleaf)) (w.heap.size + 1 + 1) 0 L) (w.heap.size + 1 + 1) 61 L) := Lib.hid (hSw.setAll (by rw [hLl]; rfl))
 have hBw : Below w.heap.size w (W0.setCell ⟨w.heap.size, 3, none⟩ (.int .i64 sleaf)) := HB0.out.setCell (Nat.le_refl _) _
 have HFB : Hid (Below w.heap.size w (World.setCells (W0.setCell ⟨w.heap.size, 3, none⟩ (.int .i64 sleaf)) (w.heap.size + 1 + 1) 0 L)) := Lib.hid (below_setCells _ _ hBw (by omega))
 have HFO : Hid (OpA (World.setCells (W0.setCell ⟨w.heap.size, 3, none⟩ (.int .i64 sleaf)) (w.heap.size + 1 + 1) 0 L) 0 ov sop.reverse) := Lib.hid ((HO0.out.state HSX.out (fun j hj => Below.heap_setCell _ _ _ j hj)).state hSw (fun j hj => heap_setCells_far L 0 _ _ hj))
 have HPU : Hid (GS.push ⟨sop, sleaf, sver, spart⟩ ⟨4, eat, ec, et, ef, en, eb⟩ = ⟨sop, sleaf, sver, sleaf⟩) := Lib.hid (by unfold GS.push; simp)
 have HLL := Lib.hid hL
 clear hRw hSw hBw hL hLl
 go_wp2_with (first
  |refine wpList_load_mid rfl 61 (.tmp 2) rfl w.heap.size 0 rfl L _ HLR.out Tryz.underlying61 rfl HLI.out ?_
  |refine wpList_store_mid rfl 61 (.tmp 4) (.tmp 75) rfl (w.heap.size + 1 + 1) 0 L.toArray rfl rfl HLT.out HLI2.out (all_oneCell_toArray HLO.out) ?_)
 exact bodyPost_ret (results_cell Tryz.results17 _ (ad := ⟨w.heap.size + 1 + 1, 0, none⟩) rfl (run_loadVar_mid _ _ 0 _ L _ HFin.out.whole Tryz.underlying61 rfl HLI.out)) rfl ⟨_, rfl, ⟨ov, by rw [HPU.out, HLL.out]; rfl, by rw [HPU.out]; exact HFO.out⟩, HFB.out⟩
set_option maxRecDepth 100000 in
set_option maxHeartbeats 16000000 in
theorem refGPush_byte {w : World} {ov : Value} {sop : List GO} {sleaf spart : Int} {sver : Bool} (hO : OpA w 0 ov sop.reverse) (eat ec et : Int) (ef : Bool) (en eb : Int) :
  Calls Tryz.prog 17 #[rgV ov ⟨sop, sleaf, sver, spart⟩, evV ⟨3, eat, ec, et, ef, en, eb⟩] w fun x w' => ∃ v', x = .returned v' ∧ RgAt w' v' (GS.push ⟨sop, sleaf, sver, spart⟩ ⟨3, eat, ec, et, ef, en, eb⟩) ∧ Below w.heap.size w w' := by
 unfold rgV evV
 have HOC := Lib.hid hO.one_cell
 obtain ⟨W0, hW0⟩ : ∃ W, ((w.alloc (.cells #[ov, .int .i64 sleaf, .bool sver, .int .i64 spart] 61)).alloc (.cells #[.int .i64 3, .int .i64 eat, .int .i64 ec, .int .i64 et, .bool ef, .int .i64 en, .int .u8 eb] 34)).alloc (.cells #[.slice none 0 0, .int .i64 0, .bool false, .int .i64 0] 61) = W := ⟨_, rfl⟩
 have hSX : Row W0 w.heap.size 61 [ov, .int .i64 sleaf, .bool sver, .int .i64 spart] := by rw [← hW0]; exact ((Row.new w _ [ov, .int .i64 sleaf, .bool sver, .int .i64 spart]).alloc _).alloc _
 have hEX : Row W0 (w.heap.size + 1) 34 [.int .i64 3, .int .i64 eat, .int .i64 ec, .int .i64 et, .bool ef, .int .i64 en, .int .u8 eb] := by rw [← hW0]; exact (row_new2 w _ _ [.int .i64 3, .int .i64 eat, .int .i64 ec, .int .i64 et, .bool ef, .int .i64 en, .int .u8 eb]).alloc _
 have hRX : Row W0 (w.heap.size + 1 + 1) 61 [.slice none 0 0, .int .i64 0, .bool false, .int .i64 0] := by
  have h := row_new2 (w.alloc (.cells #[ov, .int .i64 sleaf, .bool sver, .int .i64 spart] 61)) (.cells #[.int .i64 3, .int .i64 eat, .int .i64 ec, .int .i64 et, .bool ef, .int .i64 en, .int .u8 eb] 34) 61 [.slice none 0 0, .int .i64 0, .bool false, .int .i64 0]
  have hs : (w.alloc (.cells #[ov, .int .i64 sleaf, .bool sver, .int .i64 spart] 61)).heap.size = w.heap.size + 1 := by simp
  rw [hs] at h
  rw [← hW0]; exact h
 have hB0 : Below w.heap.size w W0 := by rw [← hW0]; exact (((Below.refl _ _).alloc (Nat.le_refl _) _).alloc (by simp) _).alloc (by simp; omega) _
 have HO0 : Hid (OpA W0 0 ov sop.reverse) := Lib.hid (by rw [← hW0]; exact hO.below (((Below.refl _ _).alloc (Nat.le_refl _) _).alloc (by simp) _ |>.alloc (by simp; omega) _))
 have HSX := Lib.hid hSX
 have HEX := Lib.hid hEX
 have HRX := Lib.hid hRX
 have HB0 := Lib.hid hB0
 have HW0 := Lib.hid hW0
 clear hW0 hSX hEX hRX hB0 hO
 go_enter Tryz.func17, Tryz.ntmps17
 go_upto_region 1 with (fail)
 rw [HW0.out]
 clear HW0
 have z0 : W0.cell? ⟨w.heap.size + 1, 0, none⟩ = some (.int .i64 3) := HEX.out.cell 0
 have z1 : W0.cell? ⟨w.heap.size, 1, none⟩ = some (.int .i64 sleaf) := HSX.out.cell 1
 have z3 : W0.cell? ⟨w.heap.size, 3, none⟩ = some (.int .i64 spart) := HSX.out.cell 3
 have f3 := HSX.out.frozen 3
 have hbl := HRX.out.lt
 go_upto_region 13 with (fail)
 clear z0 z1 z3 f3
 have HS1 : Hid (Row (W0.setCell ⟨w.heap.size, 3, none⟩ (.int .i64 sleaf)) w.heap.size 61 [ov, .int .i64 sleaf, .bool sver, .int .i64 sleaf]) := Lib.hid (HSX.out.set 3 _)
 have HE1 : Hid (Row (W0.setCell ⟨w.heap.size, 3, none⟩ (.int .i64 sleaf)) (w.heap.size + 1) 34 [.int .i64 3, .int .i64 eat, .int .i64 ec, .int .i64 et, .bool ef, .int .i64 en, .int .u8 eb]) := Lib.hid (HEX.out.far (p := ⟨w.heap.size, 3, none⟩) (by show w.heap.size + 1 ≠ w.heap.size; omega) _)
 have HR1 : Hid (Row (W0.setCell ⟨w.heap.size, 3, none⟩ (.int .i64 sleaf)) (w.heap.size + 1 + 1) 61 [.slice none 0 0, .int .i64 0, .bool false, .int .i64 0]) := Lib.hid (HRX.out.far (p := ⟨w.heap.size, 3, none⟩) (by show w.heap.size + 1 + 1 ≠ w.heap.size; omega) _)
 have HB1 : Hid (Below w.heap.size w (W0.setCell ⟨w.heap.size, 3, none⟩ (.int .i64 sleaf))) := Lib.hid (HB0.out.setCell (Nat.le_refl _) _)
 have HO1 : Hid (OpA (W0.setCell ⟨w.heap.size, 3, none⟩ (.int .i64 sleaf)) 0 ov sop.reverse) := Lib.hid (HO0.out.state HSX.out (fun j hj => Below.heap_setCell _ _ _ j hj))
 clear HSX HEX HRX HB0 HO0
 generalize W0.setCell ⟨w.heap.size, 3, none⟩ (.int .i64 sleaf) = w1 at *
 have z1 : w1.cell? ⟨w.heap.size, 1, none⟩ = some (.int .i64 sleaf) := HS1.out.cell 1
 have z3 : w1.cell? ⟨w.heap.size, 3, none⟩ = some (.int .i64 sleaf) := HS1.out.cell 3
 have f3 := HS1.out.frozen 3
 have e6 : w1.cell? ⟨w.heap.size + 1, 6, none⟩ = some (.int .u8 eb) := HE1.out.cell 6
 have hcs : (sleaf = 3 ∧ eb ≠ 1 ∨ sleaf = 19 ∧ eb ≠ 255) ∨ ¬ (sleaf = 3 ∧ eb ≠ 1 ∨ sleaf = 19 ∧ eb ≠ 255) := Classical.em _
 clear hcs
 by_cases l3 : sleaf = 3
 ·have b3 : (sleaf == 3) = true := by simpa using l3
  have b19 : (sleaf == 19) = false := by rw [l3]; rfl
  by_cases e1 : eb = 1
  ·have c1 : (eb != 1) = false := by simpa using e1
   have HPF : Hid (¬ (sleaf = 3 ∧ eb ≠ 1 ∨ sleaf = 19 ∧ eb ≠ 255)) := Lib.hid (by omega)
   clear l3 e1
   go_upto_region 15 with (fail)
   obtain ⟨L, hL⟩ : ∃ L : List Value, L = [ov, .int .i64 sleaf, .bool sver, .int .i64 sleaf] := ⟨_, rfl⟩
   have hLl : L.length = 4 := by rw [hL]; rfl
   have hRw : Row w1 w.heap.size 61 L := by rw [hL]; exact HS1.out
   have HLO : Hid (∀ u ∈ L, u.oneCell' = true) := Lib.hid (by rw [hL]; intro u hu; simp at hu; rcases hu with rfl | rfl | rfl | rfl <;> first | rfl | exact HOC.out)
   have HLI : Hid ((Tryz.prog.info? 61).map (·.size) = some L.length) := Lib.hid (by rw [hLl]; exact infoRg)
   have HLI2 : Hid ((Tryz.prog.info? 61).map (·.size) = some L.toArray.size) := Lib.hid (by rw [List.size_toArray, hLl]; exact infoRg)
   have HLR := Lib.hid hRw.whole
   have hSw : Row w1 (w.heap.size + 1 + 1) 61 [.slice none 0 0, .int .i64 0, .bool false, .int .i64 0] := HR1.out
   have HLT : Hid (World.there w1 (w.heap.size + 1 + 1) 0 L.toArray.size) := Lib.hid (hSw.there (by rw [List.size_toArray, hLl]; simp))
   have HFin : Hid (Row (World.setCells w1 (w.heap.size + 1 + 1) 0 L) (w.heap.size + 1 + 1) 61 L) := Lib.hid (hSw.setAll (by rw [hLl]; rfl))
   have hBw : Below w.heap.size w w1 := HB1.out
   have HFB : Hid (Below w.heap.size w (World.setCells w1 (w.heap.size + 1 + 1) 0 L)) := Lib.hid (below_setCells _ _ hBw (by omega))
   have HFO : Hid (OpA (World.setCells w1 (w.heap.size + 1 + 1) 0 L) 0 ov sop.reverse) := Lib.hid ((HO1.out).state hSw (fun j hj => heap_setCells_far L 0 _ _ hj))
   have HPU : Hid (GS.push ⟨sop, sleaf, sver, spart⟩ ⟨3, eat, ec, et, ef, en, eb⟩ = ⟨sop, sleaf, sver, sleaf⟩) := Lib.hid (by unfold GS.push; rw [if_neg (by show ¬ (3 : Int) = 1; decide), if_neg (by show ¬ (3 : Int) = 2; decide), if_pos rfl]; show GS.mk _ _ _ (if _ then _ else _) = _; rw [if_neg (HPF.out)])
   have HLL := Lib.hid hL
   clear hRw hSw hBw hL hLl
   go_wp2_with (first
    |refine wpList_load_mid rfl 61 (.tmp 2) rfl w.heap.size 0 rfl L _ HLR.out Tryz.underlying61 rfl HLI.out ?_
    |refine wpList_store_mid rfl 61 (.tmp 4) (.tmp 69) rfl (w.heap.size + 1 + 1) 0 L.toArray rfl rfl HLT.out HLI2.out (all_oneCell_toArray HLO.out) ?_)
   exact bodyPost_ret (results_cell Tryz.results17 _ (ad := ⟨w.heap.size + 1 + 1, 0, none⟩) rfl (run_loadVar_mid _ _ 0 _ L _ HFin.out.whole Tryz.underlying61 rfl HLI.out)) rfl ⟨_, rfl, ⟨ov, by rw [HPU.out, HLL.out]; rfl, by rw [HPU.out]; exact HFO.out⟩, HFB.out⟩
  ·have c1 : (eb != 1) = true := by simpa using e1
   have HPF : Hid (sleaf = 3 ∧ eb ≠ 1 ∨ sleaf = 19 ∧ eb ≠ 255) := Lib.hid (.inl ⟨l3, e1⟩)
   clear l3 e1
   go_upto_region 15 with (fail)
   obtain ⟨L, hL⟩ : ∃ L : List Value, L = [ov, .int .i64 sleaf, .bool sver, .int .i64 0] := ⟨_, rfl⟩
   have hLl : L.length = 4 := by rw [hL]; rfl
   have hRw : Row (w1.setCell ⟨w.heap.size, 3, none⟩ (.int .i64 0)) w.heap.size 61 L := by rw [hL]; exact HS1.out.set 3 _
   have HLO : Hid (∀ u ∈ L, u.oneCell' = true) := Lib.hid (by rw [hL]; intro u hu; simp at hu; rcases hu with rfl | rfl | rfl | rfl <;> first | rfl | exact HOC.out)
   have HLI : Hid ((Tryz.prog.info? 61).map (·.size) = some L.length) := Lib.hid (by rw [hLl]; exact infoRg)
   have HLI2 : Hid ((Tryz.prog.info? 61).map (·.size) = some L.toArray.size) := Lib.hid (by rw [List.size_toArray, hLl]; exact infoRg)
   have HLR := Lib.hid hRw.whole
   have hSw : Row (w1.setCell ⟨w.heap.size, 3, none⟩ (.int .i64 0)) (w.heap.size + 1 + 1) 61 [.slice none 0 0, .int .i64 0, .bool false, .int .i64 0] := HR1.out.far (p := ⟨w.heap.size, 3, none⟩) (by show w.heap.size + 1 + 1 ≠ w.heap.size; omega) _
   have HLT : Hid (World.there (w1.setCell ⟨w.heap.size, 3, none⟩ (.int .i64 0)) (w.heap.size + 1 + 1) 0 L.toArray.size) := Lib.hid (hSw.there (by rw [List.size_toArray, hLl]; simp))
   have HFin : Hid (Row (World.setCells (w1.setCell ⟨w.heap.size, 3, none⟩ (.int .i64 0)) (w.heap.size + 1 + 1) 0 L) (w.heap.size + 1 + 1) 61 L) := Lib.hid (hSw.setAll (by rw [hLl]; rfl))
   have hBw : Below w.heap.size w (w1.setCell ⟨w.heap.size, 3, none⟩ (.int .i64 0)) := HB1.out.setCell (Nat.le_refl _) _
   have HFB : Hid (Below w.heap.size w (World.setCells (w1.setCell ⟨w.heap.size, 3, none⟩ (.int .i64 0)) (w.heap.size + 1 + 1) 0 L)) := Lib.hid (below_setCells _ _ hBw (by omega))
   have HFO : Hid (OpA (World.setCells (w1.setCell ⟨w.heap.size, 3, none⟩ (.int .i64 0)) (w.heap.size + 1 + 1) 0 L) 0 ov sop.reverse) := Lib.hid ((HO1.out.state HS1.out (fun j hj => Below.heap_setCell _ _ _ j hj)).state hSw (fun j hj => heap_setCells_far L 0 _ _ hj))
   have HPU : Hid (GS.push ⟨sop, sleaf, sver, spart⟩ ⟨3, eat, ec, et, ef, en, eb⟩ = ⟨sop, sleaf, sver, 0⟩) := Lib.hid (by unfold GS.push; rw [if_neg (by show ¬ (3 : Int) = 1; decide), if_neg (by show ¬ (3 : Int) = 2; decide), if_pos rfl]; show GS.mk _ _ _ (if _ then _ else _) = _; rw [if_pos (HPF.out)])
   have HLL := Lib.hid hL
   clear hRw hSw hBw hL hLl
   go_wp2_with (first
    |refine wpList_load_mid rfl 61 (.tmp 2) rfl w.heap.size 0 rfl L _ HLR.out Tryz.underlying61 rfl HLI.out ?_
    |refine wpList_store_mid rfl 61 (.tmp 4) (.tmp 69) rfl (w.heap.size + 1 + 1) 0 L.toArray rfl rfl HLT.out HLI2.out (all_oneCell_toArray HLO.out) ?_)
   exact bodyPost_ret (results_cell Tryz.results17 _ (ad := ⟨w.heap.size + 1 + 1, 0, none⟩) rfl (run_loadVar_mid _ _ 0 _ L _ HFin.out.whole Tryz.underlying61 rfl HLI.out)) rfl ⟨_, rfl, ⟨ov, by rw [HPU.out, HLL.out]; rfl, by rw [HPU.out]; exact HFO.out⟩, HFB.out⟩
 ·have b3 : (sleaf == 3) = false := by simpa using l3
  by_cases l19 : sleaf = 19
  ·have b19 : (sleaf == 19) = true := by simpa using l19
   by_cases e1 : eb = 255
   ·have c1 : (eb != 255) = false := by simpa using e1
    have HPF : Hid (¬ (sleaf = 3 ∧ eb ≠ 1 ∨ sleaf = 19 ∧ eb ≠ 255)) := Lib.hid (by omega)
    clear l3 l19 e1
    go_upto_region 15 with (fail)
    obtain ⟨L, hL⟩ : ∃ L : List Value, L = [ov, .int .i64 sleaf, .bool sver, .int .i64 sleaf] := ⟨_, rfl⟩
    have hLl : L.length = 4 := by rw [hL]; rfl
    have hRw : Row w1 w.heap.size 61 L := by rw [hL]; exact HS1.out
    have HLO : Hid (∀ u ∈ L, u.oneCell' = true) := Lib.hid (by rw [hL]; intro u hu; simp at hu; rcases hu with rfl | rfl | rfl | rfl <;> first | rfl | exact HOC.out)
    have HLI : Hid ((Tryz.prog.info? 61).map (·.size) = some L.length) := Lib.hid (by rw [hLl]; exact infoRg)
    have HLI2 : Hid ((Tryz.prog.info? 61).map (·.size) = some L.toArray.size) := Lib.hid (by rw [List.size_toArray, hLl]; exact infoRg)
    have HLR := Lib.hid hRw.whole
    have hSw : Row w1 (w.heap.size + 1 + 1) 61 [.slice none 0 0, .int .i64 0, .bool false, .int .i64 0] := HR1.out
    have HLT : Hid (World.there w1 (w.heap.size + 1 + 1) 0 L.toArray.size) := Lib.hid (hSw.there (by rw [List.size_toArray, hLl]; simp))
    have HFin : Hid (Row (World.setCells w1 (w.heap.size + 1 + 1) 0 L) (w.heap.size + 1 + 1) 61 L) := Lib.hid (hSw.setAll (by rw [hLl]; rfl))
    have hBw : Below w.heap.size w w1 := HB1.out
    have HFB : Hid (Below w.heap.size w (World.setCells w1 (w.heap.size + 1 + 1) 0 L)) := Lib.hid (below_setCells _ _ hBw (by omega))
    have HFO : Hid (OpA (World.setCells w1 (w.heap.size + 1 + 1) 0 L) 0 ov sop.reverse) := Lib.hid ((HO1.out).state hSw (fun j hj => heap_setCells_far L 0 _ _ hj))
    have HPU : Hid (GS.push ⟨sop, sleaf, sver, spart⟩ ⟨3, eat, ec, et, ef, en, eb⟩ = ⟨sop, sleaf, sver, sleaf⟩) := Lib.hid (by unfold GS.push; rw [if_neg (by show ¬ (3 : Int) = 1; decide), if_neg (by show ¬ (3 : Int) = 2; decide), if_pos rfl]; show GS.mk _ _ _ (if _ then _ else _) = _; rw [if_neg (HPF.out)])
    have HLL := Lib.hid hL
    clear hRw hSw hBw hL hLl
    go_wp2_with (first
     |refine wpList_load_mid rfl 61 (.tmp 2) rfl w.heap.size 0 rfl L _ HLR.out Tryz.underlying61 rfl HLI.out ?_
     |refine wpList_store_mid rfl 61 (.tmp 4) (.tmp 69) rfl (w.heap.size + 1 + 1) 0 L.toArray rfl rfl HLT.out HLI2.out (all_oneCell_toArray HLO.out) ?_)
    exact bodyPost_ret (results_cell Tryz.results17 _ (ad := ⟨w.heap.size + 1 + 1, 0, none⟩) rfl (run_loadVar_mid _ _ 0 _ L _ HFin.out.whole Tryz.underlying61 rfl HLI.out)) rfl ⟨_, rfl, ⟨ov, by rw [HPU.out, HLL.out]; rfl, by rw [HPU.out]; exact HFO.out⟩, HFB.out⟩
   ·have c1 : (eb != 255) = true := by simpa using e1
    have HPF : Hid (sleaf = 3 ∧ eb ≠ 1 ∨ sleaf = 19 ∧ eb ≠ 255) := Lib.hid (.inr ⟨l19, e1⟩)
    clear l3 l19 e1
    go_upto_region 15 with (fail)
    obtain ⟨L, hL⟩ : ∃ L : List Value, L = [ov, .int .i64 sleaf, .bool sver, .int .i64 0] := ⟨_, rfl⟩
    have hLl : L.length = 4 := by rw [hL]; rfl
    have hRw : Row (w1.setCell ⟨w.heap.size, 3, none⟩ (.int .i64 0)) w.heap.size 61 L := by rw [hL]; exact HS1.out.set 3 _
    have HLO : Hid (∀ u ∈ L, u.oneCell' = true) := Lib.hid (by rw [hL]; intro u hu; simp at hu; rcases hu with rfl | rfl | rfl | rfl <;> first | rfl | exact HOC.out)
    have HLI : Hid ((Tryz.prog.info? 61).map (·.size) = some L.length) := Lib.hid (by rw [hLl]; exact infoRg)
    have HLI2 : Hid ((Tryz.prog.info? 61).map (·.size) = some L.toArray.size) := Lib.hid (by rw [List.size_toArray, hLl]; exact infoRg)
    have HLR := Lib.hid hRw.whole
    have hSw : Row (w1.setCell ⟨w.heap.size, 3, none⟩ (.int .i64 0)) (w.heap.size + 1 + 1) 61 [.slice none 0 0, .int .i64 0, .bool false, .int .i64 0] := HR1.out.far (p := ⟨w.heap.size, 3, none⟩) (by show w.heap.size + 1 + 1 ≠ w.heap.size; omega) _
    have HLT : Hid (World.there (w1.setCell ⟨w.heap.size, 3, none⟩ (.int .i64 0)) (w.heap.size + 1 + 1) 0 L.toArray.size) := Lib.hid (hSw.there (by rw [List.size_toArray, hLl]; simp))
    have HFin : Hid (Row (World.setCells (w1.setCell ⟨w.heap.size, 3, none⟩ (.int .i64 0)) (w.heap.size + 1 + 1) 0 L) (w.heap.size + 1 + 1) 61 L) := Lib.hid (hSw.setAll (by rw [hLl]; rfl))
    have hBw : Below w.heap.size w (w1.setCell ⟨w.heap.size, 3, none⟩ (.int .i64 0)) := HB1.out.setCell (Nat.le_refl _) _
    have HFB : Hid (Below w.heap.size w (World.setCells (w1.setCell ⟨w.heap.size, 3, none⟩ (.int .i64 0)) (w.heap.size + 1 + 1) 0 L)) := Lib.hid (below_setCells _ _ hBw (by omega))
    have HFO : Hid (OpA (World.setCells (w1.setCell ⟨w.heap.size, 3, none⟩ (.int .i64 0)) (w.heap.size + 1 + 1) 0 L) 0 ov sop.reverse) := Lib.hid ((HO1.out.state HS1.out (fun j hj => Below.heap_setCell _ _ _ j hj)).state hSw (fun j hj => heap_setCells_far L 0 _ _ hj))
    have HPU : Hid (GS.push ⟨sop, sleaf, sver, spart⟩ ⟨3, eat, ec, et, ef, en, eb⟩ = ⟨sop, sleaf, sver, 0⟩) := Lib.hid (by unfold GS.push; rw [if_neg (by show ¬ (3 : Int) = 1; decide), if_neg (by show ¬ (3 : Int) = 2; decide), if_pos rfl]; show GS.mk _ _ _ (if _ then _ else _) = _; rw [if_pos (HPF.out)])
    have HLL := Lib.hid hL
    clear hRw hSw hBw hL hLl
    go_wp2_with (first
     |refine wpList_load_mid rfl 61 (.tmp 2) rfl w.heap.size 0 rfl L _ HLR.out Tryz.underlying61 rfl HLI.out ?_
     |refine wpList_store_mid rfl 61 (.tmp 4) (.tmp 69) rfl (w.heap.size + 1 + 1) 0 L.toArray rfl rfl HLT.out HLI2.out (all_oneCell_toArray HLO.out) ?_)
    exact bodyPost_ret (results_cell Tryz.results17 _ (ad := ⟨w.heap.size + 1 + 1, 0, none⟩) rfl (run_loadVar_mid _ _ 0 _ L _ HFin.out.whole Tryz.underlying61 rfl HLI.out)) rfl ⟨_, rfl, ⟨ov, by rw [HPU.out, HLL.out]; rfl, by rw [HPU.out]; exact HFO.out⟩, HFB.out⟩
  ·have b19 : (sleaf == 19) = false := by simpa using l19
   have HPF : Hid (¬ (sleaf = 3 ∧ eb ≠ 1 ∨ sleaf = 19 ∧ eb ≠ 255)) := Lib.hid (by omega)
   clear l3 l19
   go_upto_region 15 with (fail)
   obtain ⟨L, hL⟩ : ∃ L : List Value, L = [ov, .int .i64 sleaf, .bool sver, .int .i64 sleaf] := ⟨_, rfl⟩
   have hLl : L.length = 4 := by rw [hL]; rfl
   have hRw : Row w1 w.heap.size 61 L := by rw [hL]; exact HS1.out
   have HLO : Hid (∀ u ∈ L, u.oneCell' = true) := Lib.hid (by rw [hL]; intro u hu; simp at hu; rcases hu with rfl | rfl | rfl | rfl <;> first | rfl | exact HOC.out)
   have HLI : Hid ((Tryz.prog.info? 61).map (·.size) = some L.length) := Lib.hid (by rw [hLl]; exact infoRg)
   have HLI2 : Hid ((Tryz.prog.info? 61).map (·.size) = some L.toArray.size) := Lib.hid (by rw [List.size_toArray, hLl]; exact infoRg)
   have HLR := Lib.hid hRw.whole
   have hSw : Row w1 (w.heap.size + 1 + 1) 61 [.slice none 0 0, .int .i64 0, .bool false, .int .i64 0] := HR1.out
   have HLT : Hid (World.there w1 (w.heap.size + 1 + 1) 0 L.toArray.size) := Lib.hid (hSw.there (by rw [List.size_toArray, hLl]; simp))
   have HFin : Hid (Row (World.setCells w1 (w.heap.size + 1 + 1) 0 L) (w.heap.size + 1 + 1) 61 L) := Lib.hid (hSw.setAll (by rw [hLl]; rfl))
   have hBw : Below w.heap.size w w1 := HB1.out
   have HFB : Hid (Below w.heap.size w (World.setCells w1 (w.heap.size + 1 + 1) 0 L)) := Lib.hid (below_setCells _ _ hBw (by omega))
   have HFO : Hid (OpA (World.setCells w1 (w.heap.size + 1 + 1) 0 L) 0 ov sop.reverse) := Lib.hid ((HO1.out).state hSw (fun j hj => heap_setCells_far L 0 _ _ hj))
   have HPU : Hid (GS.push ⟨sop, sleaf, sver, spart⟩ ⟨3, eat, ec, et, ef, en, eb⟩ = ⟨sop, sleaf, sver, sleaf⟩) := Lib.hid (by unfold GS.push; rw [if_neg (by show ¬ (3 : Int) = 1; decide), if_neg (by show ¬ (3 : Int) = 2; decide), if_pos rfl]; show GS.mk _ _ _ (if _ then _ else _) = _; rw [if_neg (HPF.out)])
   have HLL := Lib.hid hL
   clear hRw hSw hBw hL hLl
   go_wp2_with (first
    |refine wpList_load_mid rfl 61 (.tmp 2) rfl w.heap.size 0 rfl L _ HLR.out Tryz.underlying61 rfl HLI.out ?_
    |refine wpList_store_mid rfl 61 (.tmp 4) (.tmp 69) rfl (w.heap.size + 1 + 1) 0 L.toArray rfl rfl HLT.out HLI2.out (all_oneCell_toArray HLO.out) ?_)
   exact bodyPost_ret (results_cell Tryz.results17 _ (ad := ⟨w.heap.size + 1 + 1, 0, none⟩) rfl (run_loadVar_mid _ _ 0 _ L _ HFin.out.whole Tryz.underlying61 rfl HLI.out)) rfl ⟨_, rfl, ⟨ov, by rw [HPU.out, HLL.out]; rfl, by rw [HPU.out]; exact HFO.out⟩, HFB.out⟩
end Go.Proofs.YtiiimhamfibdbaaGreat
/- Layer 20's reference: a state behind an element's beginning. Of every state in which a part is open. -/
namespace Go.Proofs.YtiiimhamfibdbaaGreat
open Go.RowKit Go.PlainAid
set_option linter.unusedVariables false
theorem GS.head_keeps (s : GS) (c t : Int) (f : Bool) (n : Int) : (s.head c t f n).leaf = s.leaf ∧ (s.head c t f n).ver = s.ver := by
 unfold GS.head
 cases s.op with
 |nil => exact ⟨rfl, rfl⟩
 |cons o r =>
  dsimp only
  cases scanG c t f n o.came o.k ((rowG o.p).drop o.k) with
  |none => exact ⟨rfl, rfl⟩
  |some x => exact ⟨rfl, rfl⟩
theorem OpA.far_state {w : World} {base b i : Nat} {v : Value} {l : List GO} {L : List Value} (h : OpA w base v l) (hR : Row w b 61 L) (u : Value) : OpA (w.setCell ⟨b, i, none⟩ u) base v l :=
 h.state hR (fun j hj => Below.heap_setCell _ _ _ j hj)
set_option maxRecDepth 100000 in
set_option maxHeartbeats 16000000 in
theorem refGPush_leaf {w : World} {ov : Value} {sop : List GO} {sleaf spart : Int} {sver : Bool} (hO : OpA w 0 ov sop.reverse) {o : GO} {r : List GO} (hop : sop = o :: r) (hk : o.k ≤ 1000) (hl : r.length ≤ 100000) (eat ec et : Int) (ef : Bool) (en eb : Int) :
  Calls Tryz.prog 17 #[rgV ov ⟨sop, sleaf, sver, spart⟩, evV ⟨2, eat, ec, et, ef, en, eb⟩] w fun x w' => ∃ v', x = .returned v' ∧ RgAt w' v' (GS.push ⟨sop, sleaf, sver, spart⟩ ⟨2, eat, ec, et, ef, en, eb⟩) ∧ Below w.heap.size w w' := by
 unfold rgV evV
 obtain ⟨W0, hW0⟩ : ∃ W, ((w.alloc (.cells #[ov, .int .i64 sleaf, .bool sver, .int .i64 spart] 61)).alloc (.cells #[.int .i64 2, .int .i64 eat, .int .i64 ec, .int .i64 et, .bool ef, .int .i64 en, .int .u8 eb] 34)).alloc (.cells #[.slice none 0 0, .int .i64 0, .bool false, .int .i64 0] 61) = W := ⟨_, rfl⟩
 have hSX : Row W0 w.heap.size 61 [ov, .int .i64 sleaf, .bool sver, .int .i64 spart] := by rw [← hW0]; exact ((Row.new w _ [ov, .int .i64 sleaf, .bool sver, .int .i64 spart]).alloc _).alloc _
 have hEX : Row W0 (w.heap.size + 1) 34 [.int .i64 2, .int .i64 eat, .int .i64 ec, .int .i64 et, .bool ef, .int .i64 en, .int .u8 eb] := by rw [← hW0]; exact (row_new2 w _ _ [.int .i64 2, .int .i64 eat, .int .i64 ec, .int .i64 et, .bool ef, .int .i64 en, .int .u8 eb]).alloc _
 have hRX : Row W0 (w.heap.size + 1 + 1) 61 [.slice none 0 0, .int .i64 0, .bool false, .int .i64 0] := by
  have h := row_new2 (w.alloc (.cells #[ov, .int .i64 sleaf, .bool sver, .int .i64 spart] 61)) (.cells #[.int .i64 2, .int .i64 eat, .int .i64 ec, .int .i64 et, .bool ef, .int .i64 en, .int .u8 eb] 34) 61 [.slice none 0 0, .int .i64 0, .bool false, .int .i64 0]
  have hs : (w.alloc (.cells #[ov, .int .i64 sleaf, .bool sver, .int .i64 spart] 61)).heap.size = w.heap.size + 1 := by simp
  rw [hs] at h
  rw [← hW0]; exact h
 have hB0 : Below w.heap.size w W0 := by rw [← hW0]; exact (((Below.refl _ _).alloc (Nat.le_refl _) _).alloc (by simp) _).alloc (by simp; omega) _
 have HOW := Lib.hid hO
 have HO0 : Hid (OpA W0 0 ov sop.reverse) := Lib.hid (by rw [← hW0]; exact hO.below (((Below.refl _ _).alloc (Nat.le_refl _) _).alloc (by simp) _ |>.alloc (by simp; omega) _))
 have HSX := Lib.hid hSX
 have HEX := Lib.hid hEX
 have HRX := Lib.hid hRX
 have HB0 := Lib.hid hB0
 have HW0 := Lib.hid hW0
 clear hW0 hSX hEX hRX hB0 hO
 go_enter Tryz.func17, Tryz.ntmps17
 go_upto_region 1 with (fail)
 rw [HW0.out]
 clear HW0
 have z0 : W0.cell? ⟨w.heap.size + 1, 0, none⟩ = some (.int .i64 2) := HEX.out.cell 0
 clear HO0
 have HH := Lib.hid (fun W (hb : Below w.heap.size w W) => refGHead_any (s := ⟨sop, sleaf, sver, spart⟩) (w := W) (v := rgV ov ⟨sop, sleaf, sver, spart⟩) ⟨ov, rfl, HOW.out.below hb⟩ hop hk hl ec et ef en)
 obtain ⟨⟨sop2, leaf2, ver2, part2⟩, hS2⟩ : ∃ S, GS.head ⟨sop, sleaf, sver, spart⟩ ec et ef en = S := ⟨_, rfl⟩
 have hkp := GS.head_keeps ⟨sop, sleaf, sver, spart⟩ ec et ef en
 rw [hS2] at HH hkp
 obtain ⟨hk1, hk2⟩ := hkp
 replace hk1 : leaf2 = sleaf := hk1
 replace hk2 : ver2 = sver := hk2
 have HS2 := Lib.hid hS2
 clear hS2 hop hk hl
 have HLA : Hid (World.rangeAt W0 w.heap.size 0 [ov, .int .i64 sleaf, .bool sver, .int .i64 spart]) := Lib.hid HSX.out.whole
 have HLB : Hid (World.rangeAt W0 (w.heap.size + 1) 2 [.int .i64 ec, .int .i64 et, .bool ef, .int .i64 en]) := Lib.hid (HEX.out.range 2 4)
 have HIA : Hid ((Tryz.prog.info? 61).map (·.size) = some [ov, .int .i64 sleaf, .bool sver, .int .i64 spart].length) := Lib.hid infoRg
 have HIB : Hid ((Tryz.prog.info? 32).map (·.size) = some [Value.int .i64 ec, .int .i64 et, .bool ef, .int .i64 en].length) := Lib.hid infoHd20
 go_wp2_with (first
  |refine wpList_load_mid rfl 61 (.tmp 2) rfl w.heap.size 0 rfl [ov, .int .i64 sleaf, .bool sver, .int .i64 spart] _ HLA.out Tryz.underlying61 rfl HIA.out ?_
  |refine wpList_load_mid rfl 32 (.tmp 30) rfl (w.heap.size + 1) 2 rfl [.int .i64 ec, .int .i64 et, .bool ef, .int .i64 en] _ HLB.out Tryz.underlying32 rfl HIB.out ?_)
 refine (HH.out _ HB0.out).mono ?_
 rintro e w3 ⟨v', rfl, ⟨ov', rfl, hO'⟩, hb⟩
 have HOC := Lib.hid hO'.one_cell
 have HS3 := Lib.hid (HSX.out.below hb HSX.out.lt)
 have HE3 := Lib.hid (HEX.out.below hb HEX.out.lt)
 have HR3 := Lib.hid (HRX.out.below hb HRX.out.lt)
 have HB3 := Lib.hid (HB0.out.trans (hb.mono HB0.out.size))
 have HO3 := Lib.hid hO'
 clear hb hO' HH HLA HLB HIA HIB z0 HSX HEX HRX HB0 HOW
 have hRV : rgV ov' ⟨sop2, leaf2, ver2, part2⟩ = .agg [ov', .int .i64 leaf2, .bool ver2, .int .i64 part2].toArray := rfl
 rw [hRV]
 clear hRV
 obtain ⟨L3, hL3⟩ : ∃ L : List Value, L = [ov', .int .i64 leaf2, .bool ver2, .int .i64 part2] := ⟨_, rfl⟩
 rw [← hL3]
 have hL3l : L3.length = 4 := by rw [hL3]; rfl
 have HL3O : Hid (∀ u ∈ L3, u.oneCell' = true) := Lib.hid (by rw [hL3]; intro u hu; simp at hu; rcases hu with rfl | rfl | rfl | rfl <;> first | rfl | exact HOC.out)
 have HL3I : Hid ((Tryz.prog.info? 61).map (·.size) = some L3.toArray.size) := Lib.hid (by rw [List.size_toArray, hL3l]; exact infoRg)
 have HL3T : Hid (World.there w3 w.heap.size 0 L3.toArray.size) := Lib.hid (HS3.out.there (by rw [List.size_toArray, hL3l]; simp))
 have HS4 : Hid (Row (w3.setCells w.heap.size 0 L3) w.heap.size 61 [ov', .int .i64 leaf2, .bool ver2, .int .i64 part2]) := Lib.hid (by rw [← hL3]; exact HS3.out.setAll (by rw [hL3l]; rfl))
 have HR4 : Hid (Row (w3.setCells w.heap.size 0 L3) (w.heap.size + 1 + 1) 61 [.slice none 0 0, .int .i64 0, .bool false, .int .i64 0]) := Lib.hid (HR3.out.farMany (by omega) 0 L3)
 have HB4 : Hid (Below w.heap.size w (w3.setCells w.heap.size 0 L3)) := Lib.hid (below_setCells _ _ HB3.out (Nat.le_refl _))
 have HO4 : Hid (OpA (w3.setCells w.heap.size 0 L3) 0 ov' sop2.reverse) := Lib.hid (HO3.out.state HS3.out (fun j hj => heap_setCells_far L3 0 _ _ hj))
 clear hL3 hL3l HS3 HE3 HR3 HB3 HO3
 go_upto_region 8 with (refine wpList_store_mid rfl 61 (.tmp 2) (.tmp 32) rfl w.heap.size 0 L3.toArray rfl rfl HL3T.out HL3I.out (all_oneCell_toArray HL3O.out) ?_)
 clear HL3T HL3I HL3O
 generalize w3.setCells w.heap.size 0 L3 = w4 at *
 have z1 : w4.cell? ⟨w.heap.size, 1, none⟩ = some (.int .i64 leaf2) := HS4.out.cell 1
 have z3 : w4.cell? ⟨w.heap.size, 3, none⟩ = some (.int .i64 part2) := HS4.out.cell 3
 have f1 := HS4.out.frozen 1
 have hbl := HR4.out.lt
 go_upto_region 9 with (fail)
 clear z1 z3 f1
 have HS5 : Hid (Row (w4.setCell ⟨w.heap.size, 1, none⟩ (.int .i64 part2)) w.heap.size 61 [ov', .int .i64 part2, .bool ver2, .int .i64 part2]) := Lib.hid (HS4.out.set 1 _)
 have HR5 : Hid (Row (w4.setCell ⟨w.heap.size, 1, none⟩ (.int .i64 part2)) (w.heap.size + 1 + 1) 61 [.slice none 0 0, .int .i64 0, .bool false, .int .i64 0]) := Lib.hid (HR4.out.far (p := ⟨w.heap.size, 1, none⟩) (by show w.heap.size + 1 + 1 ≠ w.heap.size; omega) _)
 have HB5 : Hid (Below w.heap.size w (w4.setCell ⟨w.heap.size, 1, none⟩ (.int .i64 part2))) := Lib.hid (HB4.out.setCell (Nat.le_refl _) _)
 have HO5 : Hid (OpA (w4.setCell ⟨w.heap.size, 1, none⟩ (.int .i64 part2)) 0 ov' sop2.reverse) := Lib.hid (HO4.out.far_state HS4.out _)
 clear HS4 HR4 HB4 HO4
 generalize w4.setCell ⟨w.heap.size, 1, none⟩ (.int .i64 part2) = w5 at *
 have z2 : w5.cell? ⟨w.heap.size, 2, none⟩ = some (.bool ver2) := HS5.out.cell 2
 have z3 : w5.cell? ⟨w.heap.size, 3, none⟩ = some (.int .i64 part2) := HS5.out.cell 3
 have f2 := HS5.out.frozen 2
 have HPS : Hid (GS.push ⟨sop, sleaf, sver, spart⟩ ⟨2, eat, ec, et, ef, en, eb⟩ = ⟨sop2, part2, ver2 || decide (part2 = 3), part2⟩) := Lib.hid (by
  unfold GS.push
  rw [if_neg (by show ¬ (2 : Int) = 1; decide), if_pos rfl]
  show GS.mk (GS.head ⟨sop, sleaf, sver, spart⟩ ec et ef en).op _ _ _ = _
  rw [hk2]
  simp only [HS2.out])
 clear hk1 hk2
 obtain ⟨NV, hNV⟩ : ∃ x : Bool, (ver2 || decide (part2 = 3)) = x := ⟨_, rfl⟩
 have HNV := Lib.hid hNV
 rw [hNV] at HPS
 clear hNV
 cases ver2 with
 |true =>
  obtain rfl : true = NV := HNV.out
  go_upto_region 10 with (fail)
  obtain ⟨L, hL⟩ : ∃ L : List Value, L = [ov', .int .i64 part2, .bool true, .int .i64 part2] := ⟨_, rfl⟩
  have hLl : L.length = 4 := by rw [hL]; rfl
  have hRw : Row (w5.setCell ⟨w.heap.size, 2, none⟩ (.bool true)) w.heap.size 61 L := by rw [hL]; exact HS5.out.set 2 _
  have HLO : Hid (∀ u ∈ L, u.oneCell' = true) := Lib.hid (by rw [hL]; intro u hu; simp at hu; rcases hu with rfl | rfl | rfl | rfl <;> first | rfl | exact HOC.out)
  have HLI : Hid ((Tryz.prog.info? 61).map (·.size) = some L.length) := Lib.hid (by rw [hLl]; exact infoRg)
  have HLI2 : Hid ((Tryz.prog.info? 61).map (·.size) = some L.toArray.size) := Lib.hid (by rw [List.size_toArray, hLl]; exact infoRg)
  have HLR := Lib.hid hRw.whole
  have hSw : Row (w5.setCell ⟨w.heap.size, 2, none⟩ (.bool true)) (w.heap.size + 1 + 1) 61 [.slice none 0 0, .int .i64 0, .bool false, .int .i64 0] := HR5.out.far (p := ⟨w.heap.size, 2, none⟩) (by show w.heap.size + 1 + 1 ≠ w.heap.size; omega) _
  have HLT : Hid (World.there (w5.setCell ⟨w.heap.size, 2, none⟩ (.bool true)) (w.heap.size + 1 + 1) 0 L.toArray.size) := Lib.hid (hSw.there (by rw [List.size_toArray, hLl]; simp))
  have HFin : Hid (Row (World.setCells (w5.setCell ⟨w.heap.size, 2, none⟩ (.bool true)) (w.heap.size + 1 + 1) 0 L) (w.heap.size + 1 + 1) 61 L) := Lib.hid (hSw.setAll (by rw [hLl]; rfl))
  have hBw : Below w.heap.size w (w5.setCell ⟨w.heap.size, 2, none⟩ (.bool true)) := HB5.out.setCell (Nat.le_refl _) _
  have HFB : Hid (Below w.heap.size w (World.setCells (w5.setCell ⟨w.heap.size, 2, none⟩ (.bool true)) (w.heap.size + 1 + 1) 0 L)) := Lib.hid (below_setCells _ _ hBw (by omega))
  have HFO : Hid (OpA (World.setCells (w5.setCell ⟨w.heap.size, 2, none⟩ (.bool true)) (w.heap.size + 1 + 1) 0 L) 0 ov' sop2.reverse) := Lib.hid ((HO5.out.far_state HS5.out _).state hSw (fun j hj => heap_setCells_far L 0 _ _ hj))
  have HPU : Hid (GS.push ⟨sop, sleaf, sver, spart⟩ ⟨2, eat, ec, et, ef, en, eb⟩ = ⟨sop2, part2, true, part2⟩) := Lib.hid (by exact HPS.out)
  have HLL := Lib.hid hL
  clear hRw hSw hBw hL hLl
  go_wp2_with (first
   |refine wpList_load_mid rfl 61 (.tmp 2) rfl w.heap.size 0 rfl L _ HLR.out Tryz.underlying61 rfl HLI.out ?_
   |refine wpList_store_mid rfl 61 (.tmp 4) (.tmp 44) rfl (w.heap.size + 1 + 1) 0 L.toArray rfl rfl HLT.out HLI2.out (all_oneCell_toArray HLO.out) ?_)
  exact bodyPost_ret (results_cell Tryz.results17 _ (ad := ⟨w.heap.size + 1 + 1, 0, none⟩) rfl (run_loadVar_mid _ _ 0 _ L _ HFin.out.whole Tryz.underlying61 rfl HLI.out)) rfl ⟨_, rfl, ⟨ov', by rw [HPU.out, HLL.out]; rfl, by rw [HPU.out]; exact HFO.out⟩, HFB.out⟩
 |false =>
  by_cases p3 : part2 = 3
  ·have b3 : (part2 == 3) = true := by simpa using p3
   obtain rfl : true = NV := by rw [← HNV.out]; simp [p3]
   clear p3
   go_upto_region 10 with (fail)
   obtain ⟨L, hL⟩ : ∃ L : List Value, L = [ov', .int .i64 part2, .bool true, .int .i64 part2] := ⟨_, rfl⟩
   have hLl : L.length = 4 := by rw [hL]; rfl
   have hRw : Row (w5.setCell ⟨w.heap.size, 2, none⟩ (.bool true)) w.heap.size 61 L := by rw [hL]; exact HS5.out.set 2 _
   have HLO : Hid (∀ u ∈ L, u.oneCell' = true) := Lib.hid (by rw [hL]; intro u hu; simp at hu; rcases hu with rfl | rfl | rfl | rfl <;> first | rfl | exact HOC.out)
   have HLI : Hid ((Tryz.prog.info? 61).map (·.size) = some L.length) := Lib.hid (by rw [hLl]; exact infoRg)
   have HLI2 : Hid ((Tryz.prog.info? 61).map (·.size) = some L.toArray.size) := Lib.hid (by rw [List.size_toArray, hLl]; exact infoRg)
   have HLR := Lib.hid hRw.whole
   have hSw : Row (w5.setCell ⟨w.heap.size, 2, none⟩ (.bool true)) (w.heap.size + 1 + 1) 61 [.slice none 0 0, .int .i64 0, .bool false, .int .i64 0] := HR5.out.far (p := ⟨w.heap.size, 2, none⟩) (by show w.heap.size + 1 + 1 ≠ w.heap.size; omega) _
   have HLT : Hid (World.there (w5.setCell ⟨w.heap.size, 2, none⟩ (.bool true)) (w.heap.size + 1 + 1) 0 L.toArray.size) := Lib.hid (hSw.there (by rw [List.size_toArray, hLl]; simp))
   have HFin : Hid (Row (World.setCells (w5.setCell ⟨w.heap.size, 2, none⟩ (.bool true)) (w.heap.size + 1 + 1) 0 L) (w.heap.size + 1 + 1) 61 L) := Lib.hid (hSw.setAll (by rw [hLl]; rfl))
   have hBw : Below w.heap.size w (w5.setCell ⟨w.heap.size, 2, none⟩ (.bool true)) := HB5.out.setCell (Nat.le_refl _) _
   have HFB : Hid (Below w.heap.size w (World.setCells (w5.setCell ⟨w.heap.size, 2, none⟩ (.bool true)) (w.heap.size + 1 + 1) 0 L)) := Lib.hid (below_setCells _ _ hBw (by omega))
   have HFO : Hid (OpA (World.setCells (w5.setCell ⟨w.heap.size, 2, none⟩ (.bool true)) (w.heap.size + 1 + 1) 0 L) 0 ov' sop2.reverse) := Lib.hid ((HO5.out.far_state HS5.out _).state hSw (fun j hj => heap_setCells_far L 0 _ _ hj))
   have HPU : Hid (GS.push ⟨sop, sleaf, sver, spart⟩ ⟨2, eat, ec, et, ef, en, eb⟩ = ⟨sop2, part2, true, part2⟩) := Lib.hid (by exact HPS.out)
   have HLL := Lib.hid hL
   clear hRw hSw hBw hL hLl
   go_wp2_with (first
    |refine wpList_load_mid rfl 61 (.tmp 2) rfl w.heap.size 0 rfl L _ HLR.out Tryz.underlying61 rfl HLI.out ?_
    |refine wpList_store_mid rfl 61 (.tmp 4) (.tmp 44) rfl (w.heap.size + 1 + 1) 0 L.toArray rfl rfl HLT.out HLI2.out (all_oneCell_toArray HLO.out) ?_)
   exact bodyPost_ret (results_cell Tryz.results17 _ (ad := ⟨w.heap.size + 1 + 1, 0, none⟩) rfl (run_loadVar_mid _ _ 0 _ L _ HFin.out.whole Tryz.underlying61 rfl HLI.out)) rfl ⟨_, rfl, ⟨ov', by rw [HPU.out, HLL.out]; rfl, by rw [HPU.out]; exact HFO.out⟩, HFB.out⟩
  ·have b3 : (part2 == 3) = false := by simpa using p3
   obtain rfl : false = NV := by rw [← HNV.out]; simp [p3]
   clear p3
   go_upto_region 10 with (fail)
   obtain ⟨L, hL⟩ : ∃ L : List Value, L = [ov', .int .i64 part2, .bool false, .int .i64 part2] := ⟨_, rfl⟩
   have hLl : L.length = 4 := by rw [hL]; rfl
   have hRw : Row (w5.setCell ⟨w.heap.size, 2, none⟩ (.bool false)) w.heap.size 61 L := by rw [hL]; exact HS5.out.set 2 _
   have HLO : Hid (∀ u ∈ L, u.oneCell' = true) := Lib.hid (by rw [hL]; intro u hu; simp at hu; rcases hu with rfl | rfl | rfl | rfl <;> first | rfl | exact HOC.out)
   have HLI : Hid ((Tryz.prog.info? 61).map (·.size) = some L.length) := Lib.hid (by rw [hLl]; exact infoRg)
   have HLI2 : Hid ((Tryz.prog.info? 61).map (·.size) = some L.toArray.size) := Lib.hid (by rw [List.size_toArray, hLl]; exact infoRg)
   have HLR := Lib.hid hRw.whole
   have hSw : Row (w5.setCell ⟨w.heap.size, 2, none⟩ (.bool false)) (w.heap.size + 1 + 1) 61 [.slice none 0 0, .int .i64 0, .bool false, .int .i64 0] := HR5.out.far (p := ⟨w.heap.size, 2, none⟩) (by show w.heap.size + 1 + 1 ≠ w.heap.size; omega) _
   have HLT : Hid (World.there (w5.setCell ⟨w.heap.size, 2, none⟩ (.bool false)) (w.heap.size + 1 + 1) 0 L.toArray.size) := Lib.hid (hSw.there (by rw [List.size_toArray, hLl]; simp))
   have HFin : Hid (Row (World.setCells (w5.setCell ⟨w.heap.size, 2, none⟩ (.bool false)) (w.heap.size + 1 + 1) 0 L) (w.heap.size + 1 + 1) 61 L) := Lib.hid (hSw.setAll (by rw [hLl]; rfl))
   have hBw : Below w.heap.size w (w5.setCell ⟨w.heap.size, 2, none⟩ (.bool false)) := HB5.out.setCell (Nat.le_refl _) _
   have HFB : Hid (Below w.heap.size w (World.setCells (w5.setCell ⟨w.heap.size, 2, none⟩ (.bool false)) (w.heap.size + 1 + 1) 0 L)) := Lib.hid (below_setCells _ _ hBw (by omega))
   have HFO : Hid (OpA (World.setCells (w5.setCell ⟨w.heap.size, 2, none⟩ (.bool false)) (w.heap.size + 1 + 1) 0 L) 0 ov' sop2.reverse) := Lib.hid ((HO5.out.far_state HS5.out _).state hSw (fun j hj => heap_setCells_far L 0 _ _ hj))
   have HPU : Hid (GS.push ⟨sop, sleaf, sver, spart⟩ ⟨2, eat, ec, et, ef, en, eb⟩ = ⟨sop2, part2, false, part2⟩) := Lib.hid (by exact HPS.out)
   have HLL := Lib.hid hL
   clear hRw hSw hBw hL hLl
   go_wp2_with (first
    |refine wpList_load_mid rfl 61 (.tmp 2) rfl w.heap.size 0 rfl L _ HLR.out Tryz.underlying61 rfl HLI.out ?_
    |refine wpList_store_mid rfl 61 (.tmp 4) (.tmp 44) rfl (w.heap.size + 1 + 1) 0 L.toArray rfl rfl HLT.out HLI2.out (all_oneCell_toArray HLO.out) ?_)
   exact bodyPost_ret (results_cell Tryz.results17 _ (ad := ⟨w.heap.size + 1 + 1, 0, none⟩) rfl (run_loadVar_mid _ _ 0 _ L _ HFin.out.whole Tryz.underlying61 rfl HLI.out)) rfl ⟨_, rfl, ⟨ov', by rw [HPU.out, HLL.out]; rfl, by rw [HPU.out]; exact HFO.out⟩, HFB.out⟩
set_option maxRecDepth 100000 in
set_option maxHeartbeats 16000000 in
theorem refGPush_enter {w : World} {ov : Value} {sop : List GO} {sleaf spart : Int} {sver : Bool} (hO : OpA w 0 ov sop.reverse) {o : GO} {r : List GO} (hop : sop = o :: r) (hk : o.k ≤ 1000) (hl : r.length ≤ 100000) (eat ec et : Int) (ef : Bool) (en eb : Int) :
  Calls Tryz.prog 17 #[rgV ov ⟨sop, sleaf, sver, spart⟩, evV ⟨1, eat, ec, et, ef, en, eb⟩] w fun x w' => ∃ v', x = .returned v' ∧ RgAt w' v' (GS.push ⟨sop, sleaf, sver, spart⟩ ⟨1, eat, ec, et, ef, en, eb⟩) ∧ Below w.heap.size w w' := by
 unfold rgV evV
 obtain ⟨W0, hW0⟩ : ∃ W, ((w.alloc (.cells #[ov, .int .i64 sleaf, .bool sver, .int .i64 spart] 61)).alloc (.cells #[.int .i64 1, .int .i64 eat, .int .i64 ec, .int .i64 et, .bool ef, .int .i64 en, .int .u8 eb] 34)).alloc (.cells #[.slice none 0 0, .int .i64 0, .bool false, .int .i64 0] 61) = W := ⟨_, rfl⟩
 have hSX : Row W0 w.heap.size 61 [ov, .int .i64 sleaf, .bool sver, .int .i64 spart] := by rw [← hW0]; exact ((Row.new w _ [ov, .int .i64 sleaf, .bool sver, .int .i64 spart]).alloc _).alloc _
 have hEX : Row W0 (w.heap.size + 1) 34 [.int .i64 1, .int .i64 eat, .int .i64 ec, .int .i64 et, .bool ef, .int .i64 en, .int .u8 eb] := by rw [← hW0]; exact (row_new2 w _ _ [.int .i64 1, .int .i64 eat, .int .i64 ec, .int .i64 et, .bool ef, .int .i64 en, .int .u8 eb]).alloc _
 have hRX : Row W0 (w.heap.size + 1 + 1) 61 [.slice none 0 0, .int .i64 0, .bool false, .int .i64 0] := by
  have h := row_new2 (w.alloc (.cells #[ov, .int .i64 sleaf, .bool sver, .int .i64 spart] 61)) (.cells #[.int .i64 1, .int .i64 eat, .int .i64 ec, .int .i64 et, .bool ef, .int .i64 en, .int .u8 eb] 34) 61 [.slice none 0 0, .int .i64 0, .bool false, .int .i64 0]
  have hs : (w.alloc (.cells #[ov, .int .i64 sleaf, .bool sver, .int .i64 spart] 61)).heap.size = w.heap.size + 1 := by simp
  rw [hs] at h
  rw [← hW0]; exact h
 have hB0 : Below w.heap.size w W0 := by rw [← hW0]; exact (((Below.refl _ _).alloc (Nat.le_refl _) _).alloc (by simp) _).alloc (by simp; omega) _
 have HOW := Lib.hid hO
 have HO0 : Hid (OpA W0 0 ov sop.reverse) := Lib.hid (by rw [← hW0]; exact hO.below (((Below.refl _ _).alloc (Nat.le_refl _) _).alloc (by simp) _ |>.alloc (by simp; omega) _))
 have HSX := Lib.hid hSX
 have HEX := Lib.hid hEX
 have HRX := Lib.hid hRX
 have HB0 := Lib.hid hB0
 have HW0 := Lib.hid hW0
 clear hW0 hSX hEX hRX hB0 hO
 go_enter Tryz.func17, Tryz.ntmps17
 go_upto_region 1 with (fail)
 rw [HW0.out]
 clear HW0
 have z0 : W0.cell? ⟨w.heap.size + 1, 0, none⟩ = some (.int .i64 1) := HEX.out.cell 0
 clear HO0
 have hsl : sop.length ≤ 100001 ∧ sop.length ≠ 0 := by rw [hop, List.length_cons]; exact ⟨by omega, by omega⟩
 have HH := Lib.hid (fun W (hb : Below w.heap.size w W) => refGHead_any (s := ⟨sop, sleaf, sver, spart⟩) (w := W) (v := rgV ov ⟨sop, sleaf, sver, spart⟩) ⟨ov, rfl, HOW.out.below hb⟩ hop hk hl ec et ef en)
 obtain ⟨⟨sop2, leaf2, ver2, part2⟩, hS2⟩ : ∃ S, GS.head ⟨sop, sleaf, sver, spart⟩ ec et ef en = S := ⟨_, rfl⟩
 have hkp := GS.head_keeps ⟨sop, sleaf, sver, spart⟩ ec et ef en
 rw [hS2] at HH hkp
 obtain ⟨hk1, hk2⟩ := hkp
 replace hk1 : leaf2 = sleaf := hk1
 replace hk2 : ver2 = sver := hk2
 have HS2 := Lib.hid hS2
 have hhl := GS.head_len ⟨sop, sleaf, sver, spart⟩ ec et ef en
 rw [hS2] at hhl
 replace hhl : sop2.length = sop.length := hhl
 clear hS2 hop hk hl
 have HLA : Hid (World.rangeAt W0 w.heap.size 0 [ov, .int .i64 sleaf, .bool sver, .int .i64 spart]) := Lib.hid HSX.out.whole
 have HLB : Hid (World.rangeAt W0 (w.heap.size + 1) 2 [.int .i64 ec, .int .i64 et, .bool ef, .int .i64 en]) := Lib.hid (HEX.out.range 2 4)
 have HIA : Hid ((Tryz.prog.info? 61).map (·.size) = some [ov, .int .i64 sleaf, .bool sver, .int .i64 spart].length) := Lib.hid infoRg
 have HIB : Hid ((Tryz.prog.info? 32).map (·.size) = some [Value.int .i64 ec, .int .i64 et, .bool ef, .int .i64 en].length) := Lib.hid infoHd20
 go_wp2_with (first
  |refine wpList_load_mid rfl 61 (.tmp 2) rfl w.heap.size 0 rfl [ov, .int .i64 sleaf, .bool sver, .int .i64 spart] _ HLA.out Tryz.underlying61 rfl HIA.out ?_
  |refine wpList_load_mid rfl 32 (.tmp 13) rfl (w.heap.size + 1) 2 rfl [.int .i64 ec, .int .i64 et, .bool ef, .int .i64 en] _ HLB.out Tryz.underlying32 rfl HIB.out ?_)
 refine (HH.out _ HB0.out).mono ?_
 rintro e w3 ⟨v', rfl, ⟨ov', rfl, hO'⟩, hb⟩
 have HOC := Lib.hid hO'.one_cell
 have HS3 := Lib.hid (HSX.out.below hb HSX.out.lt)
 have HE3 := Lib.hid (HEX.out.below hb HEX.out.lt)
 have HR3 := Lib.hid (HRX.out.below hb HRX.out.lt)
 have HB3 := Lib.hid (HB0.out.trans (hb.mono HB0.out.size))
 have HO3 := Lib.hid hO'
 clear hb hO' HH HLA HLB HIA HIB z0 HSX HEX HRX HB0 HOW
 have hRV : rgV ov' ⟨sop2, leaf2, ver2, part2⟩ = .agg [ov', .int .i64 leaf2, .bool ver2, .int .i64 part2].toArray := rfl
 rw [hRV]
 clear hRV
 obtain ⟨L3, hL3⟩ : ∃ L : List Value, L = [ov', .int .i64 leaf2, .bool ver2, .int .i64 part2] := ⟨_, rfl⟩
 rw [← hL3]
 have hL3l : L3.length = 4 := by rw [hL3]; rfl
 have HL3O : Hid (∀ u ∈ L3, u.oneCell' = true) := Lib.hid (by rw [hL3]; intro u hu; simp at hu; rcases hu with rfl | rfl | rfl | rfl <;> first | rfl | exact HOC.out)
 have HL3I : Hid ((Tryz.prog.info? 61).map (·.size) = some L3.toArray.size) := Lib.hid (by rw [List.size_toArray, hL3l]; exact infoRg)
 have HL3T : Hid (World.there w3 w.heap.size 0 L3.toArray.size) := Lib.hid (HS3.out.there (by rw [List.size_toArray, hL3l]; simp))
 have HS4 : Hid (Row (w3.setCells w.heap.size 0 L3) w.heap.size 61 [ov', .int .i64 leaf2, .bool ver2, .int .i64 part2]) := Lib.hid (by rw [← hL3]; exact HS3.out.setAll (by rw [hL3l]; rfl))
 have HR4 : Hid (Row (w3.setCells w.heap.size 0 L3) (w.heap.size + 1 + 1) 61 [.slice none 0 0, .int .i64 0, .bool false, .int .i64 0]) := Lib.hid (HR3.out.farMany (by omega) 0 L3)
 have HB4 : Hid (Below w.heap.size w (w3.setCells w.heap.size 0 L3)) := Lib.hid (below_setCells _ _ HB3.out (Nat.le_refl _))
 have HO4 : Hid (OpA (w3.setCells w.heap.size 0 L3) 0 ov' sop2.reverse) := Lib.hid (HO3.out.state HS3.out (fun j hj => heap_setCells_far L3 0 _ _ hj))
 clear hL3 hL3l HS3 HE3 HR3 HB3 HO3
 go_upto_region 4 with (refine wpList_store_mid rfl 61 (.tmp 2) (.tmp 15) rfl w.heap.size 0 L3.toArray rfl rfl HL3T.out HL3I.out (all_oneCell_toArray HL3O.out) ?_)
 clear HL3T HL3I HL3O
 generalize w3.setCells w.heap.size 0 L3 = w4 at *
 have HPS : Hid (GS.push ⟨sop, sleaf, sver, spart⟩ ⟨1, eat, ec, et, ef, en, eb⟩ = ⟨(GO.mk part2 0 false) :: sop2, leaf2, ver2, part2⟩) := Lib.hid (by
  unfold GS.push
  rw [if_pos rfl]
  show GS.mk (GO.mk (GS.head ⟨sop, sleaf, sver, spart⟩ ec et ef en).part 0 false :: (GS.head ⟨sop, sleaf, sver, spart⟩ ec et ef en).op) _ _ _ = _
  simp only [HS2.out])
 clear hk1 hk2
 obtain ⟨n, hn⟩ : ∃ n, sop2.length = n := ⟨_, rfl⟩
 have hrr : sop2.reverse.length = n := by rw [List.length_reverse, hn]
 have hn2 : n ≤ 100001 := by omega
 have hn0 : n ≠ 0 := by omega
 clear hhl hsl hn
 obtain ⟨g, cp, rfl, hcp, hcm⟩ : ∃ g c, ov' = .slice (some ⟨g, 0, none⟩) n c ∧ n ≤ c ∧ c ≤ maxLen := by
  rcases HO4.out.shape with ⟨_, q⟩ | ⟨g, c, q, q2, q3, _⟩
  ·rw [q] at hrr; exact absurd hrr.symm hn0
  ·rw [hrr] at q q2; exact ⟨g, c, q, q2, q3⟩
 have y0 : w4.cell? ⟨w.heap.size, 0, none⟩ = some (.slice (some ⟨g, 0, none⟩) n cp) := HS4.out.cell 0
 have y3 : w4.cell? ⟨w.heap.size, 3, none⟩ = some (.int .i64 part2) := HS4.out.cell 3
 have f0 := HS4.out.frozen 0
 have HST : Hid (∀ X, Below w4.heap.size w4 X → X.cell? ⟨w.heap.size, 0, none⟩ = some (.slice (some ⟨g, 0, none⟩) n cp) ∧ X.frozen? ⟨w.heap.size, 0, none⟩ = false ∧ X.cell? ⟨w.heap.size, 3, none⟩ = some (.int .i64 part2)) := Lib.hid (fun X h => ⟨(HS4.out.below h HS4.out.lt).cell 0, (HS4.out.below h HS4.out.lt).frozen 0, (HS4.out.below h HS4.out.lt).cell 3⟩)
 have HFR : Hid (∀ Y, Below w4.heap.size w4 Y → ∀ j u, (gosC sop2.reverse)[j]? = some u → Y.cell? ((⟨g, 0, none⟩ : Addr).add j) = some u) := Lib.hid (fun Y hY => (HO4.out.below hY).cells)
 have HSH : Hid (∀ X v, OpA X w4.heap.size v (sop2.reverse ++ [(GO.mk part2 0 false)]) → ∃ g2 d2, v = .slice (some ⟨g2, 0, none⟩) (n + 1) d2 ∧ w4.heap.size ≤ g2) := Lib.hid (fun X v h => by
  rcases h.shape with ⟨_, q⟩ | ⟨g, c, q, _, _, h1, _⟩
  ·simp at q
  ·exact ⟨g, c, by rw [q, List.length_append, hrr]; rfl, h1⟩)
 have hl9 : sop2.reverse.length ≤ 100000000 := by rw [hrr]; omega
 have hbw : w.heap.size < w4.heap.size := HS4.out.lt
 obtain ⟨a0, a1, a2⟩ := HST.out (w4.alloc (.cells #[] 89)) ((Below.refl _ _).alloc (Nat.le_refl _) _)
 obtain ⟨a3, a4, a5⟩ := HST.out ((w4.alloc (.cells #[] 89)).alloc (.cells #[.int .i64 part2, .int .i64 0, .bool false] 89)) (((Below.refl _ _).alloc (Nat.le_refl _) _).alloc (by simp) _)
 obtain ⟨a6, a7, a8⟩ := HST.out (w4.alloc (.cells #[.int .i64 part2, .int .i64 0, .bool false] 89)) ((Below.refl _ _).alloc (Nat.le_refl _) _)
 obtain ⟨b0, b1, b2⟩ := HST.out ((w4.alloc (.cells #[.int .i64 part2, .int .i64 0, .bool false] 89)).alloc (.cells #[] 89)) (((Below.refl _ _).alloc (Nat.le_refl _) _).alloc (by simp) _)
 have HEND : Hid (∀ (X2 : World) (g2 d2 : Nat), Below w4.heap.size w4 X2 → OpA X2 w4.heap.size (.slice (some ⟨g2, 0, none⟩) (n + 1) d2) (sop2.reverse ++ [(GO.mk part2 0 false)]) → (fun wq => ∃ g2 d2, Row wq w.heap.size 61 [.slice (some ⟨g2, 0, none⟩) (n + 1) d2, .int .i64 leaf2, .bool ver2, .int .i64 part2] ∧ OpA wq 0 (.slice (some ⟨g2, 0, none⟩) (n + 1) d2) (sop2.reverse ++ [(GO.mk part2 0 false)]) ∧ Below w.heap.size w wq ∧ Row wq (w.heap.size + 1 + 1) 61 [.slice none 0 0, .int .i64 0, .bool false, .int .i64 0]) (X2.setCell ⟨w.heap.size, 0, none⟩ (.slice (some ⟨g2, 0, none⟩) (n + 1) d2))) := Lib.hid (fun X2 g2 d2 hB2 ho2 =>
  ⟨g2, d2, (HS4.out.below hB2 HS4.out.lt).set 0 _, (ho2.mono (Nat.zero_le _)).far_state (HS4.out.below hB2 HS4.out.lt) _, (HB4.out.trans (hB2.mono HB4.out.size)).setCell (Nat.le_refl _) _, (HR4.out.below hB2 HR4.out.lt).far (p := ⟨w.heap.size, 0, none⟩) (by show w.heap.size + 1 + 1 ≠ w.heap.size; omega) _⟩)
 dsimp only [Act.put]
 go_cut [] from 10 to 26 (fun wq => Hid (∃ g2 d2, Row wq w.heap.size 61 [.slice (some ⟨g2, 0, none⟩) (n + 1) d2, .int .i64 leaf2, .bool ver2, .int .i64 part2] ∧ OpA wq 0 (.slice (some ⟨g2, 0, none⟩) (n + 1) d2) (sop2.reverse ++ [(GO.mk part2 0 false)]) ∧ Below w.heap.size w wq ∧ Row wq (w.heap.size + 1 + 1) 61 [.slice none 0 0, .int .i64 0, .bool false, .int .i64 0]))
 case first =>
  clear HPS
  go_region_law (first
   |(refine op_first rfl (.tmp 16) (.tmp 18) rfl (W := w4) w4.heap.size g cp n sop2.reverse rfl rfl hrr (row_of_heap20 (heap20_1 rfl (.cells #[] 89)) rfl) (Nat.le_refl _) (by first | exact ((Below.refl _ _).alloc (Nat.le_refl _) _).drew | exact (Below.refl _ _).alloc (Nat.le_refl _) _) HFR.out hl9 ?_; intro v1 X1 ho1 hB1 hg9; obtain ⟨q0, q1, q2⟩ := HST.out X1 hB1)
   |(refine op_first rfl (.tmp 16) (.tmp 18) rfl (W := w4) w4.heap.size g cp n sop2.reverse rfl rfl hrr (row_of_heap20 (heap20_2 rfl (.cells #[] 89) (goO (GO.mk part2 0 false))) rfl) (Nat.le_refl _) (by first | exact (((Below.refl _ _).alloc (Nat.le_refl _) _).alloc (by simp) _).drew | exact ((Below.refl _ _).alloc (Nat.le_refl _) _).alloc (by simp) _) HFR.out hl9 ?_; intro v1 X1 ho1 hB1 hg9; have r9 := hg9 (w4.heap.size + 1) (GO.mk part2 0 false) (by omega) (row_of_heap20 (heap20_3 rfl (.cells #[] 89) (goO (GO.mk part2 0 false))) rfl); obtain ⟨q0, q1, q2⟩ := HST.out X1 hB1)
   |(refine op_first rfl (.tmp 16) (.tmp 18) rfl (W := w4) (w4.heap.size + 1) g cp n sop2.reverse rfl rfl hrr (row_of_heap20 (heap20_3 rfl (goO (GO.mk part2 0 false)) (.cells #[] 89)) rfl) (by omega) (by first | exact (((Below.refl _ _).alloc (Nat.le_refl _) _).alloc (by simp) _).drew | exact ((Below.refl _ _).alloc (Nat.le_refl _) _).alloc (by simp) _) HFR.out hl9 ?_; intro v1 X1 ho1 hB1 hg9; have r9 := hg9 w4.heap.size (GO.mk part2 0 false) (by omega) (row_of_heap20 (heap20_2 rfl (goO (GO.mk part2 0 false)) (.cells #[] 89)) rfl); obtain ⟨q0, q1, q2⟩ := HST.out X1 hB1)
   |(refine op_second rfl (.tmp 19) (.tmp 23) rfl (W := w4) X1.heap.size v1 sop2.reverse (GO.mk part2 0 false) rfl rfl (ho1.below (by first | exact ((Below.refl _ _).alloc (Nat.le_refl _) _).drew | exact (Below.refl _ _).alloc (Nat.le_refl _) _)) (Row.new X1 _ (goC (GO.mk part2 0 false))) (by first | exact hB1.alloc hB1.size _ | exact (hB1.alloc hB1.size _).drew) hl9 ?_; intro v2 X2 ho2 hB2; obtain ⟨g2, d2, rfl, hg2⟩ := HSH.out X2 v2 ho2; obtain ⟨q0, q1, q2⟩ := HST.out X2 hB2)
   |(refine op_second rfl (.tmp 19) (.tmp 23) rfl (W := w4) (w4.heap.size + 1) v1 sop2.reverse (GO.mk part2 0 false) rfl rfl ho1 r9 hB1 hl9 ?_; intro v2 X2 ho2 hB2; obtain ⟨g2, d2, rfl, hg2⟩ := HSH.out X2 v2 ho2; obtain ⟨q0, q1, q2⟩ := HST.out X2 hB2)
   |(refine op_second rfl (.tmp 19) (.tmp 23) rfl (W := w4) w4.heap.size v1 sop2.reverse (GO.mk part2 0 false) rfl rfl ho1 r9 hB1 hl9 ?_; intro v2 X2 ho2 hB2; obtain ⟨g2, d2, rfl, hg2⟩ := HSH.out X2 v2 ho2; obtain ⟨q0, q1, q2⟩ := HST.out X2 hB2))
  all_goals
   have HQ := Lib.hid (HEND.out X2 g2 d2 hB2 ho2)
   clear hB2 ho2 q0 q1 q2 a0 a1 a2 a3 a4 a5 a6 a7 a8 b0 b1 b2 y0 y3 f0 HST HFR HSH HEND
   go_wp2_with fail
   go_meet
   exact HQ
 case rest =>
  obtain ⟨g2, d2, hRx, hOx, hBx, hZx⟩ := hcut.out
  clear hcut HEND HST HFR HSH a0 a1 a2 a3 a4 a5 a6 a7 a8 b0 b1 b2 y0 y3 f0 HS4 HR4 HB4 HO4
  have HRx := Lib.hid hRx
  have HOx := Lib.hid hOx
  have HBx := Lib.hid hBx
  have HZx := Lib.hid hZx
  have hbl := hZx.lt
  clear hRx hOx hBx hZx
  obtain ⟨L, hL⟩ : ∃ L : List Value, L = [.slice (some ⟨g2, 0, none⟩) (n + 1) d2, .int .i64 leaf2, .bool ver2, .int .i64 part2] := ⟨_, rfl⟩
  have hLl : L.length = 4 := by rw [hL]; rfl
  have hRw : Row wc w.heap.size 61 L := by rw [hL]; exact HRx.out
  have HLO : Hid (∀ u ∈ L, u.oneCell' = true) := Lib.hid (by rw [hL]; intro u hu; simp at hu; rcases hu with rfl | rfl | rfl | rfl <;> rfl)
  have HLI : Hid ((Tryz.prog.info? 61).map (·.size) = some L.length) := Lib.hid (by rw [hLl]; exact infoRg)
  have HLI2 : Hid ((Tryz.prog.info? 61).map (·.size) = some L.toArray.size) := Lib.hid (by rw [List.size_toArray, hLl]; exact infoRg)
  have HLR := Lib.hid hRw.whole
  have hSw : Row wc (w.heap.size + 1 + 1) 61 [.slice none 0 0, .int .i64 0, .bool false, .int .i64 0] := HZx.out
  have HLT : Hid (World.there wc (w.heap.size + 1 + 1) 0 L.toArray.size) := Lib.hid (hSw.there (by rw [List.size_toArray, hLl]; simp))
  have HFin : Hid (Row (World.setCells wc (w.heap.size + 1 + 1) 0 L) (w.heap.size + 1 + 1) 61 L) := Lib.hid (hSw.setAll (by rw [hLl]; rfl))
  have hBw : Below w.heap.size w wc := HBx.out
  have HFB : Hid (Below w.heap.size w (World.setCells wc (w.heap.size + 1 + 1) 0 L)) := Lib.hid (below_setCells _ _ hBw (by omega))
  have HFO : Hid (OpA (World.setCells wc (w.heap.size + 1 + 1) 0 L) 0 (.slice (some ⟨g2, 0, none⟩) (n + 1) d2) (sop2.reverse ++ [(GO.mk part2 0 false)])) := Lib.hid ((HOx.out).state hSw (fun j hj => heap_setCells_far L 0 _ _ hj))
  have HPU : Hid (GS.push ⟨sop, sleaf, sver, spart⟩ ⟨1, eat, ec, et, ef, en, eb⟩ = ⟨(GO.mk part2 0 false) :: sop2, leaf2, ver2, part2⟩) := Lib.hid (by exact HPS.out)
  have HLL := Lib.hid hL
  clear hRw hSw hBw hL hLl
  go_wp2_with (first
   |refine wpList_load_mid rfl 61 (.tmp 2) rfl w.heap.size 0 rfl L _ HLR.out Tryz.underlying61 rfl HLI.out ?_
   |refine wpList_store_mid rfl 61 (.tmp 4) (.tmp 26) rfl (w.heap.size + 1 + 1) 0 L.toArray rfl rfl HLT.out HLI2.out (all_oneCell_toArray HLO.out) ?_)
  exact bodyPost_ret (results_cell Tryz.results17 _ (ad := ⟨w.heap.size + 1 + 1, 0, none⟩) rfl (run_loadVar_mid _ _ 0 _ L _ HFin.out.whole Tryz.underlying61 rfl HLI.out)) rfl ⟨_, rfl, ⟨(.slice (some ⟨g2, 0, none⟩) (n + 1) d2), by rw [HPU.out, HLL.out]; rfl, by rw [HPU.out]; show OpA _ 0 _ ((GO.mk part2 0 false) :: sop2).reverse; rw [List.reverse_cons]; exact HFO.out⟩, HFB.out⟩
end Go.Proofs.YtiiimhamfibdbaaGreat
