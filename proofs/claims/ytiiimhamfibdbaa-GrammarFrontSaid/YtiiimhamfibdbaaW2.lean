/- What when's Push gives: the landed code's contract. Of every state that a content can leave, and every byte. -/
import Derived.Test.YtiiimhamfibdbaaW1
namespace Go.Proofs.Ytiiimhamfibdbaa
open Go.RowKit Go.PlainAid
set_option linter.unusedVariables false
set_option maxHeartbeats 40000000 in
theorem wPush_any (p l v y m b : Int) (hs : WS.Ok ⟨p, l, v, y, m⟩) (hb : 0 ≤ b ∧ b ≤ 255) (w : World) :
  Calls Try.prog 92 #[.agg #[.int .u8 p, .int .i64 l, .int .i64 v, .int .i64 y, .int .i64 m], .int .u8 b] w fun e w' => e = .returned (.tuple #[.agg #[.int .u8 (wPush ⟨p, l, v, y, m⟩ b).1.p, .int .i64 (wPush ⟨p, l, v, y, m⟩ b).1.l, .int .i64 (wPush ⟨p, l, v, y, m⟩ b).1.v, .int .i64 (wPush ⟨p, l, v, y, m⟩ b).1.y, .int .i64 (wPush ⟨p, l, v, y, m⟩ b).1.m], .bool (wPush ⟨p, l, v, y, m⟩ b).2]) ∧ Below w.heap.size w w' := by
 obtain ⟨p0, p1, l0, l1, v0, v1, y0, y1, m0, m1, lp⟩ := hs
 simp only at p0 p1 l0 l1 v0 v1 y0 y1 m0 m1 lp
 have hZ : ((((⟨#[90]⟩ : ByteArray)[0]'(by decide)).toNat : Nat) : Int) = 90 := rfl
 by_cases hz : p = 8 ∧ b = 90
 ·have HO : Hid (wPush ⟨p, l, v, y, m⟩ b = (⟨0, l, v, y, m⟩, true)) := Lib.hid (if_pos hz)
  obtain ⟨rfl, rfl⟩ := hz
  go_enter Try.func92, Try.ntmps92
  go_wp2
  exact bodyPost_ret (results_cell_one Try.results92 _ (ad := ⟨w.heap.size + 1, 0, none⟩) rfl rfl (wst_load (row_new2 w _ 111 (wC5 0 l v y m)))) rfl ⟨by rw [HO.out]; rfl, by go_grown⟩
 ·by_cases hn : l < 1 ∨ b < 48 ∨ 57 < b
  ·have HO : Hid (wPush ⟨p, l, v, y, m⟩ b = (WS.no, false)) := Lib.hid (by unfold wPush; rw [if_neg hz, if_pos hn])
   by_cases h8 : p = 8
   ·subst h8
    have hb9 : (b == 90) = false := by simpa using hz
    have hl1 : l < 1 := by omega
    clear hz hn
    go_enter Try.func92, Try.ntmps92
    go_wp2
    exact bodyPost_ret (results_cell_one Try.results92 _ (ad := ⟨w.heap.size + 1, 0, none⟩) rfl rfl (wst_load (row_new2 w _ 111 (wC5 0 0 0 0 0)))) rfl ⟨by rw [HO.out]; rfl, by go_grown⟩
   ·have hb8 : (p == 8) = false := by simpa using h8
    clear hz h8
    by_cases hl1 : l < 1
    ·clear hn
     go_enter Try.func92, Try.ntmps92
     go_wp2
     exact bodyPost_ret (results_cell_one Try.results92 _ (ad := ⟨w.heap.size + 1, 0, none⟩) rfl rfl (wst_load (row_new2 w _ 111 (wC5 0 0 0 0 0)))) rfl ⟨by rw [HO.out]; rfl, by go_grown⟩
    ·by_cases h48 : b < 48
     ·clear hn
      go_enter Try.func92, Try.ntmps92
      go_wp2
      exact bodyPost_ret (results_cell_one Try.results92 _ (ad := ⟨w.heap.size + 1, 0, none⟩) rfl rfl (wst_load (row_new2 w _ 111 (wC5 0 0 0 0 0)))) rfl ⟨by rw [HO.out]; rfl, by go_grown⟩
     ·have h57 : 57 < b := by omega
      clear hn
      go_enter Try.func92, Try.ntmps92
      go_wp2
      exact bodyPost_ret (results_cell_one Try.results92 _ (ad := ⟨w.heap.size + 1, 0, none⟩) rfl rfl (wst_load (row_new2 w _ 111 (wC5 0 0 0 0 0)))) rfl ⟨by rw [HO.out]; rfl, by go_grown⟩
  ·have h8 : p ≠ 8 := by intro e; have := lp (by omega); omega
   obtain ⟨L, rfl⟩ : ∃ L : Nat, l = (L : Int) + 1 := ⟨(l - 1).toNat, by omega⟩
   have hL3 : L ≤ 3 := by omega
   have b0 : 48 ≤ b := by omega
   have b9 : b ≤ 57 := by omega
   have hlp := lp (by omega)
   have hb8 : (p == 8) = false := by simpa using h8
   have HC := Lib.hid (canBe_any p L (v * 10 + (b - 48)) y m ⟨p0, p1⟩ hL3 (by omega) (by omega))
   have HO : Hid (wPush ⟨p, (L : Int) + 1, v, y, m⟩ b = if wCan p L (v * 10 + (b - 48)) y m = true then (if (L : Int) = 0 then wNext p (v * 10 + (b - 48)) y m else ⟨p, L, v * 10 + (b - 48), y, m⟩, true) else (WS.no, false)) := Lib.hid (by
    have e : (L : Int) + 1 - 1 = L := by omega
    unfold wPush
    rw [if_neg hz, if_neg hn, e])
   have HBe := Lib.hid (behind_any p (v * 10 + (b - 48)) y m hlp (by omega))
   have HX : Hid (0 ≤ v * 10 + (b - 48) ∧ v * 10 + (b - 48) ≤ 9999) := Lib.hid (by omega)
   generalize wPush ⟨p, (L : Int) + 1, v, y, m⟩ b = R at *
   generalize wCan p L (v * 10 + (b - 48)) y m = c at *
   generalize wNext p (v * 10 + (b - 48)) y m = S at *
   clear hz hn h8 lp
   go_enter Try.func92, Try.ntmps92
   go_wp2_with fail
   refine (HC.out _).mono ?_
   rintro e w1 ⟨rfl, hb1⟩
   have HR1 := Lib.hid (((Row.new w 111 (wC5 p (L : Int) (v * 10 + (b - 48)) y m)).alloc (.cells #[.int .u8 0, .int .i64 0, .int .i64 0, .int .i64 0, .int .i64 0] 111)).below hb1 (by simp; omega))
   have HV1 := Lib.hid ((row_new2 w (.cells #[.int .u8 p, .int .i64 (L : Int), .int .i64 (v * 10 + (b - 48)), .int .i64 y, .int .i64 m] 111) 111 (wC5 0 0 0 0 0)).below hb1 (by simp))
   have HB1 := Lib.hid ((((Below.refl w.heap.size w).alloc (Nat.le_refl _) (.cells #[.int .u8 p, .int .i64 (L : Int), .int .i64 (v * 10 + (b - 48)), .int .i64 y, .int .i64 m] 111)).alloc (by simp) (.cells #[.int .u8 0, .int .i64 0, .int .i64 0, .int .i64 0, .int .i64 0] 111)).trans (hb1.mono (by simp; omega)))
   have hls := HV1.out.lt
   clear hb1
   obtain ⟨X, hXe⟩ : ∃ X, v * 10 + (b - 48) = X := ⟨_, rfl⟩
   rw [hXe] at HR1 HBe HO
   have c1 : w1.cell? ⟨w.heap.size, 1, none⟩ = some (.int .i64 (L : Int)) := HR1.out.cell 1
   have HT4 := Lib.hid (HV1.out.there (o := 0) (n := 5) (by decide))
   clear HC HX hXe
   cases c
   ·rw [if_neg (by decide)] at HO
    clear HBe
    go_wp2_with (refine wpList_store_mid rfl 111 (.tmp 4) (.tmp 43) rfl (w.heap.size + 1) 0 (wC5 0 0 0 0 0).toArray rfl rfl HT4.out infoWst (all_oneCell_toArray (wC5_one 0 0 0 0 0)) ?_)
    exact bodyPost_ret (results_cell_one Try.results92 _ (ad := ⟨w.heap.size + 1, 0, none⟩) rfl rfl (wst_load (HV1.out.setAll rfl))) rfl ⟨by rw [HO.out]; rfl, below_setCells _ _ HB1.out (by omega)⟩
   ·rw [if_pos rfl] at HO
    by_cases hL0 : L = 0
    ·subst hL0
     rw [if_pos (by rfl)] at HO
     go_wp2_with (refine wpList_load_mid rfl 111 (.tmp 2) rfl w.heap.size 0 rfl (wC5 p 0 X y m) _ HR1.out.whole Try.underlying111 rfl infoWst ?_)
     refine (HBe.out _).mono ?_
     rintro e w2 ⟨rfl, hb2⟩
     have HR2 := Lib.hid (HR1.out.below hb2 HR1.out.lt)
     have HV2 := Lib.hid (HV1.out.below hb2 HV1.out.lt)
     have HB2 := Lib.hid (HB1.out.trans (hb2.mono (by omega)))
     have hls2 := HV2.out.lt
     clear hb2 c1 HT4 HBe HR1 HV1 HB1 hls hZ l0 l1 hL3
     have c0 : w2.cell? ⟨w.heap.size, 0, none⟩ = some (.int .u8 p) := HR2.out.cell 0
     have c1 : w2.cell? ⟨w.heap.size, 1, none⟩ = some (.int .i64 0) := HR2.out.cell 1
     have c2 : w2.cell? ⟨w.heap.size, 2, none⟩ = some (.int .i64 X) := HR2.out.cell 2
     have c3 : w2.cell? ⟨w.heap.size, 3, none⟩ = some (.int .i64 y) := HR2.out.cell 3
     have c4 : w2.cell? ⟨w.heap.size, 4, none⟩ = some (.int .i64 m) := HR2.out.cell 4
     have f0 := HR2.out.frozen 0
     have f1 := HR2.out.frozen 1
     have f2 := HR2.out.frozen 2
     have f3 := HR2.out.frozen 3
     have f4 := HR2.out.frozen 4
     have d0 : w2.cell? ⟨w.heap.size + 1, 0, none⟩ = some (.int .u8 0) := HV2.out.cell 0
     have d1 : w2.cell? ⟨w.heap.size + 1, 1, none⟩ = some (.int .i64 0) := HV2.out.cell 1
     have d2 : w2.cell? ⟨w.heap.size + 1, 2, none⟩ = some (.int .i64 0) := HV2.out.cell 2
     have d3 : w2.cell? ⟨w.heap.size + 1, 3, none⟩ = some (.int .i64 0) := HV2.out.cell 3
     have d4 : w2.cell? ⟨w.heap.size + 1, 4, none⟩ = some (.int .i64 0) := HV2.out.cell 4
     have e0 := HV2.out.frozen 0
     have e1 := HV2.out.frozen 1
     have e2 := HV2.out.frozen 2
     have e3 := HV2.out.frozen 3
     have e4 := HV2.out.frozen 4
     go_wp2
     exact bodyPost_ret (results_cell_one Try.results92 _ (ad := ⟨w.heap.size + 1, 0, none⟩) rfl rfl (wst_load (row5 (row5_far HV2.out (by omega) (.int .u8 S.p) (.int .i64 S.l) (.int .i64 S.v) (.int .i64 S.y) (.int .i64 S.m)) (.int .u8 S.p) (.int .i64 S.l) (.int .i64 S.v) (.int .i64 S.y) (.int .i64 S.m)))) rfl ⟨by rw [HO.out]; rfl, below5 (below5 HB2.out (Nat.le_refl _) _ _ _ _ _) (by omega) _ _ _ _ _⟩
    ·have hLb : ((L : Int) == 0) = false := by simpa using hL0
     rw [if_neg (by omega)] at HO
     clear HBe hL0
     go_wp2_with (first | refine wpList_load_mid rfl 111 (.tmp 2) rfl w.heap.size 0 rfl (wC5 p (L : Int) X y m) _ HR1.out.whole Try.underlying111 rfl infoWst ?_ | refine wpList_store_mid rfl 111 (.tmp 4) (.tmp 49) rfl (w.heap.size + 1) 0 (wC5 p (L : Int) X y m).toArray rfl rfl HT4.out infoWst (all_oneCell_toArray (wC5_one p (L : Int) X y m)) ?_)
     exact bodyPost_ret (results_cell_one Try.results92 _ (ad := ⟨w.heap.size + 1, 0, none⟩) rfl rfl (wst_load (HV1.out.setAll (vs := wC5 p (L : Int) X y m) rfl))) rfl ⟨by rw [HO.out]; rfl, below_setCells _ _ HB1.out (by omega)⟩
end Go.Proofs.Ytiiimhamfibdbaa
