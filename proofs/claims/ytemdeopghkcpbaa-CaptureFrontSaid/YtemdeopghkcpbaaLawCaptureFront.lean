/- Of every two numbers and bytes (of more than 300 the law asks only for the fixed answers): what is kept is the front of what is kept with more room; with room enough it is all. No condition but the form of the row. -/
import Derived.Test.YtemdeopghkcpbaaCapPair
import Derived.Test.YtemdeopghkcpbaaCameTwo
import Derived.Test.YtemdeopghkcpbaaRows
import Derived.WalkKit
import Derived.ProofKit
import Derived.OpenShut
import Derived.ShutString
import Derived.ChangeOld
import Derived.Below
import Derived.Carry
namespace Go.Proofs.Ytemdeopghkcpbaa
open Go.ChangeShapes Go.WideShapes Go.ChangeAt Go.RowKit
open Go.ChangeMaps (open_string shut_string)
set_option linter.unusedVariables false
open Go.PlainAid in
set_option maxRecDepth 100000 in
set_option maxHeartbeats 8000000 in
theorem walkCaptureFront (a0 e0 : Int) (a1 : ByteArray) (ra0 : InI a0) (re0 : InI e0) (b1 : a1.size ≤ maxLen) (w : World) :
    Calls Try.prog 6 #[.agg #[.int .i64 a0, .int .i64 e0], .string a1] w fun e w' => e = .returned (.bool true) ∧ Below w.heap.size w w' := by
  have hb9 : (a1.size : Int) ≤ 9223372036854775807 := by unfold maxLen at b1; omega
  have hl1 := bl_length a1
  by_cases hl : (300 : Int) < (a1.size : Int)
  · go_enter Try.func6, Try.ntmps6
    go_wp2_with fail
    have hX : w.alloc (.cells #[.int .i64 a0, .int .i64 e0] 42) = w.alloc (.cells [Value.int .i64 a0, .int .i64 e0].toArray 42) := rfl
    have HXW : Hid (Row (w.alloc (.cells [Value.int .i64 a0, .int .i64 e0].toArray 42)) w.heap.size 42 [.int .i64 a0, .int .i64 e0]) := Lib.hid (Row.new w _ [.int .i64 a0, .int .i64 e0])
    have HW0 : Hid (Below w.heap.size w (w.alloc (.cells [Value.int .i64 a0, .int .i64 e0].toArray 42))) := Lib.hid ((Below.refl _ _).alloc (Nat.le_refl _) _)
    have hWw : w.heap.size < (w.alloc (.cells [Value.int .i64 a0, .int .i64 e0].toArray 42)).heap.size := by simp
    rw [hX]
    clear hX
    generalize w.alloc (.cells [Value.int .i64 a0, .int .i64 e0].toArray 42) = W0 at *
    refine (awake17_any _).mono ?_
    rintro e w1 ⟨rfl, hb1⟩
    have HB1 := Lib.hid hb1
    have HX1 := Lib.hid (HXW.out.below hb1 hWw)
    clear hb1
    go_wp2_with fail
    refine (awake17_any _).mono ?_
    rintro e w4 ⟨rfl, hb⟩
    have hB4 := HW0.out.trans ((HB1.out.trans (hb.mono HB1.out.size)).mono HW0.out.size)
    clear hb HB1 HX1
    go_wp2
    go_returns
    exact ⟨rfl, hB4⟩
  · have h300 : a1.size ≤ 300 := by omega
    by_cases hc1 : a0 < e0
    · go_enter Try.func6, Try.ntmps6
      go_wp2_with fail
      have hX : w.alloc (.cells #[.int .i64 a0, .int .i64 e0] 42) = w.alloc (.cells [Value.int .i64 a0, .int .i64 e0].toArray 42) := rfl
      have HXW : Hid (Row (w.alloc (.cells [Value.int .i64 a0, .int .i64 e0].toArray 42)) w.heap.size 42 [.int .i64 a0, .int .i64 e0]) := Lib.hid (Row.new w _ [.int .i64 a0, .int .i64 e0])
      have HW0 : Hid (Below w.heap.size w (w.alloc (.cells [Value.int .i64 a0, .int .i64 e0].toArray 42))) := Lib.hid ((Below.refl _ _).alloc (Nat.le_refl _) _)
      have hWw : w.heap.size < (w.alloc (.cells [Value.int .i64 a0, .int .i64 e0].toArray 42)).heap.size := by simp
      rw [hX]
      clear hX
      generalize w.alloc (.cells [Value.int .i64 a0, .int .i64 e0].toArray 42) = W0 at *
      refine (awake17_any _).mono ?_
      rintro e w1 ⟨rfl, hb1⟩
      have HB1 := Lib.hid hb1
      have HX1 := Lib.hid (HXW.out.below hb1 hWw)
      clear hb1
      have HD9 : Hid (Below w.heap.size w W0) := HW0
      have q7 : min a0 e0 = a0 := by omega
      have q8 : min e0 a0 = a0 := by omega
      have q9 : max a0 e0 = e0 := by omega
      have q10 : max e0 a0 = e0 := by omega
      have q1 : (if a0 < e0 then a0 else e0) = a0 := by split <;> omega
      have q2 : (if e0 < a0 then e0 else a0) = a0 := by split <;> omega
      have q3 : (if a0 < e0 then e0 else a0) = e0 := by split <;> omega
      have q4 : (if e0 < a0 then a0 else e0) = e0 := by split <;> omega
      have q5 : (if a0 ≤ e0 then a0 else e0) = a0 := by split <;> omega
      have q6 : (if a0 ≤ e0 then e0 else a0) = e0 := by split <;> omega
      have hlohi : a0 ≤ e0 := by omega
      clear hc1
      go_wp2_with fail
      have x0 : w1.cell? ⟨w.heap.size, 0, none⟩ = some (.int .i64 a0) := HX1.out.cell 0
      have x1 : w1.cell? ⟨w.heap.size, 1, none⟩ = some (.int .i64 e0) := HX1.out.cell 1
      have HB1d := Lib.hid (HB1.out.drew)
      have HN1 := Lib.hid (capSpec.new_on a0 (a := W0) (w := w1.drew) ra0 HB1d.out)
      have HX1d : Hid (Row w1.drew w.heap.size 42 [.int .i64 a0, .int .i64 e0]) := Lib.hid HX1.out
      clear HX1 HB1 HB1d
      go_region_held3 (fun w' => w'.cell? ⟨w.heap.size, 0, none⟩ = some (.int .i64 a0) ∧ w'.cell? ⟨w.heap.size, 1, none⟩ = some (.int .i64 e0)) (first | exact ⟨y0, y1⟩ | exact ⟨x0, x1⟩) (first
        | (go_at_call 8; with_reducible refine (HN1.out).mono ?_; rintro e w5 ⟨k, F, rfl, h5, hb5, _⟩
           have HX8 := Lib.hid (HX1d.out.below hb5 HX1d.out.lt)
           have x0 : w5.cell? ⟨w.heap.size, 0, none⟩ = some (.int .i64 a0) := HX8.out.cell 0
           have x1 : w5.cell? ⟨w.heap.size, 1, none⟩ = some (.int .i64 e0) := HX8.out.cell 1
           have HN2 := Lib.hid (capSpec.new_on e0 (a := W0) (w := w5) re0 h5.bel)
           have H5 := Lib.hid h5
           clear hb5 h5 HN1)
        | (go_at_call 8; with_reducible refine (HN2.out).mono ?_; rintro e w6 ⟨g, G, rfl, h6, hb6, hG6⟩
           have HX9 := Lib.hid (HX8.out.below hb6 HX8.out.lt)
           have y0 : w6.cell? ⟨w.heap.size, 0, none⟩ = some (.int .i64 a0) := HX9.out.cell 0
           have y1 : w6.cell? ⟨w.heap.size, 1, none⟩ = some (.int .i64 e0) := HX9.out.cell 1
           have HP6 := Lib.hid (KPair.new H5.out h6 hb6 hG6)
           clear hb6 h6 hG6 HN2 H5))
      all_goals
        clear x0 x1 y0 y1 HX8 HX9 HX1d
        have HbX : Hid ((KM.new a0).beginE (bl ⟨#[]⟩) = 0 ∧ (KM.new e0).beginE (bl ⟨#[]⟩) = 0) := Lib.hid ⟨by unfold KM.beginE; rw [if_neg (by show ¬ (KM.new a0).most < 0; omega)], by unfold KM.beginE; rw [if_neg (by show ¬ (KM.new e0).most < 0; omega)]⟩
        go_wp2_with fail
        refine (HP6.out.beginX ⟨#[]⟩ (by decide +kernel) rfl HbX.out.1).mono ?_
        rintro e w7 ⟨F7, rfl, h7⟩
        have H7 := Lib.hid h7
        clear h7 HP6
        go_wp2_with fail
        refine (H7.out.beginY ⟨#[]⟩ (by decide +kernel) rfl HbX.out.2).mono ?_
        rintro e w8 ⟨G8, rfl, h8⟩
        have H8 := Lib.hid h8
        clear h8 H7 HbX
        go_wp2_with fail
        go_loopg [42] a1.size (fun gk jv wr => ∃ (j : Nat) (F G : Nat → Prop), jv = .int .i64 (j : Int) ∧ j ≤ a1.size ∧ a1.size - j ≤ gk ∧ Hid (KPair W0 wr k F ((KM.new a0).begin ((bl a1).take j)) g G ((KM.new e0).begin ((bl a1).take j))))
        case atStart => exact ⟨0, F7, G8, rfl, by omega, by omega, Lib.hid (by have := H8.out; rw [List.take_zero]; exact this)⟩
        case round =>
          clear H8
          obtain ⟨j, F, G, rfl, hj, hgk, HO⟩ := hrel
          by_cases hlt : j < a1.size
          · have hlt2 : (j : Int) < (a1.size : Int) := by omega
            have gj := get_bt a1 j hlt
            have q0 := bt_nonneg a1 j
            have q1 := bt_le a1 j
            have HT1 : Hid ((bl a1).take j ++ [bt a1 j] = (bl a1).take (j + 1)) := Lib.hid (by rw [List.take_add_one, bl_at a1 j hlt]; rfl)
            have HPx : Hid (((KM.new a0).begin ((bl a1).take j)).push (bt a1 j) = (KM.new a0).begin ((bl a1).take (j + 1))) := Lib.hid (by rw [KM.begin_push, HT1.out])
            have HPy : Hid (((KM.new e0).begin ((bl a1).take j)).push (bt a1 j) = (KM.new e0).begin ((bl a1).take (j + 1))) := Lib.hid (by rw [KM.begin_push, HT1.out])
            clear HT1
            generalize bt a1 j = b at *
            go_wp2_with fail
            refine (HO.out.pushX b ⟨q0, q1⟩ HPx.out rfl).mono ?_
            rintro e w9 ⟨F9, rfl, h9⟩
            have H9 := Lib.hid h9
            clear h9 HO HPx
            go_wp2_with fail
            refine (H9.out.pushY b ⟨q0, q1⟩ HPy.out rfl).mono ?_
            rintro e w10 ⟨G10, rfl, h10⟩
            have H10 := Lib.hid h10
            clear h10 H9 HPy
            go_wp2_with fail
            go_roundg (a1.size - (j + 1))
            case measure => omega
            case rel => exact ⟨j + 1, F9, G10, by simp, by omega, by omega, H10⟩
          · have hlt2 : ¬ (j : Int) < (a1.size : Int) := by omega
            obtain rfl : j = a1.size := by omega
            have HO2 : Hid (KPair W0 wr k F ((KM.new a0).begin (bl a1)) g G ((KM.new e0).begin (bl a1))) := Lib.hid (by have := HO.out; rw [List.take_of_length_le (by rw [hl1]; exact Nat.le_refl _)] at this; exact this)
            clear HO
            obtain ⟨nx, hnx⟩ : ∃ nx, min (KM.new a0).most a1.size = nx := ⟨_, rfl⟩
            obtain ⟨ny, hny⟩ : ∃ ny, min (KM.new e0).most a1.size = ny := ⟨_, rfl⟩
            have TX : Hid (strOfNums ((KM.new a0).begin (bl a1)).kept = a1.extract 0 nx) := Lib.hid (kept_text a0 a1 hnx)
            have TY : Hid (strOfNums ((KM.new e0).begin (bl a1)).kept = a1.extract 0 ny) := Lib.hid (kept_text e0 a1 hny)
            have hm1 := kmost_if a0
            have hm2 := kmost_if e0
            have hord : (KM.new a0).most ≤ (KM.new e0).most := kmost_mono (by omega)
            have hxy : nx ≤ ny := by omega
            have hya : ny ≤ a1.size := by omega
            have hfull : (a1.size : Int) ≤ e0 → ny = a1.size := fun h => by have := kmost_ge e0 a1.size (by omega) h; omega
            have HXs : (a1.extract 0 nx).size = nx := by rw [ByteArray.size_extract]; omega
            have HYs : (a1.extract 0 ny).size = ny := by rw [ByteArray.size_extract]; omega
            have hsub : (a1.extract 0 ny).extract 0 nx = a1.extract 0 nx := by
              apply bl_inj
              rw [bl_extract _ 0 nx (by omega), bl_extract a1 0 ny hya, bl_extract a1 0 nx (by omega)]
              simp [List.take_take, Nat.min_eq_left hxy]
            have HEx : Hid (a1.size ≤ ny → a1.extract 0 ny = a1) := Lib.hid (fun h => by
              apply bl_inj
              rw [bl_extract a1 0 ny hya, List.drop_zero, Nat.sub_zero, List.take_of_length_le (by rw [bl_length]; exact h)])
            clear hnx hny hm1 hm2 hord
            go_wp2_with fail
            refine (capSpec.text_on HO2.out.x TX.out).mono ?_
            rintro e w11 ⟨rfl, n11, rfl⟩
            go_wp2_with fail
            refine (capSpec.text_on (HO2.out.drewN n11).y TY.out).mono ?_
            rintro e w12 ⟨rfl, n12, hw12⟩
            have HB12 : Hid (Below W0.heap.size W0 w12) := Lib.hid (by rw [hw12]; exact ((HO2.out.drewN n11).drewN n12).x.bel)
            clear hw12 HO2 TX TY
            have z0 : w12.cell? ⟨w.heap.size, 0, none⟩ = some (.int .i64 a0) := by rw [HB12.out.cell (by exact hWw)]; exact HXW.out.cell 0
            have z1 : w12.cell? ⟨w.heap.size, 1, none⟩ = some (.int .i64 e0) := by rw [HB12.out.cell (by exact hWw)]; exact HXW.out.cell 1
            have hs1 : ((a1.extract 0 ny).extract 0 nx).toList == (a1.extract 0 nx).toList := by rw [hsub]; simp
            have hs2 : ((a1.extract 0 ny).toList == (a1.extract 0 ny).toList) = true := by simp
            have hxyi : (nx : Int) ≤ (ny : Int) := by omega
            have hyai : (ny : Int) ≤ (a1.size : Int) := by omega
            clear hs1 hs2
            have hX1 : ((a1.extract 0 nx).toList == (a1.extract 0 nx).toList) = true := by simp
            have hY1 : ((a1.extract 0 ny).toList == (a1.extract 0 ny).toList) = true := by simp
            have hA1 : (a1.toList == a1.toList) = true := by simp
            have HFu := Lib.hid hfull
            clear hfull
            by_cases hf : (a1.size : Int) ≤ e0
            · have hYe : a1.extract 0 ny = a1 := HEx.out (by have := HFu.out hf; omega)
              have hfi : ¬ e0 < (a1.size : Int) := by omega
              have hBB := HD9.out.trans (HB12.out.mono (HD9.out.size))
              rw [hYe] at hsub HYs hY1
              generalize hXX : a1.extract 0 nx = X at *
              clear HB12 HXW HEx HFu hY1
              go_wp2_with fail
              go_returns
              exact ⟨rfl, hBB⟩
            · have hfi : e0 < (a1.size : Int) := by omega
              have hBB := HD9.out.trans (HB12.out.mono (HD9.out.size))
              generalize a1.extract 0 nx = X at *
              generalize hYY : a1.extract 0 ny = Y at *
              clear HB12 HXW HEx HFu hA1
              go_wp2_with fail
              go_returns
              exact ⟨rfl, hBB⟩
    · by_cases hc2 : e0 < a0
      · go_enter Try.func6, Try.ntmps6
        go_wp2_with fail
        have hX : w.alloc (.cells #[.int .i64 a0, .int .i64 e0] 42) = w.alloc (.cells [Value.int .i64 a0, .int .i64 e0].toArray 42) := rfl
        have HXW : Hid (Row (w.alloc (.cells [Value.int .i64 a0, .int .i64 e0].toArray 42)) w.heap.size 42 [.int .i64 a0, .int .i64 e0]) := Lib.hid (Row.new w _ [.int .i64 a0, .int .i64 e0])
        have HW0 : Hid (Below w.heap.size w (w.alloc (.cells [Value.int .i64 a0, .int .i64 e0].toArray 42))) := Lib.hid ((Below.refl _ _).alloc (Nat.le_refl _) _)
        have hWw : w.heap.size < (w.alloc (.cells [Value.int .i64 a0, .int .i64 e0].toArray 42)).heap.size := by simp
        rw [hX]
        clear hX
        generalize w.alloc (.cells [Value.int .i64 a0, .int .i64 e0].toArray 42) = W0 at *
        refine (awake17_any _).mono ?_
        rintro e w1 ⟨rfl, hb1⟩
        have HB1 := Lib.hid hb1
        have HX1 := Lib.hid (HXW.out.below hb1 hWw)
        clear hb1
        have HD9 : Hid (Below w.heap.size w W0) := HW0
        have q7 : min a0 e0 = e0 := by omega
        have q8 : min e0 a0 = e0 := by omega
        have q9 : max a0 e0 = a0 := by omega
        have q10 : max e0 a0 = a0 := by omega
        have q1 : (if a0 < e0 then a0 else e0) = e0 := by split <;> omega
        have q2 : (if e0 < a0 then e0 else a0) = e0 := by split <;> omega
        have q3 : (if a0 < e0 then e0 else a0) = a0 := by split <;> omega
        have q4 : (if e0 < a0 then a0 else e0) = a0 := by split <;> omega
        have q5 : (if a0 ≤ e0 then a0 else e0) = e0 := by split <;> omega
        have q6 : (if a0 ≤ e0 then e0 else a0) = a0 := by split <;> omega
        have hlohi : e0 ≤ a0 := by omega
        clear hc1 hc2
        go_wp2_with fail
        have x0 : w1.cell? ⟨w.heap.size, 0, none⟩ = some (.int .i64 a0) := HX1.out.cell 0
        have x1 : w1.cell? ⟨w.heap.size, 1, none⟩ = some (.int .i64 e0) := HX1.out.cell 1
        have HB1d := Lib.hid (HB1.out.drew)
        have HN1 := Lib.hid (capSpec.new_on e0 (a := W0) (w := w1.drew) re0 HB1d.out)
        have HX1d : Hid (Row w1.drew w.heap.size 42 [.int .i64 a0, .int .i64 e0]) := Lib.hid HX1.out
        clear HX1 HB1 HB1d
        go_region_held3 (fun w' => w'.cell? ⟨w.heap.size, 0, none⟩ = some (.int .i64 a0) ∧ w'.cell? ⟨w.heap.size, 1, none⟩ = some (.int .i64 e0)) (first | exact ⟨y0, y1⟩ | exact ⟨x0, x1⟩) (first
          | (go_at_call 8; with_reducible refine (HN1.out).mono ?_; rintro e w5 ⟨k, F, rfl, h5, hb5, _⟩
             have HX8 := Lib.hid (HX1d.out.below hb5 HX1d.out.lt)
             have x0 : w5.cell? ⟨w.heap.size, 0, none⟩ = some (.int .i64 a0) := HX8.out.cell 0
             have x1 : w5.cell? ⟨w.heap.size, 1, none⟩ = some (.int .i64 e0) := HX8.out.cell 1
             have HN2 := Lib.hid (capSpec.new_on a0 (a := W0) (w := w5) ra0 h5.bel)
             have H5 := Lib.hid h5
             clear hb5 h5 HN1)
          | (go_at_call 8; with_reducible refine (HN2.out).mono ?_; rintro e w6 ⟨g, G, rfl, h6, hb6, hG6⟩
             have HX9 := Lib.hid (HX8.out.below hb6 HX8.out.lt)
             have y0 : w6.cell? ⟨w.heap.size, 0, none⟩ = some (.int .i64 a0) := HX9.out.cell 0
             have y1 : w6.cell? ⟨w.heap.size, 1, none⟩ = some (.int .i64 e0) := HX9.out.cell 1
             have HP6 := Lib.hid (KPair.new H5.out h6 hb6 hG6)
             clear hb6 h6 hG6 HN2 H5))
        all_goals
          clear x0 x1 y0 y1 HX8 HX9 HX1d
          have HbX : Hid ((KM.new e0).beginE (bl ⟨#[]⟩) = 0 ∧ (KM.new a0).beginE (bl ⟨#[]⟩) = 0) := Lib.hid ⟨by unfold KM.beginE; rw [if_neg (by show ¬ (KM.new e0).most < 0; omega)], by unfold KM.beginE; rw [if_neg (by show ¬ (KM.new a0).most < 0; omega)]⟩
          go_wp2_with fail
          refine (HP6.out.beginX ⟨#[]⟩ (by decide +kernel) rfl HbX.out.1).mono ?_
          rintro e w7 ⟨F7, rfl, h7⟩
          have H7 := Lib.hid h7
          clear h7 HP6
          go_wp2_with fail
          refine (H7.out.beginY ⟨#[]⟩ (by decide +kernel) rfl HbX.out.2).mono ?_
          rintro e w8 ⟨G8, rfl, h8⟩
          have H8 := Lib.hid h8
          clear h8 H7 HbX
          go_wp2_with fail
          go_loopg [42] a1.size (fun gk jv wr => ∃ (j : Nat) (F G : Nat → Prop), jv = .int .i64 (j : Int) ∧ j ≤ a1.size ∧ a1.size - j ≤ gk ∧ Hid (KPair W0 wr k F ((KM.new e0).begin ((bl a1).take j)) g G ((KM.new a0).begin ((bl a1).take j))))
          case atStart => exact ⟨0, F7, G8, rfl, by omega, by omega, Lib.hid (by have := H8.out; rw [List.take_zero]; exact this)⟩
          case round =>
            clear H8
            obtain ⟨j, F, G, rfl, hj, hgk, HO⟩ := hrel
            by_cases hlt : j < a1.size
            · have hlt2 : (j : Int) < (a1.size : Int) := by omega
              have gj := get_bt a1 j hlt
              have q0 := bt_nonneg a1 j
              have q1 := bt_le a1 j
              have HT1 : Hid ((bl a1).take j ++ [bt a1 j] = (bl a1).take (j + 1)) := Lib.hid (by rw [List.take_add_one, bl_at a1 j hlt]; rfl)
              have HPx : Hid (((KM.new e0).begin ((bl a1).take j)).push (bt a1 j) = (KM.new e0).begin ((bl a1).take (j + 1))) := Lib.hid (by rw [KM.begin_push, HT1.out])
              have HPy : Hid (((KM.new a0).begin ((bl a1).take j)).push (bt a1 j) = (KM.new a0).begin ((bl a1).take (j + 1))) := Lib.hid (by rw [KM.begin_push, HT1.out])
              clear HT1
              generalize bt a1 j = b at *
              go_wp2_with fail
              refine (HO.out.pushX b ⟨q0, q1⟩ HPx.out rfl).mono ?_
              rintro e w9 ⟨F9, rfl, h9⟩
              have H9 := Lib.hid h9
              clear h9 HO HPx
              go_wp2_with fail
              refine (H9.out.pushY b ⟨q0, q1⟩ HPy.out rfl).mono ?_
              rintro e w10 ⟨G10, rfl, h10⟩
              have H10 := Lib.hid h10
              clear h10 H9 HPy
              go_wp2_with fail
              go_roundg (a1.size - (j + 1))
              case measure => omega
              case rel => exact ⟨j + 1, F9, G10, by simp, by omega, by omega, H10⟩
            · have hlt2 : ¬ (j : Int) < (a1.size : Int) := by omega
              obtain rfl : j = a1.size := by omega
              have HO2 : Hid (KPair W0 wr k F ((KM.new e0).begin (bl a1)) g G ((KM.new a0).begin (bl a1))) := Lib.hid (by have := HO.out; rw [List.take_of_length_le (by rw [hl1]; exact Nat.le_refl _)] at this; exact this)
              clear HO
              obtain ⟨nx, hnx⟩ : ∃ nx, min (KM.new e0).most a1.size = nx := ⟨_, rfl⟩
              obtain ⟨ny, hny⟩ : ∃ ny, min (KM.new a0).most a1.size = ny := ⟨_, rfl⟩
              have TX : Hid (strOfNums ((KM.new e0).begin (bl a1)).kept = a1.extract 0 nx) := Lib.hid (kept_text e0 a1 hnx)
              have TY : Hid (strOfNums ((KM.new a0).begin (bl a1)).kept = a1.extract 0 ny) := Lib.hid (kept_text a0 a1 hny)
              have hm1 := kmost_if e0
              have hm2 := kmost_if a0
              have hord : (KM.new e0).most ≤ (KM.new a0).most := kmost_mono (by omega)
              have hxy : nx ≤ ny := by omega
              have hya : ny ≤ a1.size := by omega
              have hfull : (a1.size : Int) ≤ a0 → ny = a1.size := fun h => by have := kmost_ge a0 a1.size (by omega) h; omega
              have HXs : (a1.extract 0 nx).size = nx := by rw [ByteArray.size_extract]; omega
              have HYs : (a1.extract 0 ny).size = ny := by rw [ByteArray.size_extract]; omega
              have hsub : (a1.extract 0 ny).extract 0 nx = a1.extract 0 nx := by
                apply bl_inj
                rw [bl_extract _ 0 nx (by omega), bl_extract a1 0 ny hya, bl_extract a1 0 nx (by omega)]
                simp [List.take_take, Nat.min_eq_left hxy]
              have HEx : Hid (a1.size ≤ ny → a1.extract 0 ny = a1) := Lib.hid (fun h => by
                apply bl_inj
                rw [bl_extract a1 0 ny hya, List.drop_zero, Nat.sub_zero, List.take_of_length_le (by rw [bl_length]; exact h)])
              clear hnx hny hm1 hm2 hord
              go_wp2_with fail
              refine (capSpec.text_on HO2.out.x TX.out).mono ?_
              rintro e w11 ⟨rfl, n11, rfl⟩
              go_wp2_with fail
              refine (capSpec.text_on (HO2.out.drewN n11).y TY.out).mono ?_
              rintro e w12 ⟨rfl, n12, hw12⟩
              have HB12 : Hid (Below W0.heap.size W0 w12) := Lib.hid (by rw [hw12]; exact ((HO2.out.drewN n11).drewN n12).x.bel)
              clear hw12 HO2 TX TY
              have z0 : w12.cell? ⟨w.heap.size, 0, none⟩ = some (.int .i64 a0) := by rw [HB12.out.cell (by exact hWw)]; exact HXW.out.cell 0
              have z1 : w12.cell? ⟨w.heap.size, 1, none⟩ = some (.int .i64 e0) := by rw [HB12.out.cell (by exact hWw)]; exact HXW.out.cell 1
              have hs1 : ((a1.extract 0 ny).extract 0 nx).toList == (a1.extract 0 nx).toList := by rw [hsub]; simp
              have hs2 : ((a1.extract 0 ny).toList == (a1.extract 0 ny).toList) = true := by simp
              have hxyi : (nx : Int) ≤ (ny : Int) := by omega
              have hyai : (ny : Int) ≤ (a1.size : Int) := by omega
              clear hs1 hs2
              have hX1 : ((a1.extract 0 nx).toList == (a1.extract 0 nx).toList) = true := by simp
              have hY1 : ((a1.extract 0 ny).toList == (a1.extract 0 ny).toList) = true := by simp
              have hA1 : (a1.toList == a1.toList) = true := by simp
              have HFu := Lib.hid hfull
              clear hfull
              by_cases hf : (a1.size : Int) ≤ a0
              · have hYe : a1.extract 0 ny = a1 := HEx.out (by have := HFu.out hf; omega)
                have hfi : ¬ a0 < (a1.size : Int) := by omega
                have hBB := HD9.out.trans (HB12.out.mono (HD9.out.size))
                rw [hYe] at hsub HYs hY1
                generalize hXX : a1.extract 0 nx = X at *
                clear HB12 HXW HEx HFu hY1
                go_wp2_with fail
                go_returns
                exact ⟨rfl, hBB⟩
              · have hfi : a0 < (a1.size : Int) := by omega
                have hBB := HD9.out.trans (HB12.out.mono (HD9.out.size))
                generalize a1.extract 0 nx = X at *
                generalize hYY : a1.extract 0 ny = Y at *
                clear HB12 HXW HEx HFu hA1
                go_wp2_with fail
                go_returns
                exact ⟨rfl, hBB⟩
      · obtain rfl : a0 = e0 := by omega
        go_enter Try.func6, Try.ntmps6
        go_wp2_with fail
        have hX : w.alloc (.cells #[.int .i64 a0, .int .i64 a0] 42) = w.alloc (.cells [Value.int .i64 a0, .int .i64 a0].toArray 42) := rfl
        have HXW : Hid (Row (w.alloc (.cells [Value.int .i64 a0, .int .i64 a0].toArray 42)) w.heap.size 42 [.int .i64 a0, .int .i64 a0]) := Lib.hid (Row.new w _ [.int .i64 a0, .int .i64 a0])
        have HW0 : Hid (Below w.heap.size w (w.alloc (.cells [Value.int .i64 a0, .int .i64 a0].toArray 42))) := Lib.hid ((Below.refl _ _).alloc (Nat.le_refl _) _)
        have hWw : w.heap.size < (w.alloc (.cells [Value.int .i64 a0, .int .i64 a0].toArray 42)).heap.size := by simp
        rw [hX]
        clear hX
        generalize w.alloc (.cells [Value.int .i64 a0, .int .i64 a0].toArray 42) = W0 at *
        refine (awake17_any _).mono ?_
        rintro e w1 ⟨rfl, hb1⟩
        have HB1 := Lib.hid hb1
        have HX1 := Lib.hid (HXW.out.below hb1 hWw)
        clear hb1
        have HD9 : Hid (Below w.heap.size w W0) := HW0
        have q7 : min a0 a0 = a0 := by omega
        have q8 : min a0 a0 = a0 := by omega
        have q9 : max a0 a0 = a0 := by omega
        have q10 : max a0 a0 = a0 := by omega
        have q1 : (if a0 < a0 then a0 else a0) = a0 := by split <;> omega
        have q2 : (if a0 < a0 then a0 else a0) = a0 := by split <;> omega
        have q3 : (if a0 < a0 then a0 else a0) = a0 := by split <;> omega
        have q4 : (if a0 < a0 then a0 else a0) = a0 := by split <;> omega
        have q5 : (if a0 ≤ a0 then a0 else a0) = a0 := by split <;> omega
        have q6 : (if a0 ≤ a0 then a0 else a0) = a0 := by split <;> omega
        have hlohi : a0 ≤ a0 := by omega
        clear hc1 hc2
        go_wp2_with fail
        have x0 : w1.cell? ⟨w.heap.size, 0, none⟩ = some (.int .i64 a0) := HX1.out.cell 0
        have x1 : w1.cell? ⟨w.heap.size, 1, none⟩ = some (.int .i64 a0) := HX1.out.cell 1
        have HB1d := Lib.hid (HB1.out.drew)
        have HN1 := Lib.hid (capSpec.new_on a0 (a := W0) (w := w1.drew) ra0 HB1d.out)
        have HX1d : Hid (Row w1.drew w.heap.size 42 [.int .i64 a0, .int .i64 a0]) := Lib.hid HX1.out
        clear HX1 HB1 HB1d
        go_region_held3 (fun w' => w'.cell? ⟨w.heap.size, 0, none⟩ = some (.int .i64 a0) ∧ w'.cell? ⟨w.heap.size, 1, none⟩ = some (.int .i64 a0)) (first | exact ⟨y0, y1⟩ | exact ⟨x0, x1⟩) (first
          | (go_at_call 8; with_reducible refine (HN1.out).mono ?_; rintro e w5 ⟨k, F, rfl, h5, hb5, _⟩
             have HX8 := Lib.hid (HX1d.out.below hb5 HX1d.out.lt)
             have x0 : w5.cell? ⟨w.heap.size, 0, none⟩ = some (.int .i64 a0) := HX8.out.cell 0
             have x1 : w5.cell? ⟨w.heap.size, 1, none⟩ = some (.int .i64 a0) := HX8.out.cell 1
             have HN2 := Lib.hid (capSpec.new_on a0 (a := W0) (w := w5) ra0 h5.bel)
             have H5 := Lib.hid h5
             clear hb5 h5 HN1)
          | (go_at_call 8; with_reducible refine (HN2.out).mono ?_; rintro e w6 ⟨g, G, rfl, h6, hb6, hG6⟩
             have HX9 := Lib.hid (HX8.out.below hb6 HX8.out.lt)
             have y0 : w6.cell? ⟨w.heap.size, 0, none⟩ = some (.int .i64 a0) := HX9.out.cell 0
             have y1 : w6.cell? ⟨w.heap.size, 1, none⟩ = some (.int .i64 a0) := HX9.out.cell 1
             have HP6 := Lib.hid (KPair.new H5.out h6 hb6 hG6)
             clear hb6 h6 hG6 HN2 H5))
        all_goals
          clear x0 x1 y0 y1 HX8 HX9 HX1d
          have HbX : Hid ((KM.new a0).beginE (bl ⟨#[]⟩) = 0 ∧ (KM.new a0).beginE (bl ⟨#[]⟩) = 0) := Lib.hid ⟨by unfold KM.beginE; rw [if_neg (by show ¬ (KM.new a0).most < 0; omega)], by unfold KM.beginE; rw [if_neg (by show ¬ (KM.new a0).most < 0; omega)]⟩
          go_wp2_with fail
          refine (HP6.out.beginX ⟨#[]⟩ (by decide +kernel) rfl HbX.out.1).mono ?_
          rintro e w7 ⟨F7, rfl, h7⟩
          have H7 := Lib.hid h7
          clear h7 HP6
          go_wp2_with fail
          refine (H7.out.beginY ⟨#[]⟩ (by decide +kernel) rfl HbX.out.2).mono ?_
          rintro e w8 ⟨G8, rfl, h8⟩
          have H8 := Lib.hid h8
          clear h8 H7 HbX
          go_wp2_with fail
          go_loopg [42] a1.size (fun gk jv wr => ∃ (j : Nat) (F G : Nat → Prop), jv = .int .i64 (j : Int) ∧ j ≤ a1.size ∧ a1.size - j ≤ gk ∧ Hid (KPair W0 wr k F ((KM.new a0).begin ((bl a1).take j)) g G ((KM.new a0).begin ((bl a1).take j))))
          case atStart => exact ⟨0, F7, G8, rfl, by omega, by omega, Lib.hid (by have := H8.out; rw [List.take_zero]; exact this)⟩
          case round =>
            clear H8
            obtain ⟨j, F, G, rfl, hj, hgk, HO⟩ := hrel
            by_cases hlt : j < a1.size
            · have hlt2 : (j : Int) < (a1.size : Int) := by omega
              have gj := get_bt a1 j hlt
              have q0 := bt_nonneg a1 j
              have q1 := bt_le a1 j
              have HT1 : Hid ((bl a1).take j ++ [bt a1 j] = (bl a1).take (j + 1)) := Lib.hid (by rw [List.take_add_one, bl_at a1 j hlt]; rfl)
              have HPx : Hid (((KM.new a0).begin ((bl a1).take j)).push (bt a1 j) = (KM.new a0).begin ((bl a1).take (j + 1))) := Lib.hid (by rw [KM.begin_push, HT1.out])
              have HPy : Hid (((KM.new a0).begin ((bl a1).take j)).push (bt a1 j) = (KM.new a0).begin ((bl a1).take (j + 1))) := Lib.hid (by rw [KM.begin_push, HT1.out])
              clear HT1
              generalize bt a1 j = b at *
              go_wp2_with fail
              refine (HO.out.pushX b ⟨q0, q1⟩ HPx.out rfl).mono ?_
              rintro e w9 ⟨F9, rfl, h9⟩
              have H9 := Lib.hid h9
              clear h9 HO HPx
              go_wp2_with fail
              refine (H9.out.pushY b ⟨q0, q1⟩ HPy.out rfl).mono ?_
              rintro e w10 ⟨G10, rfl, h10⟩
              have H10 := Lib.hid h10
              clear h10 H9 HPy
              go_wp2_with fail
              go_roundg (a1.size - (j + 1))
              case measure => omega
              case rel => exact ⟨j + 1, F9, G10, by simp, by omega, by omega, H10⟩
            · have hlt2 : ¬ (j : Int) < (a1.size : Int) := by omega
              obtain rfl : j = a1.size := by omega
              have HO2 : Hid (KPair W0 wr k F ((KM.new a0).begin (bl a1)) g G ((KM.new a0).begin (bl a1))) := Lib.hid (by have := HO.out; rw [List.take_of_length_le (by rw [hl1]; exact Nat.le_refl _)] at this; exact this)
              clear HO
              obtain ⟨nx, hnx⟩ : ∃ nx, min (KM.new a0).most a1.size = nx := ⟨_, rfl⟩
              obtain ⟨ny, hny⟩ : ∃ ny, min (KM.new a0).most a1.size = ny := ⟨_, rfl⟩
              have TX : Hid (strOfNums ((KM.new a0).begin (bl a1)).kept = a1.extract 0 nx) := Lib.hid (kept_text a0 a1 hnx)
              have TY : Hid (strOfNums ((KM.new a0).begin (bl a1)).kept = a1.extract 0 ny) := Lib.hid (kept_text a0 a1 hny)
              have hm1 := kmost_if a0
              have hm2 := kmost_if a0
              have hord : (KM.new a0).most ≤ (KM.new a0).most := kmost_mono (by omega)
              have hxy : nx ≤ ny := by omega
              have hya : ny ≤ a1.size := by omega
              have hfull : (a1.size : Int) ≤ a0 → ny = a1.size := fun h => by have := kmost_ge a0 a1.size (by omega) h; omega
              have HXs : (a1.extract 0 nx).size = nx := by rw [ByteArray.size_extract]; omega
              have HYs : (a1.extract 0 ny).size = ny := by rw [ByteArray.size_extract]; omega
              have hsub : (a1.extract 0 ny).extract 0 nx = a1.extract 0 nx := by
                apply bl_inj
                rw [bl_extract _ 0 nx (by omega), bl_extract a1 0 ny hya, bl_extract a1 0 nx (by omega)]
                simp [List.take_take, Nat.min_eq_left hxy]
              have HEx : Hid (a1.size ≤ ny → a1.extract 0 ny = a1) := Lib.hid (fun h => by
                apply bl_inj
                rw [bl_extract a1 0 ny hya, List.drop_zero, Nat.sub_zero, List.take_of_length_le (by rw [bl_length]; exact h)])
              clear hnx hny hm1 hm2 hord
              go_wp2_with fail
              refine (capSpec.text_on HO2.out.x TX.out).mono ?_
              rintro e w11 ⟨rfl, n11, rfl⟩
              go_wp2_with fail
              refine (capSpec.text_on (HO2.out.drewN n11).y TY.out).mono ?_
              rintro e w12 ⟨rfl, n12, hw12⟩
              have HB12 : Hid (Below W0.heap.size W0 w12) := Lib.hid (by rw [hw12]; exact ((HO2.out.drewN n11).drewN n12).x.bel)
              clear hw12 HO2 TX TY
              have z0 : w12.cell? ⟨w.heap.size, 0, none⟩ = some (.int .i64 a0) := by rw [HB12.out.cell (by exact hWw)]; exact HXW.out.cell 0
              have z1 : w12.cell? ⟨w.heap.size, 1, none⟩ = some (.int .i64 a0) := by rw [HB12.out.cell (by exact hWw)]; exact HXW.out.cell 1
              have hs1 : ((a1.extract 0 ny).extract 0 nx).toList == (a1.extract 0 nx).toList := by rw [hsub]; simp
              have hs2 : ((a1.extract 0 ny).toList == (a1.extract 0 ny).toList) = true := by simp
              have hxyi : (nx : Int) ≤ (ny : Int) := by omega
              have hyai : (ny : Int) ≤ (a1.size : Int) := by omega
              clear hs1 hs2
              have hX1 : ((a1.extract 0 nx).toList == (a1.extract 0 nx).toList) = true := by simp
              have hY1 : ((a1.extract 0 ny).toList == (a1.extract 0 ny).toList) = true := by simp
              have hA1 : (a1.toList == a1.toList) = true := by simp
              have HFu := Lib.hid hfull
              clear hfull
              by_cases hf : (a1.size : Int) ≤ a0
              · have hYe : a1.extract 0 ny = a1 := HEx.out (by have := HFu.out hf; omega)
                have hfi : ¬ a0 < (a1.size : Int) := by omega
                have hBB := HD9.out.trans (HB12.out.mono (HD9.out.size))
                rw [hYe] at hsub HYs hY1
                generalize hXX : a1.extract 0 nx = X at *
                clear HB12 HXW HEx HFu hY1
                go_wp2_with fail
                go_returns
                exact ⟨rfl, hBB⟩
              · have hfi : a0 < (a1.size : Int) := by omega
                have hBB := HD9.out.trans (HB12.out.mono (HD9.out.size))
                generalize a1.extract 0 nx = X at *
                generalize hYY : a1.extract 0 ny = Y at *
                clear HB12 HXW HEx HFu hA1
                go_wp2_with fail
                go_returns
                exact ⟨rfl, hBB⟩


/-! ### CaptureFront: the step from the walk to the statement -/
namespace captureFront
theorem own : ownKnob Try.prog.godebug = none := by kernel_rfl
theorem laidOut : laidOutB Try.prog = true := by kernel_rfl
set_option maxRecDepth 100000 in
theorem lifted (os : Os) (started : os.Started) (H : Type) (enc : TypeId × Value → H) :
    ReturnsInHanded {} Try.checked os 6 .any (Rows.captureFrontSpec.pre6 enc Try.prog Try.f6 Rows.captureFrontRow.domain false) (Rows.captureFrontSpec.post enc Try.prog Try.f6 false true false false) := by
  refine returnsInHanded_of_change (C := Try.checked) own started (by kernel_rfl) Try.func6
    (ChangeSpec.witness6 (enc := enc) (C := Try.checked) false ⟨#[], #[.agg #[.int .i64 0, .int .i64 0], .string ByteArray.empty], []⟩ 8 (by kernel_rfl) (by kernel_rfl) (by kernel_rfl) (by kernel_rfl)) ?_
  intro W base args ds gs before hval0 hW hcnd _
  have hval : ∀ (j : Nat) t v, Try.f6.params[j]? = some t → args[j]? = some v → Value.okWide Try.prog W .any base t v := hval0
  have hW' := hW
  obtain ⟨p, q, hA0, hV, rfl, hfz, hnd⟩ := hW
  have hA : DataW.TrodAll enc Try.prog W 0 (fun _ => true) true Try.f6.params.toList args.toList ds p := hA0
  rw [Try.params6] at hA hval
  obtain ⟨v0, vs0, d0, ds0, p0, q0, hargs, rfl, rfl, h0, r0⟩ := trodAll_cons hA
  obtain ⟨v1, vs1, d1, ds1, p1, q1, rfl, rfl, rfl, h1, r1⟩ := trodAll_cons r0
  obtain ⟨rfl, rfl, rfl⟩ := trodAll_nil r1
  obtain rfl : args = #[v0, v1] := by cases args; simp_all
  obtain ⟨rfl, rfl⟩ := trodVars_none hV
  have k0 := h0
  have lt0 : ∀ x ∈ p0, x.block < W.heap.size := by obtain ⟨m, hm⟩ := k0; exact DataW.trod_lt m _ _ _ hm
  obtain ⟨a0, e0, rfl, ra0, re0⟩ := came_two Try.underlying42 Try.underlying3 (by kernel_rfl) (by kernel_rfl) (hval 0 42 v0 rfl rfl) h0
  obtain ⟨a1, rfl, rfl, rfl, w1⟩ := open_string Try.underlying9 (hval 1 9 v1 rfl rfl) h1
  clear hA0 hval0
  refine (walkCaptureFront a0 e0 a1 ra0 re0 w1 W).mono fun e W' ⟨he, bel⟩ => ?_
  subst he
  exact ⟨_, rfl, _, _, _, [], _, [], hW', trodAll_mk1 (shut_bool Try.underlying4 _), (trodAll_cons_mk (Below.trod laidOut (by kernel_rfl) (of_decide_eq_true (by kernel_rfl)) k0 bel lt0) (trodAll_cons_mk (shut_string Try.underlying9 w1) trodAll_mk0)), rfl, bel.frame _, fun h => by cases h⟩
theorem over : Rows.captureFrontRow.holds Try.pinned (OpenSpec.ofChange Rows.captureFrontSpec) :=
  OpenClaim.holds_of_wide 6 Try.f6 rfl rfl rfl rfl rfl rfl rfl ⟨rfl, rfl, rfl, rfl, rfl⟩ rfl rfl rfl rfl rfl (by kernel_rfl) Try.func6 (by kernel_rfl)
    (of_decide_eq_true (by kernel_rfl)) (by unfold Func.isWrapper; first | (rw [if_pos (by decide +kernel)]; kernel_rfl) | (rw [if_neg (by decide +kernel)]; exact ⟨rfl, rfl⟩))
    (fun os started H enc _ => lifted os started H enc)
/-- THE STATEMENT. -/
theorem proved : Rows.CaptureFrontSaid := over
end captureFront
end Go.Proofs.Ytemdeopghkcpbaa
