/- What the code's functions on a block give: turned words, the schedule. -/
import Derived.Test.YtfkfkoebplpooaaShaConst
import Derived.Test.YtfkfkoebplpooaaMem2
import Derived.Test.YtfkfkoebplpooaaOrders
import Derived.Test.YtfkfkoebplpooaaShelf
import Derived.Deep.LoopGhost
import Derived.IntWalk
namespace Go.Proofs.Ytfkfkoebplpooaa
open Go.RowKit Go.PlainAid
set_option linter.unusedVariables false
theorem turnedE_any (x : Int) (h0 : 0 ≤ x) (h1 : x ≤ 4294967295) (w : World) :
    Calls Try.prog 36 #[.int .u32 x] w fun e w' => e = .returned (.int .u32 (sg x 6 11 25)) ∧ w = w' := by
  go_enter Try.func36, Try.ntmps36
  go_wp2_with (go_at_call 45; refine (turn_any _ _ h0 h1 _).mono ?_; rintro e w' ⟨rfl, rfl⟩)
  go_ret
  exact ⟨rfl, rfl⟩
theorem turnedA_any (x : Int) (h0 : 0 ≤ x) (h1 : x ≤ 4294967295) (w : World) :
    Calls Try.prog 37 #[.int .u32 x] w fun e w' => e = .returned (.int .u32 (sg x 2 13 22)) ∧ w = w' := by
  go_enter Try.func37, Try.ntmps37
  go_wp2_with (go_at_call 45; refine (turn_any _ _ h0 h1 _).mono ?_; rintro e w' ⟨rfl, rfl⟩)
  go_ret
  exact ⟨rfl, rfl⟩
theorem words_takeI (b : ByteArray) {i : Nat} (h : i < 16) : (words b).take (i + 1) = (words b).take i ++ [getI b (4 * i)] := by
  rw [List.take_succ_eq_append_getElem (by rw [words_length]; exact h)]
  simp [words]
theorem take_getD {L X : List Int} {n p : Nat} (h : L.take n = X) (hp : p < n) : L.getD p 0 = X.getD p 0 := by
  subst h; simp [List.getD, hp]
set_option maxRecDepth 100000 in
set_option maxHeartbeats 1000000 in
theorem schedule_any (b : ByteArray) (hb : b.size = 64) (w : World) :
    Calls Try.prog 35 #[.string b] w fun e w' => e = .returned (.agg (uv (schd (words b) 48)).toArray) ∧ Below w.heap.size w w' := by
  have HB := Lib.hid hb
  have hb' : b.size ≤ 64 := by omega
  clear hb
  have hz : uv (List.replicate 64 0) = List.replicate 64 (.int .u32 0) := by simp [uv]
  have HR0 := Lib.hid (Row.new w 65 (uv (List.replicate 64 0)))
  have HR1 := Lib.hid (Row.new (w.alloc (.cells (uv (List.replicate 64 0)).toArray 65)) 65 (uv (List.replicate 64 0)))
  have HR2 := Lib.hid (HR0.out.alloc (.cells (uv (List.replicate 64 0)).toArray 65))
  rw [World.size_alloc] at HR1
  have hB0 : Below w.heap.size w ((w.alloc (.cells (uv (List.replicate 64 0)).toArray 65)).alloc (.cells (uv (List.replicate 64 0)).toArray 65)) := ((Below.refl _ _).alloc (Nat.le_refl _) _).alloc (by simp) _
  have hWE : (w.alloc (.cells (uv (List.replicate 64 0)).toArray 65)).alloc (.cells (uv (List.replicate 64 0)).toArray 65) = (w.alloc (.cells (uv (List.replicate 64 0)).toArray 65)).alloc (.cells (uv (List.replicate 64 0)).toArray 65) := rfl
  clear HR0
  go_enter Try.func35, Try.ntmps35
  go_wp2
  go_loopg [10] 16 (fun gn iv wr => ∃ i : Nat, ∃ L : List Int, i ≤ 16 ∧ gn = 16 - i ∧ iv = .int .i64 i ∧ L.length = 64 ∧ Hid (L.take i = (words b).take i) ∧ Hid (Row wr (w.heap.size + 1) 65 (uv L)) ∧ Hid (Row wr w.heap.size 65 (uv (List.replicate 64 0))) ∧ Below w.heap.size w wr)
  case atStart => exact ⟨0, List.replicate 64 0, by omega, by omega, rfl, by simp, Lib.hid (by simp), HR1, HR2, hB0⟩
  case round =>
    clear HR1 HR2 hB0 hWE
    obtain ⟨i, L, hi, rfl, rfl, hL, HT, HR, HZ, hBe⟩ := hrel
    by_cases hlt : i < 16
    · have hg := get32_in b ((i : Int) * 4) (by omega) (by have := HB.out; omega) (by omega)
      rw [show ((i : Int) * 4).toNat = 4 * i by omega] at hg
      have HG := Lib.hid hg
      have HWT := Lib.hid (words_takeI b hlt)
      clear hg
      generalize getI b (4 * i) = x at *
      go_wp2_with fail
      refine (HG.out _).mono ?_
      rintro e w2 ⟨rfl, hB2⟩
      have hsz := hBe.size
      have HR2 := Lib.hid (HR.out.below hB2 HR.out.lt)
      have HZ2 := Lib.hid (HZ.out.below hB2 HZ.out.lt)
      have hBB := hBe.trans (hB2.mono hsz)
      have hL1 := HR2.out.lt
      have c1 : w2.cell? ⟨w.heap.size + 1, i, none⟩ = some (.int .u32 (L.getD i 0)) := by rw [HR2.out.cell, uv_at (by omega)]
      have f1 := HR2.out.frozen i
      have HR3 : Hid (Row (w2.setCell ⟨w.heap.size + 1, i, none⟩ (.int .u32 x)) (w.heap.size + 1) 65 (uv (L.set i x))) := Lib.hid (by rw [uv_set]; exact HR2.out.set i _)
      have HZ3 : Hid (Row (w2.setCell ⟨w.heap.size + 1, i, none⟩ (.int .u32 x)) w.heap.size 65 (uv (List.replicate 64 0))) := Lib.hid (HZ2.out.far (by simp) _)
      have hB3 : Below w.heap.size w (w2.setCell ⟨w.heap.size + 1, i, none⟩ (.int .u32 x)) := hBB.setCell (by simp) _
      have HT2 : Hid ((L.set i x).take (i + 1) = (words b).take (i + 1)) := Lib.hid (by rw [take_set x (by omega), HT.out, HWT.out])
      have HL2 : Hid ((L.set i x).length = 64) := Lib.hid (by rw [List.length_set]; exact hL)
      clear HR HZ HR2 HZ2 hB2 hBe hBB hL HT HG
      generalize L.getD i 0 = y at *
      generalize L.set i x = L2 at *
      go_wp2
      go_roundg (16 - (i + 1))
      case measure => omega
      case rel => exact ⟨i + 1, L2, by omega, rfl, by go_num, HL2.out, HT2, HR3, HZ3, hB3⟩
    · have hi16 : i = 16 := by omega
      subst hi16
      have HT2 : Hid (L.take 16 = schd (words b) (16 - 16)) := Lib.hid (by rw [HT.out, List.take_of_length_le (by rw [words_length]; omega)]; rfl)
      clear HT
      go_wp2
      go_loopg [5] 48 (fun gn iv wr => ∃ i : Nat, ∃ L : List Int, 16 ≤ i ∧ i ≤ 64 ∧ gn = 64 - i ∧ iv = .int .i64 i ∧ L.length = 64 ∧ Hid (L.take i = schd (words b) (i - 16)) ∧ Hid (Row wr (w.heap.size + 1) 65 (uv L)) ∧ Hid (Row wr w.heap.size 65 (uv (List.replicate 64 0))) ∧ Below w.heap.size w wr)
      case atStart => exact ⟨16, L, by omega, by omega, by omega, rfl, hL, HT2, HR, HZ, hBe⟩
      case round =>
        clear HT2 HR HZ hBe hL
        obtain ⟨i, L, hi1, hi2, rfl, rfl, hL, HT, HR, HZ, hBe⟩ := hrel
        by_cases hlt : i < 64
        · have HN : Hid (schd (words b) (i + 1 - 16) = schd (words b) (i - 16) ++ [nxt (schd (words b) (i - 16)) i]) := Lib.hid (by
            rw [show i + 1 - 16 = (i - 16) + 1 by omega, schd_succ, show 16 + (i - 16) = i by omega])
          have hwl : (schd (words b) (i - 16)).length = i := by rw [schd_length, words_length]; omega
          have hwb := schd_bd (words_bd b) (i - 16)
          generalize schd (words b) (i - 16) = W at *
          have hrd : ∀ p, p < i → wr.cell? ⟨w.heap.size + 1, p, none⟩ = some (.int .u32 (W.getD p 0)) ∧ 0 ≤ W.getD p 0 ∧ W.getD p 0 ≤ 4294967295 := fun p hp => by
            refine ⟨?_, ?_⟩
            · rw [HR.out.cell, uv_at (by omega), take_getD HT.out hp]
            · exact hwb (W.getD p 0) (by simp only [List.getD, List.getElem?_eq_getElem (show p < W.length by omega), Option.getD_some]; exact List.getElem_mem _)
          obtain ⟨r1, a0, a1⟩ := hrd (i - 16) (by omega)
          obtain ⟨r2, b0, b1⟩ := hrd (i - 15) (by omega)
          obtain ⟨r3, c0, c1⟩ := hrd (i - 7) (by omega)
          obtain ⟨r4, d0, d1⟩ := hrd (i - 2) (by omega)
          have r5 : wr.cell? ⟨w.heap.size + 1, i, none⟩ = some (.int .u32 (L.getD i 0)) := by rw [HR.out.cell, uv_at (by omega)]
          have f1 := HR.out.frozen i
          have hX : nxt W i = ad (ad (ad (W.getD (i - 16) 0) (sh0 (W.getD (i - 15) 0))) (W.getD (i - 7) 0)) (sh1 (W.getD (i - 2) 0)) := rfl
          have HR3 : ∀ x, Hid (Row (wr.drew.drew.setCell ⟨w.heap.size + 1, i, none⟩ (.int .u32 x)) (w.heap.size + 1) 65 (uv (L.set i x))) := fun x => Lib.hid (by
            rw [uv_set]; exact Row.set (w := wr.drew.drew) HR.out i _)
          have HZ3 : ∀ x, Hid (Row (wr.drew.drew.setCell ⟨w.heap.size + 1, i, none⟩ (.int .u32 x)) w.heap.size 65 (uv (List.replicate 64 0))) := fun x => Lib.hid (Row.far (w := wr.drew.drew) HZ.out (by simp) _)
          have hB3 : ∀ x, Below w.heap.size w (wr.drew.drew.setCell ⟨w.heap.size + 1, i, none⟩ (.int .u32 x)) := fun x => hBe.drew.drew.setCell (by simp) _
          have HT2 : Hid ((L.set i (nxt W i)).take (i + 1) = schd (words b) (i + 1 - 16)) := Lib.hid (by rw [take_set _ (by omega), HT.out, HN.out])
          have HL2 : ∀ x, (L.set i x).length = 64 := fun x => by rw [List.length_set]; exact hL
          have HP := Lib.hid (And.intro HR3 (And.intro HZ3 (And.intro hB3 HL2)))
          have HX := Lib.hid hX
          have hL1 := HR.out.lt
          clear hrd hwl hwb HR3 HZ3 hB3 HL2 hX HR HZ hBe hL HT HN
          generalize W.getD (i - 16) 0 = xa at *
          generalize W.getD (i - 15) 0 = xb at *
          generalize W.getD (i - 7) 0 = xc at *
          generalize W.getD (i - 2) 0 = xd at *
          generalize L.getD i 0 = xl at *
          have t1 : ((i : Int) - 16).toNat = i - 16 := by omega
          have t2 : ((i : Int) - 15).toNat = i - 15 := by omega
          have t3 : ((i : Int) - 7).toNat = i - 7 := by omega
          have t4 : ((i : Int) - 2).toNat = i - 2 := by omega
          have s1 : IntKind.i64.wrap ((i : Int) - 16) = (i : Int) - 16 := IntWalk.i64_in _ (by omega)
          have s2 : IntKind.i64.wrap ((i : Int) - 15) = (i : Int) - 15 := IntWalk.i64_in _ (by omega)
          have s3 : IntKind.i64.wrap ((i : Int) - 7) = (i : Int) - 7 := IntWalk.i64_in _ (by omega)
          have s4 : IntKind.i64.wrap ((i : Int) - 2) = (i : Int) - 2 := IntWalk.i64_in _ (by omega)
          have u1 : (0 : Int) ≤ (i : Int) - 16 := by omega
          have u2 : (0 : Int) ≤ (i : Int) - 15 := by omega
          have u3 : (0 : Int) ≤ (i : Int) - 7 := by omega
          have u4 : (0 : Int) ≤ (i : Int) - 2 := by omega
          have v1 : (16 : Int) ≤ (i : Int) := by omega
          have v2 : (15 : Int) ≤ (i : Int) := by omega
          have v3 : (7 : Int) ≤ (i : Int) := by omega
          have v4 : (2 : Int) ≤ (i : Int) := by omega
          have y1 : (i : Int) - 16 < 64 := by omega
          have y2 : (i : Int) - 15 < 64 := by omega
          have y3 : (i : Int) - 7 < 64 := by omega
          have y4 : (i : Int) - 2 < 64 := by omega
          go_wp2
          refine region_still (by kernel_rfl) (by kernel_rfl) ?_
          repeat (refine wpStill_step (fun K hK => ?_); go_simp; refine hK _ ?_; clear hK K)
          refine wpStill_nil ?_
          go_wp2_with (go_at_call 45; first
            | ((with_reducible refine (turn_any xb _ b0 b1 _).mono ?_); rintro e w' ⟨rfl, rfl⟩)
            | ((with_reducible refine (turn_any xd _ d0 d1 _).mono ?_); rintro e w' ⟨rfl, rfl⟩))
          refine region_tail 15 (by kernel_rfl) (by kernel_rfl) ?_
          simp only [List.take_succ_cons, List.take_zero, List.drop_succ_cons, List.drop_zero]
          repeat (refine wpStill_step (fun K hK => ?_); go_simp; refine hK _ ?_; clear hK K)
          refine wpStill_nil ?_
          have hv : IntKind.u32.wrap (IntKind.u32.wrap (IntKind.u32.wrap (xa + bits .xor .u32 (bits .xor .u32 (turnI xb 7) (turnI xb 18)) (xb / 8)) + xc) + bits .xor .u32 (bits .xor .u32 (turnI xd 17) (turnI xd 19)) (xd / 1024)) = nxt W i := HX.out.symm
          rw [hv]
          obtain ⟨q1, q2, q3, q4⟩ := HP.out
          have HQ1 := q1 (nxt W i)
          have HQ2 := q2 (nxt W i)
          have hQ3 := q3 (nxt W i)
          have HQ4 := Lib.hid (q4 (nxt W i))
          have r5' : wr.drew.drew.cell? ⟨w.heap.size + 1, i, none⟩ = some (.int .u32 xl) := r5
          have f1' : wr.drew.drew.frozen? ⟨w.heap.size + 1, i, none⟩ = false := f1
          clear q1 q2 q3 q4 HP HX hv r1 r2 r3 r4 r5 f1 s1 s2 s3 s4
          generalize nxt W i = z at *
          generalize wr.drew.drew = w5 at *
          go_wp2
          go_roundg (64 - (i + 1))
          case measure => omega
          case rel => exact ⟨i + 1, L.set i z, by omega, by omega, rfl, by go_num, HQ4.out, HT2, HQ1, HQ2, hQ3⟩
        · have hi64 : i = 64 := by omega
          subst hi64
          have hW : L = schd (words b) 48 := by have := HT.out; rwa [List.take_of_length_le (by omega)] at this
          generalize hws : schd (words b) 48 = W at *
          have HWS := Lib.hid hws
          obtain rfl : W = L := hW.symm
          clear hws hW
          have HL := Lib.hid hL
          have h1 := HR.out.lt
          have h2 := HZ.out.lt
          clear hL HT
          have hI : (Try.prog.info? 65).map (·.size) = some (uv W).length := by rw [uv_length, HL.out]; exact infoRow64
          have hI2 : (Try.prog.info? 65).map (·.size) = some (uv W).toArray.size := by simpa using hI
          have hth : wr.there w.heap.size 0 (uv W).toArray.size := by
            have := HZ.out.there (o := 0) (n := 64) (by simp [uv])
            simpa [uv_length, HL.out] using this
          have HI := Lib.hid hI
          have HI2 := Lib.hid hI2
          have HTH := Lib.hid hth
          have HS : Hid (Row (wr.setCells w.heap.size 0 (uv W)) w.heap.size 65 (uv W)) := Lib.hid (HZ.out.setAll (by rw [uv_length, uv_length, HL.out]; rfl))
          have hBS : Below w.heap.size w (wr.setCells w.heap.size 0 (uv W)) := below_setCells _ _ hBe (Nat.le_refl _)
          clear hI hI2 hth
          go_wp2_with (first
            | refine wpList_load_mid rfl 65 (.tmp 3) rfl (w.heap.size + 1) 0 rfl (uv W) _ HR.out.whole Try.underlying65 rfl HI.out ?_
            | refine wpList_store_mid rfl 65 (.tmp 2) (.tmp 66) rfl w.heap.size 0 (uv W).toArray rfl rfl HTH.out HI2.out (all_oneCell_toArray (uv_one W)) ?_)
          exact bodyPost_ret (v := .agg (uv W).toArray) (results_cell Try.results35 _ (ad := ⟨w.heap.size, 0, none⟩) rfl (run_loadVar_mid _ _ 0 _ _ _ HS.out.whole Try.underlying65 rfl HI.out)) rfl ⟨by rw [HWS.out], hBS⟩
end Go.Proofs.Ytfkfkoebplpooaa
