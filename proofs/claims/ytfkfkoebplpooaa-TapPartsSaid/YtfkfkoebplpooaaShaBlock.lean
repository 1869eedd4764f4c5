/- What the code's afterBlock gives, out of what the constants' function gives. -/
import Derived.Test.YtfkfkoebplpooaaShaCode
import Derived.Deep.LoopGhost
namespace Go.Proofs.Ytfkfkoebplpooaa
open Go.RowKit Go.PlainAid
set_option linter.unusedVariables false
theorem index64 (w : World) (l : List Int) (i : Nat) (hl : l.length = 64) (hi : i < 64) :
    (Instr.index 65 (.agg (uv l).toArray) (.int .i64 i)).run Try.prog w = .ok (.int .u32 (l.getD i 0)) w := by
  have h0 : (0 : Int) ≤ (i : Int) ∧ (i : Int) < 64 := by omega
  have hc := uv_at (l := l) (p := i) (by omega)
  simp [Instr.index, run_underlying Try.underlying65, asIntOf, h0, part, go_sem, Try.sizeOf52, Try.isAgg52]
  rw [if_pos hi, hc]
  simp
theorem not32 (x : Int) (h0 : 0 ≤ x) (h1 : x ≤ 4294967295) : bits .xor .u32 IntKind.u32.max x = 4294967295 - x := by
  have hm : IntKind.u32.max = 4294967295 := by decide
  have ha : BitVec.ofInt 32 4294967295 = BitVec.allOnes 32 := by decide
  rw [bits_xor32, hm, ha, BitVec.allOnes_xor, BitVec.toNat_not, ofInt_toNat32 h0 h1]
  omega
theorem rnd_a (t : St) (ki wi : Int) : (rnd t ki wi).a = (t.h + sg t.e 6 11 25 + bits .xor .u32 (bits .and .u32 t.e t.f) (bits .and .u32 (4294967295 - t.e) t.g) + ki + wi + (sg t.a 2 13 22 + bits .xor .u32 (bits .xor .u32 (bits .and .u32 t.a t.b) (bits .and .u32 t.a t.c)) (bits .and .u32 t.b t.c))) % 4294967296 := by
  simp only [rnd, tT, tU, ad, xr, an, IntKind.wrap_u32]
  omega
theorem rnd_e (t : St) (ki wi : Int) : (rnd t ki wi).e = (t.d + (t.h + sg t.e 6 11 25 + bits .xor .u32 (bits .and .u32 t.e t.f) (bits .and .u32 (4294967295 - t.e) t.g) + ki + wi)) % 4294967296 := by
  simp only [rnd, tT, ad, xr, an, IntKind.wrap_u32]
  omega
set_option maxRecDepth 100000 in
set_option maxHeartbeats 4000000 in
theorem afterBlock_any (KK : List Int) (hKK : KK.length = 64) (hKB : ∀ x ∈ KK, wd x) (HRK : ∀ w, Calls Try.prog 34 #[] w fun e w' => e = .returned (.agg (uv KK).toArray) ∧ Below w.heap.size w w') (s : St) (hs : s.ok) (b : ByteArray) (hb : b.size = 64) (w : World) :
    Calls Try.prog 25 #[.agg (uv s.l).toArray, .string b] w fun e w' => e = .returned (.agg (uv (mixB KK s b).l).toArray) ∧ Below w.heap.size w w' := by
  have H1 := Lib.hid HRK
  have HKB := Lib.hid hKB
  clear hKB
  have H2 := Lib.hid (fun w => schedule_any b hb w)
  have HSOK := Lib.hid hs
  have hR0 := Row.new w 54 (uv s.l)
  have hR1 := Row.new (w.alloc (.cells (uv s.l).toArray 54)) 54 (uv [0, 0, 0, 0, 0, 0, 0, 0])
  have hR2 := hR0.alloc (.cells (uv [0, 0, 0, 0, 0, 0, 0, 0]).toArray 54)
  rw [World.size_alloc] at hR1
  have hB0 : Below w.heap.size w ((w.alloc (.cells (uv s.l).toArray 54)).alloc (.cells (uv [0, 0, 0, 0, 0, 0, 0, 0]).toArray 54)) := ((Below.refl _ _).alloc (Nat.le_refl _) _).alloc (by simp) _
  have HWE : Hid ((w.alloc (.cells (uv s.l).toArray 54)).alloc (.cells (uv [0, 0, 0, 0, 0, 0, 0, 0]).toArray 54) = (w.alloc (.cells #[.int .u32 s.a, .int .u32 s.b, .int .u32 s.c, .int .u32 s.d, .int .u32 s.e, .int .u32 s.f, .int .u32 s.g, .int .u32 s.h] 54)).alloc (.cells #[.int .u32 0, .int .u32 0, .int .u32 0, .int .u32 0, .int .u32 0, .int .u32 0, .int .u32 0, .int .u32 0] 54)) := Lib.hid rfl
  have HSL : Hid ((uv s.l).toArray = #[.int .u32 s.a, .int .u32 s.b, .int .u32 s.c, .int .u32 s.d, .int .u32 s.e, .int .u32 s.f, .int .u32 s.g, .int .u32 s.h]) := Lib.hid rfl
  rw [HSL.out]
  have HK0 := Lib.hid hKK
  clear HRK hb hR0 hs hKK
  go_enter Try.func25, Try.ntmps25
  go_wp2_with fail
  rw [← HWE.out]
  generalize (w.alloc (.cells (uv s.l).toArray 54)).alloc (.cells (uv [0, 0, 0, 0, 0, 0, 0, 0]).toArray 54) = w2 at *
  have r0 : w2.cell? ⟨w.heap.size, 0, none⟩ = some (.int .u32 s.a) := hR2.cell 0
  have r1 : w2.cell? ⟨w.heap.size, 1, none⟩ = some (.int .u32 s.b) := hR2.cell 1
  have r2 : w2.cell? ⟨w.heap.size, 2, none⟩ = some (.int .u32 s.c) := hR2.cell 2
  have r3 : w2.cell? ⟨w.heap.size, 3, none⟩ = some (.int .u32 s.d) := hR2.cell 3
  have r4 : w2.cell? ⟨w.heap.size, 4, none⟩ = some (.int .u32 s.e) := hR2.cell 4
  have r5 : w2.cell? ⟨w.heap.size, 5, none⟩ = some (.int .u32 s.f) := hR2.cell 5
  have r6 : w2.cell? ⟨w.heap.size, 6, none⟩ = some (.int .u32 s.g) := hR2.cell 6
  have r7 : w2.cell? ⟨w.heap.size, 7, none⟩ = some (.int .u32 s.h) := hR2.cell 7
  have HR1 := Lib.hid hR1
  have HR2 := Lib.hid hR2
  clear HWE HSL hR1 hR2
  refine region_still (by kernel_rfl) (by kernel_rfl) ?_
  repeat (refine wpStill_step (fun K hK => ?_); go_simp; refine hK _ ?_; clear hK K)
  refine wpStill_nil ?_
  go_wp2_with fail
  refine region_still (by kernel_rfl) (by kernel_rfl) ?_
  repeat (refine wpStill_step (fun K hK => ?_); go_simp; refine hK _ ?_; clear hK K)
  refine wpStill_nil ?_
  have HR1' : Hid (Row w2.drew.drew (w.heap.size + 1) 54 (uv [0, 0, 0, 0, 0, 0, 0, 0])) := HR1
  have HR2' : Hid (Row w2.drew.drew w.heap.size 54 (uv s.l)) := HR2
  have hB1 : Below w.heap.size w w2.drew.drew := hB0.drew.drew
  clear r0 r1 r2 r3 r4 r5 r6 r7 HR1 HR2 hB0
  generalize w2.drew.drew = w3 at *
  go_wp2_with fail
  refine (H1.out _).mono ?_
  rintro e w4 ⟨rfl, hB4⟩
  have HR1 := Lib.hid (HR1'.out.below hB4 HR1'.out.lt)
  have HR2 := Lib.hid (HR2'.out.below hB4 HR2'.out.lt)
  have hBB := hB1.trans (hB4.mono hB1.size)
  clear HR1' HR2' hB1 hB4 H1
  have hKK := HK0.out
  have hN := Row.new w4 65 (uv (List.replicate 64 0))
  have hFin := hN.setAll (vs := uv KK) (by rw [uv_length, hKK]; rfl)
  have hR1' := (HR1.out.alloc (.cells (uv (List.replicate 64 0)).toArray 65)).farMany (g' := w4.heap.size) (by have := HR1.out.lt; omega) 0 (uv KK)
  have hR2' := (HR2.out.alloc (.cells (uv (List.replicate 64 0)).toArray 65)).farMany (g' := w4.heap.size) (by have := HR2.out.lt; omega) 0 (uv KK)
  have hBF : Below w.heap.size w ((w4.alloc (.cells (uv (List.replicate 64 0)).toArray 65)).setCells w4.heap.size 0 (uv KK)) :=
    below_setCells _ _ (hBB.alloc hBB.size _) hBB.size
  have hT2 : World.there (w4.alloc (.cells (uv (List.replicate 64 0)).toArray 65)) w4.heap.size 0 (uv KK).toArray.size := by
    have := hN.there (o := 0) (n := 64) (by simp [uv])
    simpa [uv_length, hKK] using this
  have hI64 : (Try.prog.info? 65).map (·.size) = some (uv KK).toArray.size := by rw [infoRow64]; simp [uv_length, hKK]
  have HK64 := Lib.hid hKK
  clear hKK
  have T2 := Lib.hid hT2
  have I64 := Lib.hid hI64
  have HFin := Lib.hid hFin
  have HR1b := Lib.hid hR1'
  have HR2b := Lib.hid hR2'
  clear hN hFin hR1' hR2' hT2 hI64 HR1 HR2
  go_wp2_with (first
    | refine wpList_store_mid rfl 65 (.tmp 13) (.tmp 36) rfl w4.heap.size 0 (uv KK).toArray rfl rfl T2.out I64.out (all_oneCell_toArray (uv_one _)) ?_)
  refine (H2.out _).mono ?_
  rintro e w5 ⟨rfl, hB5⟩
  have hsz5 := hB5.size
  have HK5 : Hid (Row w5 w4.heap.size 65 (uv KK)) := Lib.hid (Row.below HFin.out hB5 HFin.out.lt)
  have HR1 : Hid (Row w5 (w.heap.size + 1) 54 (uv [0, 0, 0, 0, 0, 0, 0, 0])) := Lib.hid (Row.below HR1b.out hB5 HR1b.out.lt)
  have HR2 : Hid (Row w5 w.heap.size 54 (uv s.l)) := Lib.hid (Row.below HR2b.out hB5 HR2b.out.lt)
  have hBB5 : Below w.heap.size w w5 := hBF.trans (Below.mono hB5 hBF.size)
  clear HFin HR1b HR2b hBF hB5 T2 I64 H2 hsz5 hBB
  have HWL : Hid ((schd (words b) 48).length = 64) := Lib.hid (by rw [schd_length, words_length])
  have HWB := Lib.hid (schd_bd (words_bd b) 48)
  have HMX : Hid (mixB KK s b = addS (mixR s KK (schd (words b) 48) 64) s) := Lib.hid rfl
  generalize schd (words b) 48 = W at *
  generalize hgk : w4.heap.size = gk at *
  clear hgk
  go_wp2
  go_loopg [5, 6, 7, 8, 9, 10, 11, 12, 39] 64 (fun gn av bv cv dv ev fv gv hv iv wr => ∃ i : Nat, i ≤ 64 ∧ gn = 64 - i ∧ iv = .int .i64 i ∧ av = .int .u32 (mixR s KK W i).a ∧ bv = .int .u32 (mixR s KK W i).b ∧ cv = .int .u32 (mixR s KK W i).c ∧ dv = .int .u32 (mixR s KK W i).d ∧ ev = .int .u32 (mixR s KK W i).e ∧ fv = .int .u32 (mixR s KK W i).f ∧ gv = .int .u32 (mixR s KK W i).g ∧ hv = .int .u32 (mixR s KK W i).h ∧
      Hid (Row wr gk 65 (uv KK)) ∧ Hid (Row wr (w.heap.size + 1) 54 (uv [0, 0, 0, 0, 0, 0, 0, 0])) ∧ Hid (Row wr w.heap.size 54 (uv s.l)) ∧ Below w.heap.size w wr)
  case atStart => exact ⟨0, by omega, by omega, rfl, rfl, rfl, rfl, rfl, rfl, rfl, rfl, rfl, HK5, HR1, HR2, hBB5⟩
  case round =>
    clear HK5 HR1 HR2 hBB5
    obtain ⟨i, hi, rfl, rfl, rfl, rfl, rfl, rfl, rfl, rfl, rfl, rfl, HK5, HR1, HR2, hBe⟩ := hrel
    have hok := mixR_ok (k := KK) (w := W) HSOK.out i
    by_cases hlt : i < 64
    · have HNX : Hid (mixR s KK W (i + 1) = rnd (mixR s KK W i) (KK.getD i 0) (W.getD i 0)) := Lib.hid rfl
      have rk : wr.cell? ⟨gk, i, none⟩ = some (.int .u32 (KK.getD i 0)) := by
        rw [HK5.out.cell, uv_at (by rw [HK64.out]; exact hlt)]
      have hix := index64 wr W i HWL.out hlt
      generalize mixR s KK W i = t at *
      obtain ⟨⟨o0, o1⟩, ⟨p0, p1⟩, ⟨q0, q1⟩, ⟨s0, s1⟩, ⟨t0, t1⟩, ⟨v0, v1⟩, ⟨x0, x1⟩, ⟨y0, y1⟩⟩ := hok
      generalize hka : KK.getD i 0 = ki at *
      generalize hwa : W.getD i 0 = wi at *
      have HKA := Lib.hid hka
      have HWA := Lib.hid hwa
      clear hka hwa
      have hsg : IntKind.u32.signed = false := rfl
      have HNE := Lib.hid (not32 t.e t0 t1)
      go_wp2_with fail
      refine region_still (by kernel_rfl) (by kernel_rfl) ?_
      repeat (refine wpStill_step (fun K hK => ?_); go_simp; first
        | (refine hK _ ?_; clear hK K)
        | ((with_reducible refine ⟨_, (turnedE_any t.e t0 t1 _).mono (fun _ _ h => ⟨h.1, h.2.symm⟩), hK _ ?_⟩); clear hK K))
      refine wpStill_nil ?_
      go_wp2_with (go_at_call 37; (with_reducible refine (turnedA_any t.a o0 o1 _).mono ?_); rintro e w' ⟨rfl, rfl⟩)
      have HK6 : Hid (Row wr.drew gk 65 (uv KK)) := HK5
      have HR6 : Hid (Row wr.drew (w.heap.size + 1) 54 (uv [0, 0, 0, 0, 0, 0, 0, 0])) := HR1
      have HR7 : Hid (Row wr.drew w.heap.size 54 (uv s.l)) := HR2
      have hB6 : Below w.heap.size w wr.drew := hBe.drew
      go_roundg (64 - (i + 1))
      case measure => omega
      case rel => exact ⟨i + 1, by omega, rfl, by go_num, by rw [HNX.out, rnd_a, HNE.out]; exact congrArg (Value.int .u32) (by omega), by rw [HNX.out]; rfl, by rw [HNX.out]; rfl, by rw [HNX.out]; rfl, by rw [HNX.out, rnd_e, HNE.out]; exact congrArg (Value.int .u32) (by omega), by rw [HNX.out]; rfl, by rw [HNX.out]; rfl, by rw [HNX.out]; rfl, HK6, HR6, HR7, hB6⟩
    · have hi64 : i = 64 := by omega
      subst hi64
      generalize mixR s KK W 64 = t at *
      clear hok HK5
      have HN := Lib.hid (Row.new wr 54 (uv (addL t.l s.l 0)))
      have HR3 := Lib.hid (HR1.out.alloc (.cells (uv (addL t.l s.l 0)).toArray 54))
      have HR4 := Lib.hid (HR2.out.alloc (.cells (uv (addL t.l s.l 0)).toArray 54))
      have hB2 : Below w.heap.size w (wr.alloc (.cells (uv (addL t.l s.l 0)).toArray 54)) := hBe.alloc hBe.size _
      have HWE : Hid (wr.alloc (.cells (uv (addL t.l s.l 0)).toArray 54) = wr.alloc (.cells #[.int .u32 t.a, .int .u32 t.b, .int .u32 t.c, .int .u32 t.d, .int .u32 t.e, .int .u32 t.f, .int .u32 t.g, .int .u32 t.h] 54)) := Lib.hid (by rw [addL_zero]; rfl)
      have hsz := hBe.size
      have hl1 := HR1.out.lt
      go_wp2_with fail
      rw [← HWE.out]
      generalize wr.alloc (.cells (uv (addL t.l s.l 0)).toArray 54) = w6 at *
      generalize wr.heap.size = g3 at *
      clear HWE HR1 HR2 hBe
      go_loopg [98] 8 (fun gn iv wr => ∃ i : Nat, i ≤ 8 ∧ gn = 8 - i ∧ iv = .int .i64 i ∧ Hid (Row wr g3 54 (uv (addL t.l s.l i))) ∧ Hid (Row wr (w.heap.size + 1) 54 (uv [0, 0, 0, 0, 0, 0, 0, 0])) ∧ Hid (Row wr w.heap.size 54 (uv s.l)) ∧ Below w.heap.size w wr)
      case atStart => exact ⟨0, by omega, by omega, rfl, HN, HR3, HR4, hB2⟩
      case round =>
        clear HN HR3 HR4 hB2
        obtain ⟨i, hi8, rfl, rfl, HA, HR1, HR2, hBe⟩ := hrel
        by_cases hlt3 : i < 8
        · have hl8 : t.l.length = 8 := rfl
          have c1 : wr.cell? ⟨g3, i, none⟩ = some (.int .u32 (t.l.getD i 0)) := by
            rw [HA.out.cell, uv_at (by rw [addL_length]; omega), addL_get _ _ (by omega), if_neg (by omega)]
          have f1 := HA.out.frozen i
          have c3 : wr.cell? ⟨w.heap.size, i, none⟩ = some (.int .u32 (s.l.getD i 0)) := by rw [HR2.out.cell, uv_at (by exact hlt3)]
          have HST : Hid (Row (wr.drew.setCell ⟨g3, i, none⟩ (.int .u32 (ad (t.l.getD i 0) (s.l.getD i 0)))) g3 54 (uv (addL t.l s.l (i + 1)))) := Lib.hid (by
            rw [← addL_set _ _ (by omega), uv_set]; exact Row.set (w := wr.drew) HA.out i _)
          have HS1 : Hid (Row (wr.drew.setCell ⟨g3, i, none⟩ (.int .u32 (ad (t.l.getD i 0) (s.l.getD i 0)))) (w.heap.size + 1) 54 (uv [0, 0, 0, 0, 0, 0, 0, 0])) := Lib.hid (Row.far (w := wr.drew) HR1.out (by simp; omega) _)
          have HS2 : Hid (Row (wr.drew.setCell ⟨g3, i, none⟩ (.int .u32 (ad (t.l.getD i 0) (s.l.getD i 0)))) w.heap.size 54 (uv s.l)) := Lib.hid (Row.far (w := wr.drew) HR2.out (by simp; omega) _)
          have hB2 : Below w.heap.size w (wr.drew.setCell ⟨g3, i, none⟩ (.int .u32 (ad (t.l.getD i 0) (s.l.getD i 0)))) := hBe.drew.setCell (by simp; omega) _
          generalize t.l.getD i 0 = x at *
          generalize s.l.getD i 0 = y at *
          clear HA HR1 HR2 hBe hl8
          go_wp2_with fail
          refine region_tail 8 (by kernel_rfl) (by kernel_rfl) ?_
          simp only [List.take_succ_cons, List.take_zero, List.drop_succ_cons, List.drop_zero]
          repeat (refine wpStill_step (fun K hK => ?_); go_simp; refine hK _ ?_; clear hK K)
          refine wpStill_nil ?_
          have f1' : wr.drew.frozen? ⟨g3, i, none⟩ = false := f1
          have c1' : wr.drew.cell? ⟨g3, i, none⟩ = some (.int .u32 x) := c1
          have had : IntKind.u32.wrap (x + y) = ad x y := rfl
          rw [had]
          generalize ad x y = z at *
          generalize wr.drew = w9 at *
          clear had c1 f1 c3
          go_wp2
          go_roundg (8 - (i + 1))
          case measure => omega
          case rel => exact ⟨i + 1, by omega, rfl, by go_num, HST, HS1, HS2, hB2⟩
        · have hi8' : i = 8 := by omega
          subst hi8'
          rw [addL_done, ← HMX.out] at HA
          generalize hm : mixB KK s b = m at *
          have HMM := Lib.hid hm
          clear hm
          have hI8 : (Try.prog.info? 54).map (·.size) = some (uv m.l).length := infoRow8
          have hI8b : (Try.prog.info? 54).map (·.size) = some (uv m.l).toArray.size := infoRow8
          have hth : wr.there (w.heap.size + 1) 0 (uv m.l).toArray.size := HR1.out.there (o := 0) (n := 8) (by simp [uv])
          have HI := Lib.hid hI8
          have HI2 := Lib.hid hI8b
          have HTH := Lib.hid hth
          have HFS : Hid (Row (wr.setCells (w.heap.size + 1) 0 (uv m.l)) (w.heap.size + 1) 54 (uv m.l)) := Lib.hid (HR1.out.setAll rfl)
          have hBS : Below w.heap.size w (wr.setCells (w.heap.size + 1) 0 (uv m.l)) := below_setCells _ _ hBe (by omega)
          clear hI8 hI8b hth
          go_upto_region 20 with (fail)
          refine wp_region_lit ?_
          refine wpList_load_mid rfl 54 (.tmp 18) rfl g3 0 rfl (uv m.l) _ HA.out.whole Try.underlying54 rfl HI.out ?_
          refine wpList_store_mid rfl 54 (.tmp 4) (.tmp 110) rfl (w.heap.size + 1) 0 (uv m.l).toArray rfl rfl HTH.out HI2.out (all_oneCell_toArray (uv_one _)) ?_
          rw [show (uv m.l).toArray.toList = uv m.l from rfl]
          generalize wr.setCells (w.heap.size + 1) 0 (uv m.l) = wf at *
          go_wp2_with fail
          exact bodyPost_ret (v := .agg (uv m.l).toArray) (results_cell Try.results25 _ (ad := ⟨w.heap.size + 1, 0, none⟩) rfl (run_loadVar_mid _ _ 0 _ _ _ HFS.out.whole Try.underlying54 rfl HI.out)) rfl ⟨by rw [HMM.out], hBS⟩
end Go.Proofs.Ytfkfkoebplpooaa
