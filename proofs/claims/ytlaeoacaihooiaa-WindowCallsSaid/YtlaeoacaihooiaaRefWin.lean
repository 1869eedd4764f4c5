/- What the reference's Run gives: all that comes through a window. -/
import Derived.Test.YtlaeoacaihooiaaRefSrc
import Derived.Test.YtlaeoacaihooiaaSrcIs
import Derived.Test.YtlaeoacaihooiaaWinState
import Derived.Test.YtlaeoacaihooiaaMem2
import Derived.Deep.Cut
namespace Go.Proofs.Ytlaeoacaihooiaa
open Go.RowKit Go.PlainAid
set_option linter.unusedVariables false
theorem refClamp_any (n low high : Int) (w : World) :
    Calls Try.prog 20 #[.int .i64 n, .int .i64 low, .int .i64 high] w fun e w' => e = .returned (.int .i64 (clampI n low high)) ∧ w = w' := by
  by_cases h1 : n < low
  · have HC : Hid (clampI n low high = low) := Lib.hid (by unfold clampI; rw [if_pos h1])
    go_enter Try.func20, Try.ntmps20
    go_wp2
    go_ret
    exact ⟨ret_int HC.out.symm, rfl⟩
  · by_cases h2 : high < n
    · have HC : Hid (clampI n low high = high) := Lib.hid (by unfold clampI; rw [if_neg h1, if_pos h2])
      go_enter Try.func20, Try.ntmps20
      go_wp2
      go_ret
      exact ⟨ret_int HC.out.symm, rfl⟩
    · have HC : Hid (clampI n low high = n) := Lib.hid (by unfold clampI; rw [if_neg h1, if_neg h2])
      go_enter Try.func20, Try.ntmps20
      go_wp2
      go_ret
      exact ⟨ret_int HC.out.symm, rfl⟩
theorem infoFlow : (Try.prog.info? 32).map (·.size) = some 3 := by kernel_rfl
set_option maxRecDepth 100000 in
set_option maxHeartbeats 16000000 in
theorem refRun_any (size zeros : Int) (D : ByteArray) (S : List (Int × Int)) (oa : Option Addr) (cap : Nat) (w : World) (hca : Came w oa (pvs S)) (hD : D.size ≤ 100000) (hS : S.length ≤ 100000) (hE : ∀ s ∈ S, InI s.1 ∧ InI s.2)
    (R : Nat × Nat × Int) (hR : runM D S (clampI size 1 65536) (clampI zeros 0 1000).toNat (fuel D S 0) 0 0 0 = R) :
    Calls Try.prog 14 #[.int .i64 size, .int .i64 zeros, .string D, .slice oa S.length cap] w fun e w' => e = .returned (.agg #[.string (D.extract 0 R.1), .int .i64 R.2.2, .int .i64 (R.2.1 : Int)]) ∧ Below w.heap.size w w' := by
  obtain ⟨hm1, hm2⟩ := clampI_in (n := size) (low := 1) (high := 65536) (by decide)
  obtain ⟨hz1, hz2⟩ := clampI_in (n := zeros) (low := 0) (high := 1000) (by decide)
  have HCM := Lib.hid (fun w => refClamp_any size 1 65536 w)
  have HCZ := Lib.hid (fun w => refClamp_any zeros 0 1000 w)
  generalize clampI size 1 65536 = m at *
  generalize hz : clampI zeros 0 1000 = zi at *
  obtain ⟨z, rfl⟩ := Int.eq_ofNat_of_zero_le hz1
  rw [Int.toNat_natCast] at hR
  have HR := Lib.hid hR
  have HCA := Lib.hid hca
  have HEL := Lib.hid hE
  have Hz := Lib.hid hz
  clear hR hca hE hz
  have he0 : D.extract 0 0 = (⟨#[]⟩ : ByteArray) := by apply empty_of; rw [ByteArray.size_extract]; omega
  have e1 : (w.alloc (.cells #[.string ⟨#[]⟩, .int .i64 0, .int .i64 0] 32)).heap.size = w.heap.size + 1 := Array.size_push _
  have e2 : ((w.alloc (.cells #[.string ⟨#[]⟩, .int .i64 0, .int .i64 0] 32)).alloc (.cells (refCells D oa S.length cap 0 0 0).toArray 58)).heap.size = w.heap.size + 1 + 1 := by rw [show ∀ (w : World) (o : Obj), (w.alloc o).heap.size = w.heap.size + 1 from fun w o => Array.size_push _, e1]
  have hr0 := ((Row.new w 32 [.string ⟨#[]⟩, .int .i64 0, .int .i64 0]).alloc (.cells (refCells D oa S.length cap 0 0 0).toArray 58)).alloc (.cells #[.string ⟨#[]⟩, .int .i64 0, .int .i64 0] 32)
  have hs0 := (Row.new (w.alloc (.cells #[.string ⟨#[]⟩, .int .i64 0, .int .i64 0] 32)) 58 (refCells D oa S.length cap 0 0 0)).alloc (.cells #[.string ⟨#[]⟩, .int .i64 0, .int .i64 0] 32)
  have ho0 := Row.new ((w.alloc (.cells #[.string ⟨#[]⟩, .int .i64 0, .int .i64 0] 32)).alloc (.cells (refCells D oa S.length cap 0 0 0).toArray 58)) 32 [.string ⟨#[]⟩, .int .i64 0, .int .i64 0]
  rw [e1] at hs0
  rw [e2] at ho0
  have hB0 : Below w.heap.size w (((w.alloc (.cells #[.string ⟨#[]⟩, .int .i64 0, .int .i64 0] 32)).alloc (.cells (refCells D oa S.length cap 0 0 0).toArray 58)).alloc (.cells #[.string ⟨#[]⟩, .int .i64 0, .int .i64 0] 32)) :=
    (((Below.refl _ w).alloc (Nat.le_refl _) _).alloc (by rw [e1]; omega) _).alloc (by rw [e2]; omega) _
  have H0 := Lib.hid hr0
  have H1 := Lib.hid hs0
  have H2 := Lib.hid ho0
  clear hr0 hs0 ho0 e1 e2
  go_enter Try.func14, Try.ntmps14
  go_wp2_with fail
  obtain ⟨ks, hks⟩ : ∃ k, k = w.heap.size + 1 := ⟨_, rfl⟩
  obtain ⟨ko, hko⟩ : ∃ k, k = w.heap.size + 1 + 1 := ⟨_, rfl⟩
  rw [← hko] at H2 ⊢
  rw [← hks] at H1 ⊢
  have hks1 : w.heap.size < ks := by omega
  have hko1 : ks < ko := by omega
  clear hks hko
  go_loopg [11] (fuel D S 0) (fun gn nv wr => ∃ (nn g c : Nat), gn = fuel D S c ∧ nv = .int .i64 (nn : Int) ∧ nn ≤ c ∧ g ≤ D.size ∧ c ≤ S.length + g ∧ Hid (Row wr w.heap.size 32 [.string ⟨#[]⟩, .int .i64 0, .int .i64 0]) ∧ Hid (Row wr ks 58 (refCells D oa S.length cap g c 0)) ∧ Hid (Row wr ko 32 [.string (D.extract 0 g), .int .i64 0, .int .i64 (c : Int)]) ∧ Hid (runM D S m z (fuel D S c) nn g c = R) ∧ Below w.heap.size w wr)
  case atStart => exact ⟨0, 0, 0, rfl, rfl, by omega, by omega, by omega, H0, H1, by rw [he0]; exact H2, HR, hB0⟩
  case round =>
    clear H0 H1 H2 HR hB0 he0
    obtain ⟨nn, g, c, rfl, rfl, hnc, hg, hcg, H0, H1, H2, HR, hBe⟩ := hrel
    have hf : fuel D S c = fuel D S (c + 1) + 1 := by unfold fuel; omega
    have hRR := HR.out
    rw [hf, runM_succ] at hRR
    have q3 : wr.cell? ⟨ks, 3, none⟩ = some (.int .i64 (c : Int)) := H1.out.cell 3
    have HRD := Lib.hid (refRead_any ks D S oa cap g c 0 m wr H1.out (fun w' h => HCA.out.below (grown_to_below hBe (by omega) h)) hg (by unfold InI; omega) (by omega) (by omega) HEL.out (by omega))
    have hle := sTake_le D S g c 0 m hg
    have hcl := fun h1 h2 => calls_le (D := D) (S := S) hm1 hg hcg h1 h2
    have hpz : (D.extract g (g + sTake D S g c 0 m)).size = sTake D S g c 0 m := by rw [ByteArray.size_extract]; omega
    have hap : D.extract 0 g ++ D.extract g (g + sTake D S g c 0 m) = D.extract 0 (g + sTake D S g c 0 m) := by
      rw [ByteArray.extract_append_extract]; congr 1 <;> omega
    have hsz0 : (D.extract 0 g).size ≤ 100000 := by rw [ByteArray.size_extract]; omega
    have HOI := Lib.hid (sOver_in D S g c 0 m (.inl rfl))
    generalize sTake D S g c 0 m = t at *
    generalize sOver D S g c 0 m = o at *
    have HRR := Lib.hid hRR
    have HAP := Lib.hid hap
    have HCL := Lib.hid hcl
    clear hRR hap hcl HR
    generalize D.extract g (g + t) = part at *
    have hp0 : part.size ≤ 100000 := by omega
    go_wp2_with fail
    refine (HCM.out _).mono ?_
    rintro e w3 ⟨rfl, rfl⟩
    go_wp2_with fail
    refine HRD.out.mono ?_
    rintro e w5 ⟨rfl, hr5, hg5⟩
    have hB5 := grown_to_below hBe (by omega) hg5
    have H05 := Lib.hid (H0.out.grown hg5 (by simp; omega))
    have H25 := Lib.hid (H2.out.grown hg5 (by simp; omega))
    have H15 := Lib.hid hr5
    have p0 : w5.cell? ⟨ko, 0, none⟩ = some (.string (D.extract 0 g)) := H25.out.cell 0
    have p2 : w5.cell? ⟨ko, 2, none⟩ = some (.int .i64 (c : Int)) := H25.out.cell 2
    have f0 := H25.out.frozen 0
    have f2 := H25.out.frozen 2
    have q3 : w5.cell? ⟨ks, 3, none⟩ = some (.int .i64 ((c : Int) + 1)) := hr5.cell 3
    have hne : ks ≠ ko := by omega
    clear hr5 hg5 HRD H0 H1 H2
    go_upto_if 48 with (fail)
    rw [HAP.out]
    have H26 : Hid (Row ((w5.setCell ⟨ko, 0, none⟩ (.string (D.extract 0 (g + t)))).setCell ⟨ko, 2, none⟩ (.int .i64 ((c : Int) + 1))) ko 32 [.string (D.extract 0 (g + t)), .int .i64 0, .int .i64 ((c : Int) + 1)]) := Lib.hid ((H25.out.set 0 _).set 2 _)
    have H06 := Lib.hid ((H05.out.far (p := ⟨ko, 0, none⟩) (by simp; omega) (.string (D.extract 0 (g + t)))).far (p := ⟨ko, 2, none⟩) (by simp; omega) (.int .i64 ((c : Int) + 1)))
    have H16 := Lib.hid ((H15.out.far (p := ⟨ko, 0, none⟩) (by simpa using hne) (.string (D.extract 0 (g + t)))).far (p := ⟨ko, 2, none⟩) (by simpa using hne) (.int .i64 ((c : Int) + 1)))
    have hB6 := (hB5.setCell (p := ⟨ko, 0, none⟩) (by show w.heap.size ≤ ko; omega) (.string (D.extract 0 (g + t)))).setCell (p := ⟨ko, 2, none⟩) (by show w.heap.size ≤ ko; omega) (.int .i64 ((c : Int) + 1))
    clear p0 p2 f0 f2 q3 H25 H05 H15 hB5
    generalize (w5.setCell ⟨ko, 0, none⟩ (.string (D.extract 0 (g + t)))).setCell ⟨ko, 2, none⟩ (.int .i64 ((c : Int) + 1)) = w6 at *
    rcases HOI.out with rfl | rfl | rfl
    · have hc2 := HCL.out (by decide) (by decide)
      by_cases ht : 0 < t
      · have hR2 : Hid (runM D S m z (fuel D S (c + 1)) 0 (g + t) (c + 1) = R) := Lib.hid (by
          have := HRR.out
          rwa [if_neg (by decide), if_neg (by decide), if_pos ht] at this)
        have hne2 : part.toList.isEmpty = false := not_empty (by omega)
        have hne3 : (!part.toList.isEmpty) = true := by rw [hne2]; rfl
        have hne4 : ¬ part.toList = [] := by intro e; rw [e] at hne2; cases hne2
        clear HRR HCL
        go_wp2_with fail
        go_roundg (fuel D S (c + 1))
        case measure => omega
        case rel => exact ⟨0, g + t, c + 1, rfl, rfl, by omega, hle, by omega, H06, H16, H26, hR2, hB6⟩
      · obtain rfl : t = 0 := by omega
        obtain rfl : part = ⟨#[]⟩ := empty_of hpz
        go_wp2_with fail
        refine (HCZ.out _).mono ?_
        rintro e wz ⟨rfl, rfl⟩
        by_cases hst : z < nn + 1
        · have hRe : Hid (R = (g, c + 1, 13)) := Lib.hid (by
            have := HRR.out
            rw [if_neg (by decide), if_neg (by decide), if_neg (by omega), if_pos hst] at this; exact this.symm)
          clear HRR HCL
          have f1 := H26.out.frozen 1
          have p1 : w6.cell? ⟨ko, 1, none⟩ = some (.int .i64 0) := H26.out.cell 1
          have H27 := Lib.hid (H26.out.set 1 (.int .i64 13))
          have H07 := Lib.hid (H06.out.far (p := ⟨ko, 1, none⟩) (by simp; omega) (.int .i64 13))
          have hB7 := hB6.setCell (p := ⟨ko, 1, none⟩) (by show w.heap.size ≤ ko; omega) (.int .i64 13)
          have H27' : Hid (Row (w6.setCell ⟨ko, 1, none⟩ (.int .i64 13)) ko 32 [.string (D.extract 0 (g + 0)), .int .i64 13, .int .i64 ((c : Int) + 1)]) := H27
          clear H27 H26 H06 H16 hB6
          go_upto_region 19 with (fail)
          clear f1 p1
          generalize w6.setCell ⟨ko, 1, none⟩ (.int .i64 13) = w7 at *
          have HI : Hid ((Try.prog.info? 32).map (·.size) = some ([.string (D.extract 0 (g + 0)), .int .i64 13, .int .i64 ((c : Int) + 1)] : List Value).length) := Lib.hid infoFlow
          have HI2 : Hid ((Try.prog.info? 32).map (·.size) = some ([.string (D.extract 0 (g + 0)), .int .i64 13, .int .i64 ((c : Int) + 1)] : List Value).toArray.size) := Lib.hid infoFlow
          have HT := Lib.hid (H07.out.there (o := 0) (n := 3) (by simp))
          have HF := Lib.hid (H07.out.setAll (vs := [.string (D.extract 0 (g + 0)), .int .i64 13, .int .i64 ((c : Int) + 1)]) rfl)
          have hB8 := below_setCells (g := w.heap.size) [.string (D.extract 0 (g + 0)), .int .i64 13, .int .i64 ((c : Int) + 1)] 0 hB7 (Nat.le_refl _)
          refine wp_region_lit ?_
          refine wpList_load_mid rfl 32 (.tmp 10) rfl ko 0 rfl [.string (D.extract 0 (g + 0)), .int .i64 13, .int .i64 ((c : Int) + 1)] _ H27'.out.whole Try.underlying32 rfl HI.out ?_
          refine wpList_store_mid rfl 32 (.tmp 8) (.tmp 64) rfl w.heap.size 0 ([.string (D.extract 0 (g + 0)), .int .i64 13, .int .i64 ((c : Int) + 1)] : List Value).toArray rfl rfl HT.out HI2.out (all_oneCell_toArray (by intro u hu; simp at hu; rcases hu with rfl | rfl | rfl <;> rfl)) ?_
          rw [show ([.string (D.extract 0 (g + 0)), .int .i64 13, .int .i64 ((c : Int) + 1)] : List Value).toArray.toList = [.string (D.extract 0 (g + 0)), .int .i64 13, .int .i64 ((c : Int) + 1)] from rfl]
          generalize w7.setCells w.heap.size 0 [.string (D.extract 0 (g + 0)), .int .i64 13, .int .i64 ((c : Int) + 1)] = w8 at *
          go_wp2_with fail
          exact bodyPost_ret (v := .agg ([.string (D.extract 0 (g + 0)), .int .i64 13, .int .i64 ((c : Int) + 1)] : List Value).toArray) (results_cell Try.results14 _ (ad := ⟨w.heap.size, 0, none⟩) rfl (run_loadVar_mid _ _ 0 _ _ _ HF.out.whole Try.underlying32 rfl HI.out)) rfl ⟨by rw [hRe.out]; rfl, hB8⟩
        · have hR2 : Hid (runM D S m z (fuel D S (c + 1)) (nn + 1) g (c + 1) = R) := Lib.hid (by
            have := HRR.out
            rwa [if_neg (by decide), if_neg (by decide), if_neg (by omega), if_neg hst] at this)
          clear HRR HCL
          go_wp2_with fail
          go_roundg (fuel D S (c + 1))
          case measure => omega
          case rel => exact ⟨nn + 1, g, c + 1, rfl, by go_num, by omega, hg, by omega, H06, H16, H26, hR2, hB6⟩
    · have hRe : Hid (R = (g + t, c + 1, 14)) := Lib.hid (by have := HRR.out; rw [if_pos rfl] at this; exact this.symm)
      clear HRR HCL
      have f1 := H26.out.frozen 1
      have p1 : w6.cell? ⟨ko, 1, none⟩ = some (.int .i64 0) := H26.out.cell 1
      have H27 := Lib.hid (H26.out.set 1 (.int .i64 14))
      have H07 := Lib.hid (H06.out.far (p := ⟨ko, 1, none⟩) (by simp; omega) (.int .i64 14))
      have hB7 := hB6.setCell (p := ⟨ko, 1, none⟩) (by show w.heap.size ≤ ko; omega) (.int .i64 14)
      have H27' : Hid (Row (w6.setCell ⟨ko, 1, none⟩ (.int .i64 14)) ko 32 [.string (D.extract 0 (g + t)), .int .i64 14, .int .i64 ((c : Int) + 1)]) := H27
      clear H27 H26 H06 H16 hB6
      go_upto_region 10 with (fail)
      clear f1 p1
      generalize w6.setCell ⟨ko, 1, none⟩ (.int .i64 14) = w7 at *
      have HI : Hid ((Try.prog.info? 32).map (·.size) = some ([.string (D.extract 0 (g + t)), .int .i64 14, .int .i64 ((c : Int) + 1)] : List Value).length) := Lib.hid infoFlow
      have HI2 : Hid ((Try.prog.info? 32).map (·.size) = some ([.string (D.extract 0 (g + t)), .int .i64 14, .int .i64 ((c : Int) + 1)] : List Value).toArray.size) := Lib.hid infoFlow
      have HT := Lib.hid (H07.out.there (o := 0) (n := 3) (by simp))
      have HF := Lib.hid (H07.out.setAll (vs := [.string (D.extract 0 (g + t)), .int .i64 14, .int .i64 ((c : Int) + 1)]) rfl)
      have hB8 := below_setCells (g := w.heap.size) [.string (D.extract 0 (g + t)), .int .i64 14, .int .i64 ((c : Int) + 1)] 0 hB7 (Nat.le_refl _)
      refine wp_region_lit ?_
      refine wpList_load_mid rfl 32 (.tmp 10) rfl ko 0 rfl [.string (D.extract 0 (g + t)), .int .i64 14, .int .i64 ((c : Int) + 1)] _ H27'.out.whole Try.underlying32 rfl HI.out ?_
      refine wpList_store_mid rfl 32 (.tmp 8) (.tmp 50) rfl w.heap.size 0 ([.string (D.extract 0 (g + t)), .int .i64 14, .int .i64 ((c : Int) + 1)] : List Value).toArray rfl rfl HT.out HI2.out (all_oneCell_toArray (by intro u hu; simp at hu; rcases hu with rfl | rfl | rfl <;> rfl)) ?_
      rw [show ([.string (D.extract 0 (g + t)), .int .i64 14, .int .i64 ((c : Int) + 1)] : List Value).toArray.toList = [.string (D.extract 0 (g + t)), .int .i64 14, .int .i64 ((c : Int) + 1)] from rfl]
      generalize w7.setCells w.heap.size 0 [.string (D.extract 0 (g + t)), .int .i64 14, .int .i64 ((c : Int) + 1)] = w8 at *
      go_wp2_with fail
      exact bodyPost_ret (v := .agg ([.string (D.extract 0 (g + t)), .int .i64 14, .int .i64 ((c : Int) + 1)] : List Value).toArray) (results_cell Try.results14 _ (ad := ⟨w.heap.size, 0, none⟩) rfl (run_loadVar_mid _ _ 0 _ _ _ HF.out.whole Try.underlying32 rfl HI.out)) rfl ⟨by rw [hRe.out]; rfl, hB8⟩
    · have hRe : Hid (R = (g + t, c + 1, 12)) := Lib.hid (by have := HRR.out; rw [if_neg (by decide), if_pos rfl] at this; exact this.symm)
      clear HRR HCL
      have f1 := H26.out.frozen 1
      have p1 : w6.cell? ⟨ko, 1, none⟩ = some (.int .i64 0) := H26.out.cell 1
      have H27 := Lib.hid (H26.out.set 1 (.int .i64 12))
      have H07 := Lib.hid (H06.out.far (p := ⟨ko, 1, none⟩) (by simp; omega) (.int .i64 12))
      have hB7 := hB6.setCell (p := ⟨ko, 1, none⟩) (by show w.heap.size ≤ ko; omega) (.int .i64 12)
      have H27' : Hid (Row (w6.setCell ⟨ko, 1, none⟩ (.int .i64 12)) ko 32 [.string (D.extract 0 (g + t)), .int .i64 12, .int .i64 ((c : Int) + 1)]) := H27
      clear H27 H26 H06 H16 hB6
      go_upto_region 13 with (fail)
      clear f1 p1
      generalize w6.setCell ⟨ko, 1, none⟩ (.int .i64 12) = w7 at *
      have HI : Hid ((Try.prog.info? 32).map (·.size) = some ([.string (D.extract 0 (g + t)), .int .i64 12, .int .i64 ((c : Int) + 1)] : List Value).length) := Lib.hid infoFlow
      have HI2 : Hid ((Try.prog.info? 32).map (·.size) = some ([.string (D.extract 0 (g + t)), .int .i64 12, .int .i64 ((c : Int) + 1)] : List Value).toArray.size) := Lib.hid infoFlow
      have HT := Lib.hid (H07.out.there (o := 0) (n := 3) (by simp))
      have HF := Lib.hid (H07.out.setAll (vs := [.string (D.extract 0 (g + t)), .int .i64 12, .int .i64 ((c : Int) + 1)]) rfl)
      have hB8 := below_setCells (g := w.heap.size) [.string (D.extract 0 (g + t)), .int .i64 12, .int .i64 ((c : Int) + 1)] 0 hB7 (Nat.le_refl _)
      refine wp_region_lit ?_
      refine wpList_load_mid rfl 32 (.tmp 10) rfl ko 0 rfl [.string (D.extract 0 (g + t)), .int .i64 12, .int .i64 ((c : Int) + 1)] _ H27'.out.whole Try.underlying32 rfl HI.out ?_
      refine wpList_store_mid rfl 32 (.tmp 8) (.tmp 54) rfl w.heap.size 0 ([.string (D.extract 0 (g + t)), .int .i64 12, .int .i64 ((c : Int) + 1)] : List Value).toArray rfl rfl HT.out HI2.out (all_oneCell_toArray (by intro u hu; simp at hu; rcases hu with rfl | rfl | rfl <;> rfl)) ?_
      rw [show ([.string (D.extract 0 (g + t)), .int .i64 12, .int .i64 ((c : Int) + 1)] : List Value).toArray.toList = [.string (D.extract 0 (g + t)), .int .i64 12, .int .i64 ((c : Int) + 1)] from rfl]
      generalize w7.setCells w.heap.size 0 [.string (D.extract 0 (g + t)), .int .i64 12, .int .i64 ((c : Int) + 1)] = w8 at *
      go_wp2_with fail
      exact bodyPost_ret (v := .agg ([.string (D.extract 0 (g + t)), .int .i64 12, .int .i64 ((c : Int) + 1)] : List Value).toArray) (results_cell Try.results14 _ (ad := ⟨w.heap.size, 0, none⟩) rfl (run_loadVar_mid _ _ 0 _ _ _ HF.out.whole Try.underlying32 rfl HI.out)) rfl ⟨by rw [hRe.out]; rfl, hB8⟩
end Go.Proofs.Ytlaeoacaihooiaa
