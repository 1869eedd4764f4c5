/- Of every depth and every list of calls (of more than 200 the law asks only for the fixed answers): a copy goes on from what is open, whatever becomes of that. No condition but the form of the row. -/
import Derived.Test.YtlfmcgkkfbhifaaStackAwake
import Derived.Test.YtlfmcgkkfbhifaaStackLaw
import Derived.Test.YtlfmcgkkfbhifaaStackDo
import Derived.Test.YtlfmcgkkfbhifaaRows
import Derived.WalkKit
import Derived.ProofKit
import Derived.OpenShut
import Derived.ShutString
import Derived.ChangeOld
import Derived.Below
import Derived.Carry
namespace Go.Proofs.Ytlfmcgkkfbhifaa
open Go.ChangeShapes Go.WideShapes Go.ChangeAt Go.RowKit
open Go.ChangeMaps (open_string shut_string)
set_option linter.unusedVariables false
set_option maxRecDepth 100000 in
set_option maxHeartbeats 4000000 in
theorem walkStackCopies (a0 : Int) (o1 : Option Addr) (c1 : Nat) (a1 : List (Int × Int)) (b0 : -9223372036854775808 ≤ a0 ∧ a0 ≤ 9223372036854775807) (lc1 : a1.length ≤ c1) (cm1 : c1 ≤ maxLen) (el1 : ∀ x ∈ a1, InI x.1 ∧ InI x.2) (w : World) (ca1 : Came w o1 (pvs a1)) :
    Calls Try.prog 6 #[.int .i64 a0, .slice o1 a1.length c1] w fun e w' => e = .returned (.bool true) ∧ Below w.heap.size w w' := by
  by_cases hin : a1.length ≤ 200
  · have g4 : (a1.length : Int) ≤ 200 := by omega
    have HC := Lib.hid ca1
    have HEL := Lib.hid el1
    obtain ⟨S0, hS0⟩ : ∃ S0, SS.new a0 = S0 := ⟨_, rfl⟩
    have HSS := Lib.hid (runS_succ S0 a1)
    have HS0 : Hid (runS S0 (a1.take 0) = S0) := Lib.hid rfl
    obtain ⟨h, hh⟩ : ∃ h : Nat, a1.length / 2 = h := ⟨_, rfl⟩
    have hhi : (a1.length : Int) / 2 = (h : Int) := by omega
    have hle : h ≤ a1.length := by omega
    have hlc : h ≤ c1 := by omega
    have hlc2 : a1.length ≤ c1 := lc1
    obtain ⟨rr, hrr⟩ : ∃ rr, a1.length - h = rr := ⟨_, rfl⟩
    have hrl : h + rr = a1.length := by omega
    have HOV := Lib.hid (outV_succ S0 a1 h)
    have HOG := Lib.hid (outV_get S0 a1 h rr)
    have HOL := Lib.hid (outV_len S0 a1 h)
    have HO0 : Hid (outV S0 a1 h 0 = []) := Lib.hid rfl
    generalize outV S0 a1 h = OV at *
    by_cases hz : a1.length = 0
    · obtain rfl : a1 = [] := List.eq_nil_of_length_eq_zero hz
      obtain rfl : h = 0 := by simpa using hle
      clear HOV HOG HOL HO0 HSS HS0 hrr hrl hhi hle hz hlc2 hlc hh HC HEL ca1 el1 lc1 g4
      have hc10 : 0 ≤ c1 := Nat.zero_le _
      go_enter Try.func6, Try.ntmps6
      go_wp2_with fail
      refine (stSpec.new_on _ b0 (Below.refl w.heap.size w)).mono ?_
      rintro e w1 ⟨k, F, rfl, h1, _, _⟩
      have H1 := Lib.hid h1
      clear h1
      go_wp2_with fail
      refine (awake08_any _).mono ?_
      rintro e w2 ⟨rfl, hb⟩
      have H2 := Lib.hid (H1.out.step stSpec hb)
      clear hb H1
      go_wp2_with fail
      all_goals
        go_loopw [36] (fun jv wr => jv = .int .i64 0 ∧ Hid (StOn StAt w wr k F (SS.new a0))) (fun _ _ => 0)
        case atStart => exact ⟨rfl, H2⟩
        case round =>
          clear H2
          obtain ⟨rfl, HS⟩ := hrel
          go_wp2_with fail
          refine (stSpec.copy_on HS.out).mono ?_
          rintro e w3 ⟨k', F', rfl, h3, hc3, hd, _, _⟩
          have H3 := Lib.hid h3
          have HC3 := Lib.hid hc3
          clear h3 hc3 hd HS
          go_wp2_with fail
          all_goals
            go_loopw [10, 52] (fun ov iv wr => ov = .slice none 0 0 ∧ iv = .int .i64 0 ∧ Hid (StOn StAt w wr k F (SS.new a0)) ∧ Hid (StOn StAt w wr k' F' (SS.new a0))) (fun _ _ _ => 0)
            case atStart => exact ⟨rfl, rfl, H3, HC3⟩
            case round =>
              clear H3 HC3
              obtain ⟨rfl, rfl, HS, HS2⟩ := hrel
              go_wp2_with fail
              all_goals
                go_loopw [67] (fun iv wr => iv = .int .i64 0 ∧ Hid (StOn StAt w wr k F (SS.new a0)) ∧ Hid (StOn StAt w wr k' F' (SS.new a0))) (fun _ _ => 0)
                case atStart => exact ⟨rfl, HS, HS2⟩
                case round =>
                  clear HS HS2
                  obtain ⟨rfl, HS, HS2⟩ := hrel
                  generalize SS.new a0 = s9 at *
                  go_wp2_with fail
                  refine (stSpec.depth_on HS2.out rfl).mono ?_
                  rintro e w5 ⟨rfl, h5, hb5⟩
                  have H5 := Lib.hid h5
                  have H5b := Lib.hid (HS.out.step stSpec hb5)
                  clear h5 hb5 HS HS2
                  go_wp2_with fail
                  refine (stSpec.depth_on H5b.out rfl).mono ?_
                  rintro e w6 ⟨rfl, h6, hb6⟩
                  have H6 := Lib.hid h6
                  have H6b := Lib.hid (H5.out.step stSpec hb6)
                  clear h6 hb6 H5 H5b
                  go_wp2_with fail
                  refine (stSpec.left_on H6b.out rfl).mono ?_
                  rintro e w7 ⟨rfl, h7, hb7⟩
                  have H7 := Lib.hid h7
                  have H7b := Lib.hid (H6.out.step stSpec hb7)
                  clear h7 hb7 H6 H6b
                  go_wp2_with fail
                  refine (stSpec.left_on H7b.out rfl).mono ?_
                  rintro e w8 ⟨rfl, h8, hb8⟩
                  have hB8 := h8.bel
                  clear h8 hb8 H7 H7b
                  go_wp2
                  go_ret
                  exact ⟨by simp, hB8⟩
    have hne : ¬ c1 = h := by omega
    have hne0 : ¬ c1 = 0 := by omega
    obtain ⟨ad, rfl, _, hcell⟩ := HC.out.first (by rw [pvs_length]; omega)
    clear hcell hrr
    clear ca1 el1 lc1 cm1 hh
    go_enter Try.func6, Try.ntmps6
    go_wp2_with fail
    refine (stSpec.new_on _ b0 (Below.refl w.heap.size w)).mono ?_
    rintro e w1 ⟨k, F, rfl, h1, _, _⟩
    rw [hS0] at h1
    have H1 := Lib.hid h1
    clear h1
    go_wp2_with fail
    refine (awake08_any _).mono ?_
    rintro e w2 ⟨rfl, hb⟩
    have H2 := Lib.hid (H1.out.step stSpec hb)
    clear hb H1
    go_wp2_with fail
    go_loopg [36] a1.length (fun gk jv wr => ∃ j : Nat, jv = .int .i64 (j : Int) ∧ j ≤ h ∧ a1.length - j ≤ gk ∧ Hid (StOn StAt w wr k F (runS S0 (a1.take j))))
    case atStart => exact ⟨0, rfl, by omega, by omega, by rw [HS0.out]; exact H2⟩
    case round =>
      obtain ⟨j, rfl, hj, hgk, HS⟩ := hrel
      clear H2
      by_cases hlt : j < h
      · have hlt2 : (j : Int) < (h : Int) := by omega
        obtain ⟨_, ho, _, hcell⟩ := (HC.out.below HS.out.bel).first (by rw [pvs_length]; omega)
        cases ho
        have hp := HEL.out (a1[j]'(by omega)) (List.getElem_mem (by omega))
        have hst := HSS.out (j) (by omega)
        obtain ⟨hc0, hc1⟩ := act_cells0 hcell j (by omega)
        clear hcell
        generalize a1[j]'(by omega) = act at *
        obtain ⟨kd, n⟩ := act
        obtain ⟨hp0, hp1⟩ := hp
        have HST := Lib.hid hst
        have hc0 : wr.cell? (ad.add (j * 2)) = some (.int .i64 kd) := hc0
        have hc1 : wr.cell? ⟨(ad.add (j * 2)).block, (ad.add (j * 2)).off + 1, none⟩ = some (.int .i64 n) := hc1
        have hp0 : InI kd := hp0
        have hp1 : InI n := hp1
        clear hst
        have HD := Lib.hid (do_any (HS.out.step stSpec ((Below.refl wr.heap.size wr).alloc (Nat.le_refl _) (.cells #[.int .i64 kd, .int .i64 n] 29))) kd n hp1)
        go_wp2_with fail
        refine (HD.out).mono ?_
        rintro e w3 ⟨rfl, h3, _⟩
        have H3 : Hid (StOn StAt w w3 k F (runS S0 (a1.take (j + 1)))) := Lib.hid (by rw [HST.out]; exact h3)
        clear h3 HD HS hc0 hc1 HST
        go_wp2
        go_roundg (a1.length - (j + 1))
        case measure => omega
        case rel => exact ⟨j + 1, by simp, by omega, by omega, H3⟩
      · have HS1 : Hid (StOn StAt w wr k F (runS S0 (a1.take h))) := by rw [show h = j by omega]; exact HS
        have hlt2 : ¬ (j : Int) < (h : Int) := by omega
        clear HS
        go_wp2_with fail
        refine (stSpec.copy_on HS1.out).mono ?_
        rintro e w3 ⟨k', F', rfl, h3, hc3, hd, _, _⟩
        have H3 := Lib.hid h3
        have HC3 := Lib.hid hc3
        have HD := Lib.hid hd
        have hbase : w3.heap.size = w3.heap.size := rfl
        clear h3 hc3 hd HS1 hlt hlt2 hj hgk
        obtain ⟨base, hbase⟩ : ∃ base, w3.heap.size = base := ⟨_, rfl⟩
        have HF : Hid (∀ i, F i → ¬ base ≤ i) := Lib.hid (fun i f => by have := stSpec.lt H3.out.at_ i f; omega)
        have HF' : Hid (∀ i, F' i → ¬ base ≤ i) := Lib.hid (fun i f => by have := stSpec.lt HC3.out.at_ i f; omega)
        have hwb : w.heap.size ≤ base := by have := H3.out.bel.size; omega
        have HWB : Hid (∀ i, base ≤ i → w.heap.size ≤ i) := Lib.hid (fun i h => by omega)
        go_wp2_with fail
        go_loopg [10, 52] a1.length (fun gk ov iv wr => ∃ i : Nat, iv = .int .i64 (i : Int) ∧ i ≤ rr ∧ a1.length - i ≤ gk ∧ Hid (wr.ownsRow base 3 1 ov i (i64s (OV i))) ∧ base ≤ wr.heap.size ∧ Hid (StOn StAt w wr k F (runS S0 (a1.take (h + i)))) ∧ Hid (StOn StAt w wr k' F' (runS S0 (a1.take h))))
        case atStart => exact ⟨0, rfl, by omega, by omega, Lib.hid (by rw [HO0.out]; exact World.ownsRow_nil _ _ _ _), by omega, H3, HC3⟩
        case round =>
          obtain ⟨i, rfl, hi, hgk, HO, hbs, HS, HS2⟩ := hrel
          clear H3 HC3
          by_cases hlt : i < rr
          · have hlt2 : (i : Int) < (a1.length : Int) - (h : Int) := by omega
            obtain ⟨_, ho, _, hcell⟩ := (HC.out.below HS.out.bel).first (by rw [pvs_length]; omega)
            cases ho
            have hp := HEL.out (a1[h + i]'(by omega)) (List.getElem_mem (by omega))
            have hst := HSS.out (h + i) (by omega)
            obtain ⟨hc0, hc1⟩ := act_cells hcell h i (by omega)
            clear hcell
            have hov := HOV.out i (by omega)
            generalize a1[h + i]'(by omega) = act at *
            obtain ⟨kd, n⟩ := act
            obtain ⟨hp0, hp1⟩ := hp
            have HST := Lib.hid hst
            have hc0 : wr.cell? ((ad.add (h * 2)).add (i * 2)) = some (.int .i64 kd) := hc0
            have hc1 : wr.cell? ⟨((ad.add (h * 2)).add (i * 2)).block, ((ad.add (h * 2)).add (i * 2)).off + 1, none⟩ = some (.int .i64 n) := hc1
            have hp0 : InI kd := hp0
            have hp1 : InI n := hp1
            clear hst
            have HOV1 := Lib.hid hov
            clear hov
            have HD1 := Lib.hid (do_any (HS.out.step stSpec ((Below.refl wr.heap.size wr).alloc (Nat.le_refl _) (.cells #[.int .i64 kd, .int .i64 n] 29))) kd n hp1)
            have HOa := Lib.hid (HO.out.alloc (.cells #[.int .i64 kd, .int .i64 n] 29))
            have HS2a := Lib.hid (HS2.out.step stSpec ((Below.refl wr.heap.size wr).alloc (Nat.le_refl _) (.cells #[.int .i64 kd, .int .i64 n] 29)))
            clear HS HO HS2
            go_wp2_with fail
            refine (HD1.out).mono ?_
            rintro e w5 ⟨rfl, h5, hch5⟩
            have H5 := Lib.hid h5
            have HS5 := Lib.hid (HS2a.out.beside hch5 (fun i f g => HD.out i g f) h5.own)
            have HO5 := Lib.hid (own_chg HOa.out hch5 (fun i f => by have := HF.out i f; omega))
            have hbs5 : base ≤ w5.heap.size := Nat.le_trans hbs (Nat.le_trans (by simp) hch5.size)
            clear h5 hch5 HD1 HOa HS2a hc0 hc1
            go_wp2_with (at_builtin; refine wpList_append_int_own rfl (.tmp 56) (.tmp 60) rfl base (l := OV i) rfl (by rw [HOL.out]; exact HO5.out.alloc _) (by simp; omega) w5.heap.size 1 (doV (runS S0 (a1.take (h + i))) (kd, n)) rfl (by simp) (by rw [HOL.out]; omega) ?_)
            intro v' w6 ho6 hch6
            rw [HOL.out, ← HOV1.out] at ho6
            have HO6 := Lib.hid ho6
            have HCA := Lib.hid ((Chg.of_below (F := fun i => base ≤ i) ((Below.refl w5.heap.size w5).alloc (Nat.le_refl _) (.cells #[.int .i64 (doV (runS S0 (a1.take (h + i))) (kd, n))] 3))).trans hch6 (fun i f => .inl f))
            have H6 : Hid (StOn StAt w w6 k F (runS S0 (a1.take (h + (i + 1))))) := Lib.hid (by rw [← Nat.add_assoc, HST.out]; exact H5.out.beside HCA.out HF.out HWB.out)
            have HS6 := Lib.hid (HS5.out.beside HCA.out HF'.out HWB.out)
            have hbs6 : base ≤ w6.heap.size := Nat.le_trans hbs5 HCA.out.size
            clear ho6 hch6 H5 HS5 HO5 HCA HOV1 HST
            go_wp2
            go_roundg (a1.length - (i + 1))
            case measure => omega
            case rel => exact ⟨i + 1, by simp, by omega, by omega, HO6, hbs6, H6, HS6⟩
          · have hir : i = rr := by omega
            have hlt2 : ¬ (i : Int) < (a1.length : Int) - (h : Int) := by omega
            have HS1 : Hid (StOn StAt w wr k F (runS S0 (a1.take (h + rr)))) := by rw [← hir]; exact HS
            have HO1 : Hid (wr.ownsRow base 3 1 u10 rr (i64s (OV rr))) := by rw [← hir]; exact HO
            clear HS HO hi hgk hir HOV HO0
            go_wp2_with fail
            clear hlt hlt2
            go_loopg [67] a1.length (fun gk iv wr => ∃ i : Nat, iv = .int .i64 (i : Int) ∧ i ≤ rr ∧ a1.length - i ≤ gk ∧ Hid (wr.ownsRow base 3 1 u10 rr (i64s (OV rr))) ∧ base ≤ wr.heap.size ∧ Hid (StOn StAt w wr k F (runS S0 (a1.take (h + rr)))) ∧ Hid (StOn StAt w wr k' F' (runS S0 (a1.take (h + i)))))
            case atStart => exact ⟨0, rfl, by omega, by omega, HO1, hbs, HS1, HS2⟩
            case round =>
              clear HO1 hbs HS1 HS2
              obtain ⟨i, rfl, hi, hgk, HO, hbs, HS, HS2⟩ := hrel
              by_cases hlt : i < rr
              · have hlt2 : (i : Int) < (a1.length : Int) - (h : Int) := by omega
                obtain ⟨g, c, rfl, hgc, hcm, hbg, hglt⟩ : ∃ g c, u10 = .slice (some ⟨g, 0, none⟩) rr c ∧ rr ≤ c ∧ c ≤ maxLen ∧ base ≤ g ∧ g < wr.heap.size := by
                  rcases own_shape HO.out with ⟨_, hh⟩ | hh
                  · omega
                  · exact hh
                obtain ⟨_, ho, _, hcell⟩ := (HC.out.below HS.out.bel).first (by rw [pvs_length]; omega)
                cases ho
                have hp := HEL.out (a1[h + i]'(by omega)) (List.getElem_mem (by omega))
                have hst := HSS.out (h + i) (by omega)
                obtain ⟨hc0, hc1⟩ := act_cells hcell h i (by omega)
                clear hcell
                have hog := HOG.out i (by omega) (by omega)
                generalize a1[h + i]'(by omega) = act at *
                obtain ⟨kd, n⟩ := act
                obtain ⟨hp0, hp1⟩ := hp
                have HST := Lib.hid hst
                have hc0 : wr.cell? ((ad.add (h * 2)).add (i * 2)) = some (.int .i64 kd) := hc0
                have hc1 : wr.cell? ⟨((ad.add (h * 2)).add (i * 2)).block, ((ad.add (h * 2)).add (i * 2)).off + 1, none⟩ = some (.int .i64 n) := hc1
                have hp0 : InI kd := hp0
                have hp1 : InI n := hp1
                clear hst
                have HOG1 := Lib.hid hog
                clear hog
                obtain ⟨V, hV⟩ : ∃ V, doV (runS S0 (a1.take (h + i))) (kd, n) = V := ⟨_, rfl⟩
                rw [hV] at HOG1
                have hlc3 : i < c := by omega
                have hlti : (i : Int) < (rr : Int) := by omega
                go_wp2_with fail
                have HSa := Lib.hid (HS.out.step stSpec ((Below.refl wr.heap.size wr).alloc (Nat.le_refl _) (.cells #[.int .i64 kd, .int .i64 n] 29)))
                have HS2a := Lib.hid (HS2.out.step stSpec ((Below.refl wr.heap.size wr).alloc (Nat.le_refl _) (.cells #[.int .i64 kd, .int .i64 n] 29)))
                have HOa := Lib.hid (HO.out.alloc (.cells #[.int .i64 kd, .int .i64 n] 29))
                have HKa := Lib.hid (Row.new wr 29 [.int .i64 kd, .int .i64 n])
                have hW : wr.alloc (.cells [.int .i64 kd, .int .i64 n].toArray 29) = wr.alloc (.cells #[.int .i64 kd, .int .i64 n] 29) := rfl
                rw [hW] at HKa
                have hbsa : base ≤ (wr.alloc (.cells #[.int .i64 kd, .int .i64 n] 29)).heap.size := by simp; omega
                clear hW HS HS2 HO hc0 hc1
                generalize wr.alloc (.cells #[.int .i64 kd, .int .i64 n] 29) = W at *
                generalize hkb : wr.heap.size = kb at *
                have q0 : W.cell? ⟨kb, 0, none⟩ = some (.int .i64 kd) := HKa.out.cell 0
                have q1 : W.cell? ⟨kb, 1, none⟩ = some (.int .i64 n) := HKa.out.cell 1
                have q2 : W.cell? ⟨g, i, none⟩ = some (.int .i64 V) := by rw [HOa.out.cellAt i (by omega)]; exact HOG1.out
                have hdr : Below W.heap.size W W.drew := draws_below W 1
                have HD1 := Lib.hid (do_any (HS2a.out.step stSpec hdr) kd n hp1)
                rw [hV] at HD1
                have HKd := Lib.hid (show Row W.drew kb 29 [.int .i64 kd, .int .i64 n] from HKa.out)
                have HOd := Lib.hid HOa.out.drew
                have HSd := Lib.hid (HSa.out.step stSpec hdr)
                clear hdr
                have HFk : Hid (¬ F' kb) := Lib.hid (fun f => HF'.out kb f hbs)
                have HDr : Hid (∀ i, F i → ¬ F' i) := HD
                clear HSa HS2a HKa HOa hV hkb
                go_region_held3 (fun w' => w'.cell? ⟨kb, 0, none⟩ = some (.int .i64 kd) ∧ w'.cell? ⟨kb, 1, none⟩ = some (.int .i64 n) ∧ w'.cell? ⟨g, i, none⟩ = some (.int .i64 V)) (first | exact ⟨y0, y1, y2⟩ | exact ⟨q0, q1, q2⟩) (first
                  | (go_at_call 21; with_reducible refine (HD1.out).mono ?_; rintro e w5 ⟨rfl, h5, hch5⟩
                     have HK5 := Lib.hid (HKd.out.chg hch5 HFk.out)
                     have y0 : w5.cell? ⟨kb, 0, none⟩ = some (.int .i64 kd) := HK5.out.cell 0
                     have y1 : w5.cell? ⟨kb, 1, none⟩ = some (.int .i64 n) := HK5.out.cell 1
                     have HO5 := Lib.hid (own_chg HOd.out hch5 (fun i f => by have := HF'.out i f; omega))
                     have y2 : w5.cell? ⟨g, i, none⟩ = some (.int .i64 V) := by rw [HO5.out.cellAt i (by omega)]; exact HOG1.out
                     have HS5 := Lib.hid (HSd.out.beside hch5 HDr.out h5.own)
                     have H5 := Lib.hid h5
                     have hbs5 : base ≤ w5.heap.size := Nat.le_trans hbsa hch5.size
                     clear h5 hch5 HD1 HKd HOd HSd))
                all_goals
                  have H6 : Hid (StOn StAt w w5 k' F' (runS S0 (a1.take (h + (i + 1))))) := Lib.hid (by rw [← Nat.add_assoc, HST.out]; exact H5.out)
                  clear H5 q0 q1 q2 y0 y1 y2 HK5 HST HFk
                  go_wp2
                  go_roundg (a1.length - (i + 1))
                  case measure => omega
                  case rel => exact ⟨i + 1, by simp, by omega, by omega, HO5, hbs5, HS5, H6⟩
              · have hir : i = rr := by omega
                have hlt2 : ¬ (i : Int) < (a1.length : Int) - (h : Int) := by omega
                have HS2' : Hid (StOn StAt w wr k' F' (runS S0 (a1.take (h + rr)))) := by rw [← hir]; exact HS2
                clear HS2 hi hgk hir HO
                generalize runS S0 (a1.take (h + rr)) = s9 at *
                go_wp2_with fail
                refine (stSpec.depth_on HS2'.out rfl).mono ?_
                rintro e w5 ⟨rfl, h5, hb5⟩
                have H5 := Lib.hid h5
                have H5b := Lib.hid (HS.out.step stSpec hb5)
                clear h5 hb5 HS HS2'
                go_wp2_with fail
                refine (stSpec.depth_on H5b.out rfl).mono ?_
                rintro e w6 ⟨rfl, h6, hb6⟩
                have H6 := Lib.hid h6
                have H6b := Lib.hid (H5.out.step stSpec hb6)
                clear h6 hb6 H5 H5b
                go_wp2_with fail
                refine (stSpec.left_on H6b.out rfl).mono ?_
                rintro e w7 ⟨rfl, h7, hb7⟩
                have H7 := Lib.hid h7
                have H7b := Lib.hid (H6.out.step stSpec hb7)
                clear h7 hb7 H6 H6b
                go_wp2_with fail
                refine (stSpec.left_on H7b.out rfl).mono ?_
                rintro e w8 ⟨rfl, h8, hb8⟩
                have hB8 := h8.bel
                clear h8 hb8 H7 H7b
                go_wp2
                go_ret
                exact ⟨by simp, hB8⟩
  · have hw : (200 : Int) < a1.length := by omega
    clear hin el1 ca1
    go_enter Try.func6, Try.ntmps6
    go_wp2_with fail
    refine (stSpec.new_on _ b0 (Below.refl w.heap.size w)).mono ?_
    rintro e w1 ⟨k, F, rfl, h1, _, _⟩
    have H1 := Lib.hid h1
    clear h1
    go_wp2_with fail
    refine (awake08_any _).mono ?_
    rintro e w2 ⟨rfl, hb⟩
    have H2 := Lib.hid (H1.out.step stSpec hb)
    clear hb H1
    go_wp2_with fail
    refine (awake08_any _).mono ?_
    rintro e w3 ⟨rfl, hb⟩
    have H3 := Lib.hid (H2.out.step stSpec hb)
    go_wp2
    go_returns
    exact ⟨rfl, H3.out.bel⟩


/-! ### StackCopies: the step from the walk to the statement -/
namespace stackCopies
theorem own : ownKnob Try.prog.godebug = none := by kernel_rfl
theorem laidOut : laidOutB Try.prog = true := by kernel_rfl
set_option maxRecDepth 100000 in
theorem lifted (os : Os) (started : os.Started) (H : Type) (enc : TypeId × Value → H) :
    ReturnsInHanded {} Try.checked os 6 .any (Rows.stackCopiesSpec.pre6 enc Try.prog Try.f6 Rows.stackCopiesRow.domain false) (Rows.stackCopiesSpec.post enc Try.prog Try.f6 false true false false) := by
  refine returnsInHanded_of_change (C := Try.checked) own started (by kernel_rfl) Try.func6
    (ChangeSpec.witness6 (enc := enc) (C := Try.checked) false ⟨#[], #[.int .i64 0, .slice none 0 0], []⟩ 8 (by kernel_rfl) (by kernel_rfl) (by kernel_rfl) (by kernel_rfl)) ?_
  intro W base args ds gs before hval0 hW hcnd _
  have hval : ∀ (j : Nat) t v, Try.f6.params[j]? = some t → args[j]? = some v → Value.okWide Try.prog W .any base t v := hval0
  have hW' := hW
  obtain ⟨p, q, hA0, hV, rfl, hfz, hnd⟩ := hW
  have hA : DataW.TrodAll enc Try.prog W 0 (fun _ => true) true Try.f6.params.toList args.toList ds p := hA0
  rw [Try.params6] at hA hval
  obtain ⟨v0, vs0, d0, ds0, p0, q0, hargs, rfl, rfl, h0, r0⟩ := trodAll_cons hA
  obtain ⟨v1, vs1, d1, ds1, p1, q1, rfl, rfl, rfl, h1, r1⟩ := trodAll_cons r0
  obtain ⟨rfl, rfl, rfl⟩ := trodAll_nil r1
  obtain rfl : args = #[v0, v1] := by cases args; simp_all
  obtain ⟨rfl, rfl⟩ := trodVars_none hV
  obtain ⟨a0, rfl, rfl, rfl, w0⟩ := open_int Try.underlying3 (hval 0 3 v0 rfl rfl) h0
  obtain ⟨o1, len1, c1, rfl⟩ := okWide_slice Try.underlying22 (hval 1 22 v1 rfl rfl)
  have k1 := h1
  have lt1 : ∀ x ∈ p1, x.block < W.heap.size := by obtain ⟨m, hm⟩ := k1; exact DataW.trod_lt m _ _ _ hm
  obtain ⟨a1, rfl, lc1, cm1, ca1, el1⟩ := (came_pairs Try.underlying22 Try.underlying29 (by kernel_rfl) rfl rfl (by kernel_rfl) (by kernel_rfl) Try.underlying3 Try.underlying3 h1)
  clear hA0 hval0
  refine (walkStackCopies a0 o1 c1 a1 (bounds_i64 w0) lc1 cm1 el1 W ca1).mono fun e W' ⟨he, bel⟩ => ?_
  subst he
  exact ⟨_, rfl, _, _, _, [], _, [], hW', trodAll_mk1 (shut_bool Try.underlying4 _), (trodAll_cons_mk (shut_int Try.underlying3 w0) (trodAll_cons_mk (Below.trod laidOut (by kernel_rfl) (of_decide_eq_true (by kernel_rfl)) k1 bel lt1) trodAll_mk0)), rfl, bel.frame _, fun h => by cases h⟩
theorem over : Rows.stackCopiesRow.holds Try.pinned (OpenSpec.ofChange Rows.stackCopiesSpec) :=
  OpenClaim.holds_of_wide 6 Try.f6 rfl rfl rfl rfl rfl rfl rfl ⟨rfl, rfl, rfl, rfl, rfl⟩ rfl rfl rfl rfl rfl (by kernel_rfl) Try.func6 (by kernel_rfl)
    (of_decide_eq_true (by kernel_rfl)) (by unfold Func.isWrapper; first | (rw [if_pos (by decide +kernel)]; kernel_rfl) | (rw [if_neg (by decide +kernel)]; exact ⟨rfl, rfl⟩))
    (fun os started H enc _ => lifted os started H enc)
/-- THE STATEMENT. -/
theorem proved : Rows.StackCopiesSaid := over
end stackCopies
end Go.Proofs.Ytlfmcgkkfbhifaa
