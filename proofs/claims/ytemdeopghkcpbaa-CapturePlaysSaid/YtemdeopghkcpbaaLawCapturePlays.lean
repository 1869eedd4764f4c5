/- Of every number and list of calls (of more than 200 the law asks only for the fixed answers; a text of more than 300 bytes ends it): just the bytes are kept that the reference keeps, and it is told alike. No condition but the form of the row. -/
import Derived.Test.YtemdeopghkcpbaaCapRef
import Derived.Test.YtemdeopghkcpbaaCameKsb
import Derived.Test.YtemdeopghkcpbaaRows
import Derived.WalkKit
import Derived.ProofKit
import Derived.OpenShut
import Derived.ShutString
import Derived.ChangeOld
import Derived.Below
import Derived.Carry
namespace Go.Proofs.Ytemdeopghkcpbaa
open Go.ChangeShapes Go.WideShapes Go.ChangeAt Go.RowKit
open Go.ChangeMaps (open_string shut_string)
set_option linter.unusedVariables false
open Go.PlainAid in
set_option maxRecDepth 100000 in
set_option maxHeartbeats 8000000 in
theorem walkCapturePlays (a0 : Int) (o1 : Option Addr) (c1 : Nat) (a1 : List (Int × ByteArray × Int)) (b0 : -9223372036854775808 ≤ a0 ∧ a0 ≤ 9223372036854775807) (lc1 : a1.length ≤ c1) (cm1 : c1 ≤ maxLen) (el1 : ∀ x ∈ a1, InI x.1 ∧ x.2.1.size ≤ maxLen ∧ (0 ≤ x.2.2 ∧ x.2.2 ≤ 255)) (w : World) (ca1 : Came w o1 (ksb a1)) :
    Calls Try.prog 3 #[.int .i64 a0, .slice o1 a1.length c1] w fun e w' => e = .returned (.bool true) ∧ Below w.heap.size w w' := by
  by_cases hin : a1.length ≤ 200
  · have g4 : (a1.length : Int) ≤ 200 := by omega
    have HC := Lib.hid ca1
    have HEL := Lib.hid el1
    clear ca1 el1 lc1 cm1
    go_enter Try.func3, Try.ntmps3
    go_wp2_with fail
    refine (awake17_any _).mono ?_
    rintro e w1 ⟨rfl, hB1⟩
    go_wp2_with fail
    refine (capSpec.new_on a0 b0 hB1).mono ?_
    rintro e w2 ⟨k, F, rfl, h2, _, _⟩
    have H2 := Lib.hid h2
    clear h2 hB1
    go_wp2_with fail
    refine (KRef.newR H2.out a0 b0).mono ?_
    rintro e w3 ⟨g, rfl, h3⟩
    have HP0 := Lib.hid h3
    clear h3 H2
    generalize KM.new a0 = c0 at *
    go_wp2_with fail
    go_loopg [26] a1.length (fun gk jv wr => ∃ (j : Nat) (F : Nat → Prop) (c : KM), jv = .int .i64 (j : Int) ∧ j ≤ a1.length ∧ a1.length - j ≤ gk ∧ Hid (KRef w wr k F c g c))
    case atStart => exact ⟨0, F, c0, rfl, by omega, by omega, HP0⟩
    case round =>
      clear HP0
      obtain ⟨j, F, c, rfl, hj, hgk, HP⟩ := hrel
      by_cases hlt : j < a1.length
      · have hlt2 : (j : Int) < (a1.length : Int) := by omega
        obtain ⟨ad, ho, _, hcell⟩ := (HC.out.below HP.out.x.bel).first (by rw [ksb_length]; omega)
        subst ho
        have hp := HEL.out a1[j] (List.getElem_mem hlt)
        have hg2 := ksb_get hlt
        have hc0 := hcell (3 * j) (.int .i64 a1[j].1) hg2.1
        have hc1 := hcell (3 * j + 1) (.string a1[j].2.1) hg2.2.1
        have hc2 := hcell (3 * j + 2) (.int .u8 a1[j].2.2) hg2.2.2
        generalize a1[j] = act at *
        obtain ⟨kd, t, b⟩ := act
        have hp : InI kd ∧ t.size ≤ maxLen ∧ (0 ≤ b ∧ b ≤ 255) := hp
        have hc0 : wr.cell? (ad.add (j * 3)) = some (.int .i64 kd) := by rw [Nat.mul_comm]; exact hc0
        have hc1 : wr.cell? ⟨(ad.add (j * 3)).block, (ad.add (j * 3)).off + 1, none⟩ = some (.string t) := by rw [← add_of3 ad j 0]; exact hc1
        have hc2 : wr.cell? ⟨(ad.add (j * 3)).block, (ad.add (j * 3)).off + 2, none⟩ = some (.int .u8 b) := by rw [← add_of3 ad j 1]; exact hc2
        obtain ⟨hp0, hp1, hp2⟩ := hp
        have ht9 : (t.size : Int) ≤ 9223372036854775807 := by unfold maxLen at hp1; omega
        clear hcell hg2 hp1
        by_cases hts : (t.size : Int) ≤ 300
        · have ht3 : t.size ≤ 100000 := by omega
          by_cases c1 : kd = 1
          · subst c1
            go_wp2_with fail
            have HKN := Lib.hid (HP.out.aside (Nat.le_refl _))
            have HPW := Lib.hid (HP.out.below ((Below.refl wr.heap.size wr).alloc (Nat.le_refl _) (.cells #[.int .i64 1, .string t, .int .u8 b] 29)))
            have HKW := Lib.hid (Row.new wr 29 [.int .i64 1, .string t, .int .u8 b])
            have hW : wr.alloc (.cells [.int .i64 1, .string t, .int .u8 b].toArray 29) = wr.alloc (.cells #[.int .i64 1, .string t, .int .u8 b] 29) := rfl
            rw [hW] at HKW
            clear hW HP hc0 hc1 hc2
            generalize wr.alloc (.cells #[.int .i64 1, .string t, .int .u8 b] 29) = W at *
            generalize wr.heap.size = kb at *
            have q1 : W.cell? ⟨kb, 1, none⟩ = some (.string t) := HKW.out.cell 1
            have q0 : W.cell? ⟨kb, 0, none⟩ = some (.int .i64 1) := HKW.out.cell 0
            go_wp2_with fail
            clear q1 q0
            have qn : W.cell? ⟨kb, 1, none⟩ = some (.string t) := HKW.out.cell 1
            have HKD := Lib.hid (show Row W.drew kb 29 [.int .i64 1, .string t, .int .u8 b] from HKW.out)
            have HPD := Lib.hid (HPW.out.below (Below.refl _ _).drew)
            have HC1 := Lib.hid (HPD.out.beginX t ht3)
            have HR1 := Lib.hid (HPD.out.beginR t ht3)
            clear HKW HPW HPD
            go_region_held3 (fun w' => w'.cell? ⟨kb, 1, none⟩ = some (.string t)) (first | exact y1 | exact x1 | exact qn) (first
              | (go_at_call 10; with_reducible refine (HC1.out).mono ?_; rintro e w5 ⟨F5, rfl, hp5, hch5⟩
                 have HK5 := Lib.hid (HKD.out.chg hch5 HKN.out.1)
                 have x1 : w5.cell? ⟨kb, 1, none⟩ = some (.string t) := HK5.out.cell 1
                 have HR2 := Lib.hid (hp5.beginR t ht3)
                 clear hp5 hch5 HC1 HR1)
              | (go_at_call 11; with_reducible refine (HR1.out).mono ?_; rintro e w5 ⟨rfl, hp5, hch5⟩
                 have HK5 := Lib.hid (HKD.out.chg hch5 HKN.out.2)
                 have x1 : w5.cell? ⟨kb, 1, none⟩ = some (.string t) := HK5.out.cell 1
                 have HC2 := Lib.hid (hp5.beginX t ht3)
                 clear hp5 hch5 HC1 HR1)
              | (go_at_call 11; with_reducible refine (HR2.out).mono ?_; rintro e w6 ⟨rfl, hp6, hch6⟩
                 have y1 : w6.cell? ⟨kb, 1, none⟩ = some (.string t) := (HK5.out.chg hch6 HKN.out.2).cell 1
                 have HPX : Hid (∃ F, KRef w w6 k F (c.begin (bl t)) g (c.begin (bl t))) := Lib.hid ⟨_, hp6⟩
                 clear hp6 hch6 HR2)
              | (go_at_call 10; with_reducible refine (HC2.out).mono ?_; rintro e w6 ⟨F6, rfl, hp6, hch6⟩
                 have y1 : w6.cell? ⟨kb, 1, none⟩ = some (.string t) := (HK5.out.chg hch6 HKN.out.1).cell 1
                 have HPX : Hid (∃ F, KRef w w6 k F (c.begin (bl t)) g (c.begin (bl t))) := Lib.hid ⟨_, hp6⟩
                 clear hp6 hch6 HC2))
            all_goals
              clear qn x1 y1 HK5 HKD HKN
              obtain ⟨F6, hpp⟩ := HPX.out
              have HP6 := Lib.hid hpp
              clear hpp HPX
              have hee : (c.beginE (bl t) == c.beginE (bl t)) = true := by simp
              generalize c.beginE (bl t) = er at *
              generalize c.begin (bl t) = c6 at *
              obtain ⟨M6, kept6, on6⟩ := c6
              have hcs := HP6.out.cells
              obtain ⟨r0, r1, r2, _⟩ := hcs
              have hs6 : (strOfNums kept6).size = kept6.length := strOfNums_size kept6
              have hlen6 : kept6.length ≤ 65536 := Nat.le_trans (show kept6.length ≤ M6 from HP6.out.ok.len) (show M6 ≤ 65536 from HP6.out.ok.most)
              have HQ1 := Lib.hid (fun n => capSpec.on_on (HP6.out.drewN n).x rfl)
              have HQ2 := Lib.hid (fun n => capSpec.text_on (HP6.out.drewN n).x rfl)
              have HQ3 := Lib.hid (fun n => capSpec.room_on (HP6.out.drewN n).x (r := (M6 : Int) - (kept6.length : Int)) rfl)
              replace r0 : w6.cell? ⟨g, 0, none⟩ = some (.int .i64 (M6 : Int)) := r0
              replace r1 : w6.cell? ⟨g, 1, none⟩ = some (.string (strOfNums kept6)) := r1
              replace r2 : w6.cell? ⟨g, 2, none⟩ = some (.bool on6) := r2
              replace HQ1 : Hid (∀ n, Calls Try.prog 15 #[.pointer (some ⟨k, 0, none⟩)] (w6.drewN n) fun r w' => r = .returned (.bool on6) ∧ ∃ q, w' = (w6.drewN n).drewN q) := HQ1
              replace HQ2 : Hid (∀ n, Calls Try.prog 16 #[.pointer (some ⟨k, 0, none⟩)] (w6.drewN n) fun r w' => r = .returned (.string (strOfNums kept6)) ∧ ∃ q, w' = (w6.drewN n).drewN q) := HQ2
              have HM6 : Hid ((M6 : Int) ≤ 65536) := Lib.hid (by have := HP6.out.ok.most; show (M6 : Int) ≤ 65536; replace this : M6 ≤ 65536 := this; omega)
              have hM6 := HM6.out
              obtain ⟨s6, hs⟩ : ∃ s6, strOfNums kept6 = s6 := ⟨_, rfl⟩
              rw [hs] at r1 HQ2 hs6
              clear hs
              have hl6 : (kept6.length : Int) = (s6.size : Int) := by omega
              rw [hl6] at HQ3
              have hs65 : s6.size ≤ 65536 := by omega
              have hse : (s6.toList == s6.toList) = true := by simp
              have hon : (on6 != on6) = false := by simp
              have hrm : (((M6 : Int) - (s6.size : Int)) != ((M6 : Int) - (s6.size : Int))) = false := by generalize (M6 : Int) - (s6.size : Int) = z; simp
              have HPk := Lib.hid (fun n => (HP6.out.drewN n))
              clear HP6 hl6 hs6 hlen6 HM6
              go_wp2_with fail
              go_quiet (first | (go_at_call 15; exact Calls.quiet_of (HQ1.out _)) | (go_at_call 16; exact Calls.quiet_of (HQ2.out _)) | (go_at_call 17; exact Calls.quiet_of (HQ3.out _)))
              go_wp2_with fail
              go_roundg (a1.length - (j + 1))
              case measure => omega
              case rel => exact ⟨j + 1, F6, ⟨M6, kept6, on6⟩, by simp, by omega, by omega, Lib.hid (HPk.out nq)⟩
          · by_cases c2 : kd = 2
            · subst c2
              clear c1
              go_wp2_with fail
              have HKN := Lib.hid (HP.out.aside (Nat.le_refl _))
              have HPW := Lib.hid (HP.out.below ((Below.refl wr.heap.size wr).alloc (Nat.le_refl _) (.cells #[.int .i64 2, .string t, .int .u8 b] 29)))
              have HKW := Lib.hid (Row.new wr 29 [.int .i64 2, .string t, .int .u8 b])
              have hW : wr.alloc (.cells [.int .i64 2, .string t, .int .u8 b].toArray 29) = wr.alloc (.cells #[.int .i64 2, .string t, .int .u8 b] 29) := rfl
              rw [hW] at HKW
              clear hW HP hc0 hc1 hc2
              generalize wr.alloc (.cells #[.int .i64 2, .string t, .int .u8 b] 29) = W at *
              generalize wr.heap.size = kb at *
              have q1 : W.cell? ⟨kb, 1, none⟩ = some (.string t) := HKW.out.cell 1
              have q0 : W.cell? ⟨kb, 0, none⟩ = some (.int .i64 2) := HKW.out.cell 0
              go_wp2_with fail
              clear q1 q0
              have qn : W.cell? ⟨kb, 2, none⟩ = some (.int .u8 b) := HKW.out.cell 2
              have HKD := Lib.hid (show Row W.drew kb 29 [.int .i64 2, .string t, .int .u8 b] from HKW.out)
              have HPD := Lib.hid (HPW.out.below (Below.refl _ _).drew)
              have HC1 := Lib.hid (HPD.out.pushX b hp2)
              have HR1 := Lib.hid (HPD.out.pushR b hp2)
              clear HKW HPW HPD
              go_region_held3 (fun w' => w'.cell? ⟨kb, 2, none⟩ = some (.int .u8 b)) (first | exact y1 | exact x1 | exact qn) (first
                | (go_at_call 12; with_reducible refine (HC1.out).mono ?_; rintro e w5 ⟨F5, rfl, hp5, hch5⟩
                   have HK5 := Lib.hid (HKD.out.chg hch5 HKN.out.1)
                   have x1 : w5.cell? ⟨kb, 2, none⟩ = some (.int .u8 b) := HK5.out.cell 2
                   have HR2 := Lib.hid (hp5.pushR b hp2)
                   clear hp5 hch5 HC1 HR1)
                | (go_at_call 13; with_reducible refine (HR1.out).mono ?_; rintro e w5 ⟨rfl, hp5, hch5⟩
                   have HK5 := Lib.hid (HKD.out.chg hch5 HKN.out.2)
                   have x1 : w5.cell? ⟨kb, 2, none⟩ = some (.int .u8 b) := HK5.out.cell 2
                   have HC2 := Lib.hid (hp5.pushX b hp2)
                   clear hp5 hch5 HC1 HR1)
                | (go_at_call 13; with_reducible refine (HR2.out).mono ?_; rintro e w6 ⟨rfl, hp6, hch6⟩
                   have y1 : w6.cell? ⟨kb, 2, none⟩ = some (.int .u8 b) := (HK5.out.chg hch6 HKN.out.2).cell 2
                   have HPX : Hid (∃ F, KRef w w6 k F (c.push b) g (c.push b)) := Lib.hid ⟨_, hp6⟩
                   clear hp6 hch6 HR2)
                | (go_at_call 12; with_reducible refine (HC2.out).mono ?_; rintro e w6 ⟨F6, rfl, hp6, hch6⟩
                   have y1 : w6.cell? ⟨kb, 2, none⟩ = some (.int .u8 b) := (HK5.out.chg hch6 HKN.out.1).cell 2
                   have HPX : Hid (∃ F, KRef w w6 k F (c.push b) g (c.push b)) := Lib.hid ⟨_, hp6⟩
                   clear hp6 hch6 HC2))
              all_goals
                clear qn x1 y1 HK5 HKD HKN
                obtain ⟨F6, hpp⟩ := HPX.out
                have HP6 := Lib.hid hpp
                clear hpp HPX
                have hee : (c.pushE == c.pushE) = true := by simp
                generalize c.pushE = er at *
                generalize c.push b = c6 at *
                obtain ⟨M6, kept6, on6⟩ := c6
                have hcs := HP6.out.cells
                obtain ⟨r0, r1, r2, _⟩ := hcs
                have hs6 : (strOfNums kept6).size = kept6.length := strOfNums_size kept6
                have hlen6 : kept6.length ≤ 65536 := Nat.le_trans (show kept6.length ≤ M6 from HP6.out.ok.len) (show M6 ≤ 65536 from HP6.out.ok.most)
                have HQ1 := Lib.hid (fun n => capSpec.on_on (HP6.out.drewN n).x rfl)
                have HQ2 := Lib.hid (fun n => capSpec.text_on (HP6.out.drewN n).x rfl)
                have HQ3 := Lib.hid (fun n => capSpec.room_on (HP6.out.drewN n).x (r := (M6 : Int) - (kept6.length : Int)) rfl)
                replace r0 : w6.cell? ⟨g, 0, none⟩ = some (.int .i64 (M6 : Int)) := r0
                replace r1 : w6.cell? ⟨g, 1, none⟩ = some (.string (strOfNums kept6)) := r1
                replace r2 : w6.cell? ⟨g, 2, none⟩ = some (.bool on6) := r2
                replace HQ1 : Hid (∀ n, Calls Try.prog 15 #[.pointer (some ⟨k, 0, none⟩)] (w6.drewN n) fun r w' => r = .returned (.bool on6) ∧ ∃ q, w' = (w6.drewN n).drewN q) := HQ1
                replace HQ2 : Hid (∀ n, Calls Try.prog 16 #[.pointer (some ⟨k, 0, none⟩)] (w6.drewN n) fun r w' => r = .returned (.string (strOfNums kept6)) ∧ ∃ q, w' = (w6.drewN n).drewN q) := HQ2
                have HM6 : Hid ((M6 : Int) ≤ 65536) := Lib.hid (by have := HP6.out.ok.most; show (M6 : Int) ≤ 65536; replace this : M6 ≤ 65536 := this; omega)
                have hM6 := HM6.out
                obtain ⟨s6, hs⟩ : ∃ s6, strOfNums kept6 = s6 := ⟨_, rfl⟩
                rw [hs] at r1 HQ2 hs6
                clear hs
                have hl6 : (kept6.length : Int) = (s6.size : Int) := by omega
                rw [hl6] at HQ3
                have hs65 : s6.size ≤ 65536 := by omega
                have hse : (s6.toList == s6.toList) = true := by simp
                have hon : (on6 != on6) = false := by simp
                have hrm : (((M6 : Int) - (s6.size : Int)) != ((M6 : Int) - (s6.size : Int))) = false := by generalize (M6 : Int) - (s6.size : Int) = z; simp
                have HPk := Lib.hid (fun n => (HP6.out.drewN n))
                clear HP6 hl6 hs6 hlen6 HM6
                go_wp2_with fail
                go_quiet (first | (go_at_call 15; exact Calls.quiet_of (HQ1.out _)) | (go_at_call 16; exact Calls.quiet_of (HQ2.out _)) | (go_at_call 17; exact Calls.quiet_of (HQ3.out _)))
                go_wp2_with fail
                go_roundg (a1.length - (j + 1))
                case measure => omega
                case rel => exact ⟨j + 1, F6, ⟨M6, kept6, on6⟩, by simp, by omega, by omega, Lib.hid (HPk.out nq)⟩
            · by_cases c3 : kd = 3
              · subst c3
                clear c1 c2
                go_wp2_with fail
                have HKN := Lib.hid (HP.out.aside (Nat.le_refl _))
                have HPW := Lib.hid (HP.out.below ((Below.refl wr.heap.size wr).alloc (Nat.le_refl _) (.cells #[.int .i64 3, .string t, .int .u8 b] 29)))
                have HKW := Lib.hid (Row.new wr 29 [.int .i64 3, .string t, .int .u8 b])
                have hW : wr.alloc (.cells [.int .i64 3, .string t, .int .u8 b].toArray 29) = wr.alloc (.cells #[.int .i64 3, .string t, .int .u8 b] 29) := rfl
                rw [hW] at HKW
                clear hW HP hc0 hc1 hc2
                generalize wr.alloc (.cells #[.int .i64 3, .string t, .int .u8 b] 29) = W at *
                generalize wr.heap.size = kb at *
                have q1 : W.cell? ⟨kb, 1, none⟩ = some (.string t) := HKW.out.cell 1
                have q0 : W.cell? ⟨kb, 0, none⟩ = some (.int .i64 3) := HKW.out.cell 0
                go_wp2_with fail
                clear q1 q0 HKW HKN
                refine (HPW.out.finX).mono ?_
                rintro e w5 ⟨F6, rfl, hp5⟩
                obtain ⟨y0, y1, y2, z2⟩ := hp5.cells
                have HP6 := Lib.hid hp5.finR
                clear hp5 HPW
                go_upto_region 20 with (fail)
                generalize w5.setCell ⟨g, 2, none⟩ (.bool false) = w6 at *
                clear y0 y1 y2 z2
                generalize c.fin = c6 at *
                obtain ⟨M6, kept6, on6⟩ := c6
                have hcs := HP6.out.cells
                obtain ⟨r0, r1, r2, _⟩ := hcs
                have hs6 : (strOfNums kept6).size = kept6.length := strOfNums_size kept6
                have hlen6 : kept6.length ≤ 65536 := Nat.le_trans (show kept6.length ≤ M6 from HP6.out.ok.len) (show M6 ≤ 65536 from HP6.out.ok.most)
                have HQ1 := Lib.hid (fun n => capSpec.on_on (HP6.out.drewN n).x rfl)
                have HQ2 := Lib.hid (fun n => capSpec.text_on (HP6.out.drewN n).x rfl)
                have HQ3 := Lib.hid (fun n => capSpec.room_on (HP6.out.drewN n).x (r := (M6 : Int) - (kept6.length : Int)) rfl)
                replace r0 : w6.cell? ⟨g, 0, none⟩ = some (.int .i64 (M6 : Int)) := r0
                replace r1 : w6.cell? ⟨g, 1, none⟩ = some (.string (strOfNums kept6)) := r1
                replace r2 : w6.cell? ⟨g, 2, none⟩ = some (.bool on6) := r2
                replace HQ1 : Hid (∀ n, Calls Try.prog 15 #[.pointer (some ⟨k, 0, none⟩)] (w6.drewN n) fun r w' => r = .returned (.bool on6) ∧ ∃ q, w' = (w6.drewN n).drewN q) := HQ1
                replace HQ2 : Hid (∀ n, Calls Try.prog 16 #[.pointer (some ⟨k, 0, none⟩)] (w6.drewN n) fun r w' => r = .returned (.string (strOfNums kept6)) ∧ ∃ q, w' = (w6.drewN n).drewN q) := HQ2
                have HM6 : Hid ((M6 : Int) ≤ 65536) := Lib.hid (by have := HP6.out.ok.most; show (M6 : Int) ≤ 65536; replace this : M6 ≤ 65536 := this; omega)
                have hM6 := HM6.out
                obtain ⟨s6, hs⟩ : ∃ s6, strOfNums kept6 = s6 := ⟨_, rfl⟩
                rw [hs] at r1 HQ2 hs6
                clear hs
                have hl6 : (kept6.length : Int) = (s6.size : Int) := by omega
                rw [hl6] at HQ3
                have hs65 : s6.size ≤ 65536 := by omega
                have hse : (s6.toList == s6.toList) = true := by simp
                have hon : (on6 != on6) = false := by simp
                have hrm : (((M6 : Int) - (s6.size : Int)) != ((M6 : Int) - (s6.size : Int))) = false := by generalize (M6 : Int) - (s6.size : Int) = z; simp
                have HPk := Lib.hid (fun n => (HP6.out.drewN n))
                clear HP6 hl6 hs6 hlen6 HM6
                go_wp2_with fail
                go_quiet (first | (go_at_call 15; exact Calls.quiet_of (HQ1.out _)) | (go_at_call 16; exact Calls.quiet_of (HQ2.out _)) | (go_at_call 17; exact Calls.quiet_of (HQ3.out _)))
                go_wp2_with fail
                go_roundg (a1.length - (j + 1))
                case measure => omega
                case rel => exact ⟨j + 1, F6, ⟨M6, kept6, on6⟩, by simp, by omega, by omega, Lib.hid (HPk.out nq)⟩
              · have e1 : (kd == 1) = false := by simpa using c1
                have e2 : (kd == 2) = false := by simpa using c2
                have e3 : (kd == 3) = false := by simpa using c3
                clear c1 c2 c3
                go_wp2_with fail
                have HKN := Lib.hid (HP.out.aside (Nat.le_refl _))
                have HPW := Lib.hid (HP.out.below ((Below.refl wr.heap.size wr).alloc (Nat.le_refl _) (.cells #[.int .i64 kd, .string t, .int .u8 b] 29)))
                have HKW := Lib.hid (Row.new wr 29 [.int .i64 kd, .string t, .int .u8 b])
                have hW : wr.alloc (.cells [.int .i64 kd, .string t, .int .u8 b].toArray 29) = wr.alloc (.cells #[.int .i64 kd, .string t, .int .u8 b] 29) := rfl
                rw [hW] at HKW
                clear hW HP hc0 hc1 hc2
                generalize wr.alloc (.cells #[.int .i64 kd, .string t, .int .u8 b] 29) = W at *
                generalize wr.heap.size = kb at *
                have q1 : W.cell? ⟨kb, 1, none⟩ = some (.string t) := HKW.out.cell 1
                have q0 : W.cell? ⟨kb, 0, none⟩ = some (.int .i64 kd) := HKW.out.cell 0
                go_upto_region 20 with (fail)
                clear q1 q0 HKW HKN e1 e2 e3
                obtain ⟨F6, hF6⟩ : ∃ F6, F6 = F := ⟨_, rfl⟩
                obtain ⟨w6, hw6⟩ : ∃ w6, w6 = W := ⟨_, rfl⟩
                have HP6 : Hid (KRef w w6 k F6 c g c) := by rw [hF6, hw6]; exact HPW
                rw [← hw6]
                clear hF6 hw6 HPW
                generalize c = c6 at *
                obtain ⟨M6, kept6, on6⟩ := c6
                have hcs := HP6.out.cells
                obtain ⟨r0, r1, r2, _⟩ := hcs
                have hs6 : (strOfNums kept6).size = kept6.length := strOfNums_size kept6
                have hlen6 : kept6.length ≤ 65536 := Nat.le_trans (show kept6.length ≤ M6 from HP6.out.ok.len) (show M6 ≤ 65536 from HP6.out.ok.most)
                have HQ1 := Lib.hid (fun n => capSpec.on_on (HP6.out.drewN n).x rfl)
                have HQ2 := Lib.hid (fun n => capSpec.text_on (HP6.out.drewN n).x rfl)
                have HQ3 := Lib.hid (fun n => capSpec.room_on (HP6.out.drewN n).x (r := (M6 : Int) - (kept6.length : Int)) rfl)
                replace r0 : w6.cell? ⟨g, 0, none⟩ = some (.int .i64 (M6 : Int)) := r0
                replace r1 : w6.cell? ⟨g, 1, none⟩ = some (.string (strOfNums kept6)) := r1
                replace r2 : w6.cell? ⟨g, 2, none⟩ = some (.bool on6) := r2
                replace HQ1 : Hid (∀ n, Calls Try.prog 15 #[.pointer (some ⟨k, 0, none⟩)] (w6.drewN n) fun r w' => r = .returned (.bool on6) ∧ ∃ q, w' = (w6.drewN n).drewN q) := HQ1
                replace HQ2 : Hid (∀ n, Calls Try.prog 16 #[.pointer (some ⟨k, 0, none⟩)] (w6.drewN n) fun r w' => r = .returned (.string (strOfNums kept6)) ∧ ∃ q, w' = (w6.drewN n).drewN q) := HQ2
                have HM6 : Hid ((M6 : Int) ≤ 65536) := Lib.hid (by have := HP6.out.ok.most; show (M6 : Int) ≤ 65536; replace this : M6 ≤ 65536 := this; omega)
                have hM6 := HM6.out
                obtain ⟨s6, hs⟩ : ∃ s6, strOfNums kept6 = s6 := ⟨_, rfl⟩
                rw [hs] at r1 HQ2 hs6
                clear hs
                have hl6 : (kept6.length : Int) = (s6.size : Int) := by omega
                rw [hl6] at HQ3
                have hs65 : s6.size ≤ 65536 := by omega
                have hse : (s6.toList == s6.toList) = true := by simp
                have hon : (on6 != on6) = false := by simp
                have hrm : (((M6 : Int) - (s6.size : Int)) != ((M6 : Int) - (s6.size : Int))) = false := by generalize (M6 : Int) - (s6.size : Int) = z; simp
                have HPk := Lib.hid (fun n => (HP6.out.drewN n))
                clear HP6 hl6 hs6 hlen6 HM6
                go_wp2_with fail
                go_quiet (first | (go_at_call 15; exact Calls.quiet_of (HQ1.out _)) | (go_at_call 16; exact Calls.quiet_of (HQ2.out _)) | (go_at_call 17; exact Calls.quiet_of (HQ3.out _)))
                go_wp2_with fail
                go_roundg (a1.length - (j + 1))
                case measure => omega
                case rel => exact ⟨j + 1, F6, ⟨M6, kept6, on6⟩, by simp, by omega, by omega, Lib.hid (HPk.out nq)⟩
        · have hts2 : ¬ (t.size : Int) ≤ 300 := hts
          clear hts
          go_wp2_with fail
          have HKN := Lib.hid (HP.out.aside (Nat.le_refl _))
          have HPW := Lib.hid (HP.out.below ((Below.refl wr.heap.size wr).alloc (Nat.le_refl _) (.cells #[.int .i64 kd, .string t, .int .u8 b] 29)))
          have HKW := Lib.hid (Row.new wr 29 [.int .i64 kd, .string t, .int .u8 b])
          have hW : wr.alloc (.cells [.int .i64 kd, .string t, .int .u8 b].toArray 29) = wr.alloc (.cells #[.int .i64 kd, .string t, .int .u8 b] 29) := rfl
          rw [hW] at HKW
          clear hW HP hc0 hc1 hc2
          generalize wr.alloc (.cells #[.int .i64 kd, .string t, .int .u8 b] 29) = W at *
          generalize wr.heap.size = kb at *
          have q1 : W.cell? ⟨kb, 1, none⟩ = some (.string t) := HKW.out.cell 1
          have hB := HPW.out.x.bel
          clear HKW HKN HPW
          go_wp2_with fail
          go_returns
          exact ⟨rfl, hB⟩
      · have hlt2 : ¬ (j : Int) < (a1.length : Int) := by omega
        have hB := HP.out.x.bel
        clear HP
        go_wp2
        go_returns
        exact ⟨rfl, hB⟩
  · have hw : (200 : Int) < a1.length := by omega
    clear hin el1 ca1
    go_enter Try.func3, Try.ntmps3
    go_wp2_with fail
    refine (awake17_any _).mono ?_
    rintro e w1 ⟨rfl, hB1⟩
    go_wp2_with fail
    refine (awake17_any _).mono ?_
    rintro e w2 ⟨rfl, hb⟩
    have hB2 := hB1.trans (hb.mono hB1.size)
    go_wp2
    go_returns
    exact ⟨rfl, hB2⟩


/-! ### CapturePlays: the step from the walk to the statement -/
namespace capturePlays
theorem own : ownKnob Try.prog.godebug = none := by kernel_rfl
theorem laidOut : laidOutB Try.prog = true := by kernel_rfl
set_option maxRecDepth 100000 in
theorem lifted (os : Os) (started : os.Started) (H : Type) (enc : TypeId × Value → H) :
    ReturnsInHanded {} Try.checked os 3 .any (Rows.capturePlaysSpec.pre6 enc Try.prog Try.f3 Rows.capturePlaysRow.domain false) (Rows.capturePlaysSpec.post enc Try.prog Try.f3 false true false false) := by
  refine returnsInHanded_of_change (C := Try.checked) own started (by kernel_rfl) Try.func3
    (ChangeSpec.witness6 (enc := enc) (C := Try.checked) false ⟨#[], #[.int .i64 0, .slice none 0 0], []⟩ 8 (by kernel_rfl) (by kernel_rfl) (by kernel_rfl) (by kernel_rfl)) ?_
  intro W base args ds gs before hval0 hW hcnd _
  have hval : ∀ (j : Nat) t v, Try.f3.params[j]? = some t → args[j]? = some v → Value.okWide Try.prog W .any base t v := hval0
  have hW' := hW
  obtain ⟨p, q, hA0, hV, rfl, hfz, hnd⟩ := hW
  have hA : DataW.TrodAll enc Try.prog W 0 (fun _ => true) true Try.f3.params.toList args.toList ds p := hA0
  rw [Try.params3] at hA hval
  obtain ⟨v0, vs0, d0, ds0, p0, q0, hargs, rfl, rfl, h0, r0⟩ := trodAll_cons hA
  obtain ⟨v1, vs1, d1, ds1, p1, q1, rfl, rfl, rfl, h1, r1⟩ := trodAll_cons r0
  obtain ⟨rfl, rfl, rfl⟩ := trodAll_nil r1
  obtain rfl : args = #[v0, v1] := by cases args; simp_all
  obtain ⟨rfl, rfl⟩ := trodVars_none hV
  obtain ⟨a0, rfl, rfl, rfl, w0⟩ := open_int Try.underlying3 (hval 0 3 v0 rfl rfl) h0
  obtain ⟨o1, len1, c1, rfl⟩ := okWide_slice Try.underlying22 (hval 1 22 v1 rfl rfl)
  have k1 := h1
  have lt1 : ∀ x ∈ p1, x.block < W.heap.size := by obtain ⟨m, hm⟩ := k1; exact DataW.trod_lt m _ _ _ hm
  obtain ⟨a1, rfl, lc1, cm1, ca1, el1⟩ := (came_ksb Try.underlying22 Try.underlying29 (by kernel_rfl) rfl rfl rfl (by kernel_rfl) (by kernel_rfl) (by kernel_rfl) Try.underlying3 Try.underlying9 Try.underlying5 h1)
  clear hA0 hval0
  refine (walkCapturePlays a0 o1 c1 a1 (bounds_i64 w0) lc1 cm1 el1 W ca1).mono fun e W' ⟨he, bel⟩ => ?_
  subst he
  exact ⟨_, rfl, _, _, _, [], _, [], hW', trodAll_mk1 (shut_bool Try.underlying4 _), (trodAll_cons_mk (shut_int Try.underlying3 w0) (trodAll_cons_mk (Below.trod laidOut (by kernel_rfl) (of_decide_eq_true (by kernel_rfl)) k1 bel lt1) trodAll_mk0)), rfl, bel.frame _, fun h => by cases h⟩
theorem over : Rows.capturePlaysRow.holds Try.pinned (OpenSpec.ofChange Rows.capturePlaysSpec) :=
  OpenClaim.holds_of_wide 3 Try.f3 rfl rfl rfl rfl rfl rfl rfl ⟨rfl, rfl, rfl, rfl, rfl⟩ rfl rfl rfl rfl rfl (by kernel_rfl) Try.func3 (by kernel_rfl)
    (of_decide_eq_true (by kernel_rfl)) (by unfold Func.isWrapper; first | (rw [if_pos (by decide +kernel)]; kernel_rfl) | (rw [if_neg (by decide +kernel)]; exact ⟨rfl, rfl⟩))
    (fun os started H enc _ => lifted os started H enc)
/-- THE STATEMENT. -/
theorem proved : Rows.CapturePlaysSaid := over
end capturePlays
end Go.Proofs.Ytemdeopghkcpbaa
