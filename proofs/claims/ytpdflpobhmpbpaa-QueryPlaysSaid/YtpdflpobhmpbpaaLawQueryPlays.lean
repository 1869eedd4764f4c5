/- Of every texts and list of calls (of more than 200, of longer texts than 100 bytes, and of texts that are no queries, the law asks only for the fixed answers): just the queries are answered that the reference answers, with its dates. No condition but the form of the row. -/
import Derived.Test.YtpdflpobhmpbpaaQryRef
import Derived.Test.YtpdflpobhmpbpaaRows
import Derived.WalkKit
import Derived.ProofKit
import Derived.OpenShut
import Derived.ShutString
import Derived.ChangeOld
import Derived.Below
import Derived.Carry
namespace Go.Proofs.Ytpdflpobhmpbpaa
open Go.ChangeShapes Go.WideShapes Go.ChangeAt Go.RowKit
open Go.ChangeMaps (open_string shut_string)
set_option linter.unusedVariables false
open Go.PlainAid in
set_option maxRecDepth 100000 in
set_option maxHeartbeats 16000000 in
theorem walkQueryPlays (o0 : Option Addr) (c0 : Nat) (a0 : List ByteArray) (o1 : Option Addr) (c1 : Nat) (a1 : List (Int × ByteArray)) (lc0 : a0.length ≤ c0) (cm0 : c0 ≤ maxLen) (el0 : ∀ x ∈ a0, x.size ≤ maxLen) (lc1 : a1.length ≤ c1) (cm1 : c1 ≤ maxLen) (el1 : ∀ x ∈ a1, InI x.1 ∧ x.2.size ≤ maxLen) (w : World) (ca0 : Came w o0 (svs a0)) (ca1 : Came w o1 (kts a1)) :
    Calls Try.prog 4 #[.slice o0 a0.length c0, .slice o1 a1.length c1] w fun e w' => e = .returned (.bool true) ∧ Below w.heap.size w w' := by
  have HC := Lib.hid ca0
  have HS := Lib.hid el0
  have HCA := Lib.hid ca1
  have HEL := Lib.hid el1
  clear ca0 el0 ca1 el1
  cases hg : greatB a0 a1 with
  | true =>
    go_enter Try.func4, Try.ntmps4
    go_wp2_with fail
    refine (awake18_any _).mono ?_
    rintro e w1 ⟨rfl, hb1⟩
    have HB1 := Lib.hid hb1
    clear hb1
    go_wp2_with fail
    refine (great18_any o0 c0 a0 o1 c1 a1 w1 (HC.out.below HB1.out) (HCA.out.below HB1.out) lc0 cm0 lc1 cm1 HS.out HEL.out).mono ?_
    rintro e w2 ⟨rfl, hb2⟩
    have HB2 := Lib.hid (HB1.out.trans (hb2.mono HB1.out.size))
    clear hb2
    rw [hg]
    go_wp2_with fail
    refine (awake18_any _).mono ?_
    rintro e wz ⟨rfl, hbz⟩
    have hBZ := (HB2.out).trans (hbz.mono (HB2.out).size)
    clear hbz
    go_wp2
    go_returns
    exact ⟨rfl, hBZ⟩
  | false =>
    obtain ⟨hl200, ha200, _, ht100⟩ := greatB_no hg
    have HT := Lib.hid ht100
    clear ht100
    have h9 : (a0.length : Int) ≤ 200 := by omega
    have h8 : (a1.length : Int) ≤ 200 := by omega
    cases hs : serAll a0 with
    | false =>
      go_enter Try.func4, Try.ntmps4
      go_wp2_with fail
      refine (awake18_any _).mono ?_
      rintro e w1 ⟨rfl, hb1⟩
      have HB1 := Lib.hid hb1
      clear hb1
      go_wp2_with fail
      refine (great18_any o0 c0 a0 o1 c1 a1 w1 (HC.out.below HB1.out) (HCA.out.below HB1.out) lc0 cm0 lc1 cm1 HS.out HEL.out).mono ?_
      rintro e w2 ⟨rfl, hb2⟩
      have HB2 := Lib.hid (HB1.out.trans (hb2.mono HB1.out.size))
      clear hb2
      rw [hg]
      go_wp2_with fail
      refine (refAll_any o0 c0 a0 w2 (HC.out.below HB2.out) lc0 cm0 HS.out).mono ?_
      rintro e w3 ⟨rfl, hw3⟩
      rw [hw3, hs]
      clear hw3 w3
      go_wp2_with fail
      refine (awake18_any _).mono ?_
      rintro e wz ⟨rfl, hbz⟩
      have hBZ := (HB2.out).trans (hbz.mono (HB2.out).size)
      clear hbz
      go_wp2
      go_returns
      exact ⟨rfl, hBZ⟩
    | true =>
      go_enter Try.func4, Try.ntmps4
      go_wp2_with fail
      refine (awake18_any _).mono ?_
      rintro e w1 ⟨rfl, hb1⟩
      have HB1 := Lib.hid hb1
      clear hb1
      go_wp2_with fail
      refine (great18_any o0 c0 a0 o1 c1 a1 w1 (HC.out.below HB1.out) (HCA.out.below HB1.out) lc0 cm0 lc1 cm1 HS.out HEL.out).mono ?_
      rintro e w2 ⟨rfl, hb2⟩
      have HB2 := Lib.hid (HB1.out.trans (hb2.mono HB1.out.size))
      clear hb2
      rw [hg]
      go_wp2_with fail
      refine (refAll_any o0 c0 a0 w2 (HC.out.below HB2.out) lc0 cm0 HS.out).mono ?_
      rintro e w3 ⟨rfl, hw3⟩
      rw [hw3, hs]
      clear hw3 w3
      have HEm : Hid (Sl (w2.alloc (.cells #[] 9)) 9 (.slice (some ⟨w2.heap.size, 0, none⟩) 0 0) (svs []) w2.heap.size) := Lib.hid (sl_new_strs w2 [] (Nat.zero_le _))
      have HCa : Hid (Came (w2.alloc (.cells #[] 9)) o0 (svs a0)) := Lib.hid ((HC.out.below HB2.out).alloc _)
      have HBa : Hid (Below w.heap.size w (w2.alloc (.cells #[] 9))) := Lib.hid (HB2.out.alloc HB2.out.size _)
      have hl9 : ([] : List ByteArray).length + a0.length ≤ 1000000000000 := by rw [List.length_nil]; omega
      have hw9 : w.heap.size ≤ w2.heap.size := HB2.out.size
      go_wp2_with (at_builtin; refine wpList_append_strs rfl (.tmp 27) (.tmp 28) rfl (l := []) (g := w2.heap.size) rfl HEm.out o0 a0.length c0 a0 rfl rfl HCa.out hl9 ?_)
      intro v3 w3 g3 hs3 hg3 hgr3
      replace hs3 : Sl w3 9 v3 (svs a0) g3 := hs3
      obtain ⟨c3, rfl, hc3, hcm3⟩ := hs3.open (n := a0.length) (svs_length a0)
      have HB3 : Hid (Below w.heap.size w w3) := Lib.hid (Below.grown HBa.out hgr3 HBa.out.size (by intro q hq; injection hq with hq; omega))
      have HC3 : Hid (Came w3 (some ⟨g3, 0, none⟩) (svs a0)) := Lib.hid (Came.sl hs3)
      clear hs3 hg3 hgr3 HEm HCa HBa hl9 hw9
      go_wp2_with fail
      refine (qrySpec.new_on HC3.out hc3 hcm3 hs HB3.out).mono ?_
      rintro e w4 ⟨k, F, rfl, h4, _, _⟩
      have H4 := Lib.hid h4
      clear h4 HC3 hs HB2 HB3
      go_wp2_with fail
      refine (QR.newR H4.out o0 c0 (by omega)).mono ?_
      rintro e w5 ⟨v, g, rfl, h5⟩
      have HP0 := Lib.hid h5
      clear h5 H4
      go_wp2_with fail
      go_loopg [39] a1.length (fun gk jv wr => ∃ (j : Nat) (F : Nat → Prop) (q : QS) (v : Value), jv = .int .i64 (j : Int) ∧ j ≤ a1.length ∧ a1.length - j ≤ gk ∧ Hid (QR w wr o0 c0 a0 k F q g q v) ∧ q.came.length ≤ j * 100)
      case atStart => exact ⟨0, F, QS.zero, v, rfl, by omega, by omega, HP0, by show 0 ≤ _; omega⟩
      case round =>
        clear HP0
        obtain ⟨j, F, q, v, rfl, hj, hgk, HP, hql⟩ := hrel
        by_cases hlt : j < a1.length
        · have hlt2 : (j : Int) < (a1.length : Int) := by omega
          obtain ⟨ad, ho, _, hcell⟩ := (HCA.out.below HP.out.on.bel).first (by rw [kts_length]; omega)
          subst ho
          have hp := HEL.out a1[j] (List.getElem_mem hlt)
          have ht1 := HT.out a1[j] (List.getElem_mem hlt)
          have hg2 := kts_get hlt
          have hc0 := hcell (2 * j) (.int .i64 a1[j].1) hg2.1
          have hc1 := hcell (2 * j + 1) (.string a1[j].2) hg2.2
          generalize a1[j] = act at *
          obtain ⟨kd, t⟩ := act
          replace hp : InI kd ∧ t.size ≤ maxLen := hp
          replace ht1 : t.size ≤ 100 := ht1
          replace hc0 : wr.cell? (ad.add (j * 2)) = some (.int .i64 kd) := by rw [Nat.mul_comm]; exact hc0
          replace hc1 : wr.cell? ⟨(ad.add (j * 2)).block, (ad.add (j * 2)).off + 1, none⟩ = some (.string t) := by rw [← add_field18 ad j]; exact hc1
          have ht9 : (t.size : Int) ≤ 100 := by omega
          have hj200 : j ≤ 200 := by omega
          clear hcell hg2 hp
          by_cases k1 : kd = 1
          · subst k1
            go_wp2_with fail
            have HKN : Hid (¬ F wr.heap.size) := Lib.hid (fun f => by have := qrySpec.lt HP.out.on.at_ _ f; omega)
            have HPW := Lib.hid (HP.out.below ((Below.refl wr.heap.size wr).alloc (Nat.le_refl _) (.cells #[.int .i64 1, .string t] 37)))
            have HKW := Lib.hid (Row.new wr 37 [.int .i64 1, .string t])
            have hW : wr.alloc (.cells [.int .i64 1, .string t].toArray 37) = wr.alloc (.cells #[.int .i64 1, .string t] 37) := rfl
            rw [hW] at HKW
            have HSD := Lib.hid (HPW.out.side (kb := wr.heap.size) HKW.out.lt HKN.out)
            clear hW HP hc0 hc1 HKN
            generalize wr.alloc (.cells #[.int .i64 1, .string t] 37) = W at *
            generalize wr.heap.size = kb at *
            have n1 : W.cell? ⟨kb, 1, none⟩ = some (.string t) := HKW.out.cell 1
            have n0 : W.cell? ⟨kb, 0, none⟩ = some (.int .i64 1) := HKW.out.cell 0
            go_wp2_with fail
            refine (HSD.out.begin rfl).mono ?_
            rintro e w5 ⟨F6, rfl, h5⟩
            have h6 := HPW.out.back h5
            have hr6 := h6.row
            have d2 : w5.cell? ⟨g, 2, none⟩ = some (.string (strOfNums q.came)) := hr6.cell 2
            have f2 := hr6.frozen 2
            have hr7 := (h6.came []).row
            have d3 : (w5.setCell ⟨g, 2, none⟩ (.string ⟨#[]⟩)).cell? ⟨g, 3, none⟩ = some (.bool q.begun) := hr7.cell 3
            have f3 : (w5.setCell ⟨g, 2, none⟩ (.string ⟨#[]⟩)).frozen? ⟨g, 3, none⟩ = false := hr7.frozen 3
            have HP6 : Hid (QR w ((w5.setCell ⟨g, 2, none⟩ (.string ⟨#[]⟩)).setCell ⟨g, 3, none⟩ (.bool true)) o0 c0 a0 k F6 q.begin g q.begin v) := Lib.hid ((h6.came []).begun true)
            have hq6 : q.begin.came.length ≤ (j + 1) * 100 := by show 0 ≤ _; omega
            clear h5 h6 hr6 hr7 HSD HPW HKW n0 n1
            go_upto_region 24 with (fail)
            clear d2 f2 d3 f3
            generalize (w5.setCell ⟨g, 2, none⟩ (.string ⟨#[]⟩)).setCell ⟨g, 3, none⟩ (.bool true) = w6 at *
            generalize q.begin = q6 at *
            obtain ⟨v6, hv6⟩ : ∃ v6, v6 = v := ⟨_, rfl⟩
            rw [← hv6] at HP6
            clear hv6
            have HP6q := HP6.out
            obtain ⟨base6, hA6⟩ := HP6q.ans
            have hr6 := HP6q.row
            clear HP6q
            go_wp2_with fail
            refine (HP6.out.answers rfl).mono ?_
            rintro e w7 ⟨u7, rfl, hu7, h7, hub⟩
            have HP7 := Lib.hid h7
            have HUB := Lib.hid hub
            have m1 : w7.cell? ⟨g, 1, none⟩ = some v6 := h7.row.cell 1
            obtain ⟨o7, c7, hsl⟩ := hu7.isSl
            rw [QS.found_len] at hsl
            obtain ⟨ov, cv, hov⟩ := HP7.out.ans.choose_spec.isSl
            rw [QS.found_len] at hov
            have HSm := Lib.hid (refSame18_any hu7 HP7.out.ans.choose_spec (by rw [QS.found_len]; omega))
            have HSH : Hid (0 < a0.length → ∃ g7, o7 = some ⟨g7, 0, none⟩ ∧ a0.length ≤ c7) := Lib.hid (fun h0 => by
              have hfl := QS.found_len q6 a0
              rcases hu7.shape with ⟨h1, h2⟩ | ⟨g, c, h1, h2, _⟩
              · rw [h2] at hfl; simp at hfl; omega
              · rw [hsl] at h1; injection h1 with e1 e2 e3; subst e3; rw [hfl] at h2; exact ⟨g, e1, h2⟩)
            subst hsl
            subst hov
            have HRW : Hid (∀ g7, o7 = some ⟨g7, 0, none⟩ → ∃ L, Row w7 g7 43 L ∧ a0.length * 2 ≤ L.length) := Lib.hid (fun g7 e => by subst e; exact hu7.rowOf)
            clear hu7 h7 hub HP6 hA6 hr6
            go_wp2_with fail
            refine HSm.out.mono ?_
            rintro e w8 ⟨rfl, n8, rfl⟩
            have HP8 := Lib.hid (HP7.out.drewN n8)
            have HR8 : Hid (∀ g7, o7 = some ⟨g7, 0, none⟩ → ∃ L, Row (w7.drewN n8) g7 43 L ∧ a0.length * 2 ≤ L.length) := HRW
            clear HP7 HSm m1 HRW
            generalize w7.drewN n8 = w8 at *
            go_wp2_with fail
            go_loopg [100] a0.length (fun gk iv wq => ∃ (i : Nat), iv = .int .i64 (i : Int) ∧ i ≤ a0.length ∧ a0.length - i ≤ gk ∧ Hid (QR w wq o0 c0 a0 k F6 q6 g q6 (.slice ov a0.length cv)) ∧ Hid (∀ g7, o7 = some ⟨g7, 0, none⟩ → ∃ L, Row wq g7 43 L ∧ a0.length * 2 ≤ L.length))
            case atStart => exact ⟨0, rfl, by omega, by omega, HP8, HR8⟩
            case round =>
              clear HP8 HR8
              obtain ⟨i, rfl, hi, hgk2, HP9, HX⟩ := hrel
              by_cases hli : i < a0.length
              · have hli2 : (i : Int) < (a0.length : Int) := by omega
                obtain ⟨g7, rfl, hc7⟩ := HSH.out (by omega)
                obtain ⟨L, hL, hLl⟩ := HX.out g7 rfl
                have hub := HUB.out g7 rfl
                have x0 : wr.cell? ⟨g7, i * 2, none⟩ = some (L[i * 2]'(by omega)) := by rw [hL.cell, List.getElem?_eq_getElem]
                have f0 := hL.frozen (i * 2)
                have hL2 := hL.set (i * 2) (.bool true)
                have x1 : (wr.setCell ⟨g7, i * 2, none⟩ (.bool true)).cell? ⟨g7, i * 2 + 1, none⟩ = some ((L.set (i * 2) (.bool true))[i * 2 + 1]'(by rw [List.length_set]; omega)) := by rw [hL2.cell, List.getElem?_eq_getElem]
                have f1 := hL2.frozen (i * 2 + 1)
                have HP10 : Hid (QR w ((wr.setCell ⟨g7, i * 2, none⟩ (.bool true)).setCell ⟨g7, i * 2 + 1, none⟩ (.string ⟨#[120]⟩)) o0 c0 a0 k F6 q6 g q6 (.slice ov a0.length cv)) := Lib.hid ((HP9.out.aside (chg_set18 wr g7 (i * 2) (.bool true)) hub.1 hub.2.1 hub.2.2.1 hub.2.2.2).aside (chg_set18 _ g7 (i * 2 + 1) (.string ⟨#[120]⟩)) hub.1 hub.2.1 hub.2.2.1 hub.2.2.2)
                have HX10 : Hid (∀ g8, some (⟨g7, 0, none⟩ : Addr) = some ⟨g8, 0, none⟩ → ∃ L, Row ((wr.setCell ⟨g7, i * 2, none⟩ (.bool true)).setCell ⟨g7, i * 2 + 1, none⟩ (.string ⟨#[120]⟩)) g8 43 L ∧ a0.length * 2 ≤ L.length) := Lib.hid (fun g8 e => by
                  injection e with e
                  injection e with e
                  subst e
                  exact ⟨_, hL2.set (i * 2 + 1) (.string ⟨#[120]⟩), by rw [List.length_set, List.length_set]; exact hLl⟩)
                have hi7 : i < c7 := by omega
                generalize L[i * 2]'(by omega) = y0 at *
                generalize (L.set (i * 2) (.bool true))[i * 2 + 1]'(by rw [List.length_set]; omega) = y1 at *
                clear hL hL2 hLl hub HP9 HX
                go_wp2_with fail
                go_roundg (a0.length - (i + 1))
                case measure => omega
                case rel => exact ⟨i + 1, by simp, by omega, by omega, HP10, HX10⟩
              · have hli2 : ¬ (i : Int) < (a0.length : Int) := by omega
                go_wp2_with fail
                go_roundg (a1.length - (j + 1))
                case measure => omega
                case rel => exact ⟨j + 1, F6, q6, _, by simp, by omega, by omega, HP9, hq6⟩
          · by_cases k2 : kd = 2
            · subst k2
              clear k1
              go_wp2_with fail
              have HKN : Hid (¬ F wr.heap.size) := Lib.hid (fun f => by have := qrySpec.lt HP.out.on.at_ _ f; omega)
              have HPW := Lib.hid (HP.out.below ((Below.refl wr.heap.size wr).alloc (Nat.le_refl _) (.cells #[.int .i64 2, .string t] 37)))
              have HKW := Lib.hid (Row.new wr 37 [.int .i64 2, .string t])
              have hW : wr.alloc (.cells [.int .i64 2, .string t].toArray 37) = wr.alloc (.cells #[.int .i64 2, .string t] 37) := rfl
              rw [hW] at HKW
              have HSD := Lib.hid (HPW.out.side (kb := wr.heap.size) HKW.out.lt HKN.out)
              clear hW HP hc0 hc1 HKN
              generalize wr.alloc (.cells #[.int .i64 2, .string t] 37) = W at *
              generalize wr.heap.size = kb at *
              have n1 : W.cell? ⟨kb, 1, none⟩ = some (.string t) := HKW.out.cell 1
              have n0 : W.cell? ⟨kb, 0, none⟩ = some (.int .i64 2) := HKW.out.cell 0
              go_wp2_with fail
              have HSD0 : Hid (QSd w W W (QR.S kb g v) k F a0 (q.all ((bl t).take 0))) := Lib.hid (by rw [List.take_zero, QS.all_nil]; exact HSD.out)
              clear HSD n0 n1
              go_loopg [60] t.size (fun gk iv wq => ∃ (i : Nat) (F : Nat → Prop), iv = .int .i64 (i : Int) ∧ i ≤ t.size ∧ t.size - i ≤ gk ∧ Hid (QSd w W wq (QR.S kb g v) k F a0 (q.all ((bl t).take i))))
              case atStart => exact ⟨0, F, rfl, by omega, by omega, HSD0⟩
              case round =>
                clear HSD0
                obtain ⟨i, F6, rfl, hi, hgk2, HO⟩ := hrel
                have n1 : wr.cell? ⟨kb, 1, none⟩ = some (.string t) := (HO.out.row HKW.out (.inl rfl)).cell 1
                by_cases hli : i < t.size
                · have hli2 : (i : Int) < (t.size : Int) := by omega
                  have gj := get_bt t i hli
                  have r0 := bt_nonneg t i
                  have r1 := bt_le t i
                  have HPs : Hid ((q.all ((bl t).take i)).push (bt t i) = q.all ((bl t).take (i + 1))) := Lib.hid (by rw [QS.all_push, List.take_add_one, bl_at t i hli]; rfl)
                  have hcl : (q.all ((bl t).take i)).came.length < 1000000000 := by show (q.came ++ (bl t).take i).length < _; rw [List.length_append, List.length_take]; omega
                  have HPu := Lib.hid (HO.out.push (bt t i) ⟨r0, r1⟩ hcl HPs.out)
                  clear HPs hcl HO
                  generalize bt t i = x at *
                  go_wp2_with fail
                  refine HPu.out.mono ?_
                  rintro e w7 ⟨F7, rfl, h7⟩
                  have H7 := Lib.hid h7
                  clear h7 HPu n1
                  go_wp2_with fail
                  go_roundg (t.size - (i + 1))
                  case measure => omega
                  case rel => exact ⟨i + 1, F7, by simp, by omega, by omega, H7⟩
                · have hli2 : ¬ (i : Int) < (t.size : Int) := by omega
                  have hQ := HPW.out.back HO.out
                  rw [List.take_of_length_le (by rw [bl_length]; omega)] at hQ
                  have hsz := strOfNums_size q.came
                  have hov : ¬ 9223372036854775807 < (strOfNums q.came).size + t.size := by omega
                  have d2 : wr.cell? ⟨g, 2, none⟩ = some (.string (strOfNums q.came)) := hQ.row.cell 2
                  have f2 := hQ.row.frozen 2
                  have hJ : strOfNums (q.came ++ bl t) = strOfNums q.came ++ t := by rw [strOfNums_append, str_bl]
                  have h6 := hQ.came (q.came ++ bl t)
                  rw [hJ] at h6
                  have HP6q : Hid (QR w (wr.setCell ⟨g, 2, none⟩ (.string (strOfNums q.came ++ t))) o0 c0 a0 k F6 (q.all (bl t)) g (q.all (bl t)) v) := Lib.hid h6
                  have hq6 : (q.all (bl t)).came.length ≤ (j + 1) * 100 := by show (q.came ++ bl t).length ≤ _; rw [List.length_append, bl_length]; omega
                  clear hQ hJ h6 HO hsz HPW HKW
                  generalize strOfNums q.came = sq at *
                  go_upto_region 20 with (fail)
                  go_region
                  have HP6 : Hid (QR w (wr.setCell ⟨g, 2, none⟩ (.string (sq ++ t))).drew o0 c0 a0 k F6 (q.all (bl t)) g (q.all (bl t)) v) := Lib.hid (HP6q.out.below (Below.refl _ _).drew)
                  go_upto_region 24 with (fail)
                  clear d2 f2 n1 HP6q hov
                  generalize (wr.setCell ⟨g, 2, none⟩ (.string (sq ++ t))).drew = w6 at *
                  generalize q.all (bl t) = q6 at *
                  obtain ⟨v6, hv6⟩ : ∃ v6, v6 = v := ⟨_, rfl⟩
                  rw [← hv6] at HP6
                  clear hv6
                  have HP6q := HP6.out
                  obtain ⟨base6, hA6⟩ := HP6q.ans
                  have hr6 := HP6q.row
                  clear HP6q
                  go_wp2_with fail
                  refine (HP6.out.answers rfl).mono ?_
                  rintro e w7 ⟨u7, rfl, hu7, h7, hub⟩
                  have HP7 := Lib.hid h7
                  have HUB := Lib.hid hub
                  have m1 : w7.cell? ⟨g, 1, none⟩ = some v6 := h7.row.cell 1
                  obtain ⟨o7, c7, hsl⟩ := hu7.isSl
                  rw [QS.found_len] at hsl
                  obtain ⟨ov, cv, hov⟩ := HP7.out.ans.choose_spec.isSl
                  rw [QS.found_len] at hov
                  have HSm := Lib.hid (refSame18_any hu7 HP7.out.ans.choose_spec (by rw [QS.found_len]; omega))
                  have HSH : Hid (0 < a0.length → ∃ g7, o7 = some ⟨g7, 0, none⟩ ∧ a0.length ≤ c7) := Lib.hid (fun h0 => by
                    have hfl := QS.found_len q6 a0
                    rcases hu7.shape with ⟨h1, h2⟩ | ⟨g, c, h1, h2, _⟩
                    · rw [h2] at hfl; simp at hfl; omega
                    · rw [hsl] at h1; injection h1 with e1 e2 e3; subst e3; rw [hfl] at h2; exact ⟨g, e1, h2⟩)
                  subst hsl
                  subst hov
                  have HRW : Hid (∀ g7, o7 = some ⟨g7, 0, none⟩ → ∃ L, Row w7 g7 43 L ∧ a0.length * 2 ≤ L.length) := Lib.hid (fun g7 e => by subst e; exact hu7.rowOf)
                  clear hu7 h7 hub HP6 hA6 hr6
                  go_wp2_with fail
                  refine HSm.out.mono ?_
                  rintro e w8 ⟨rfl, n8, rfl⟩
                  have HP8 := Lib.hid (HP7.out.drewN n8)
                  have HR8 : Hid (∀ g7, o7 = some ⟨g7, 0, none⟩ → ∃ L, Row (w7.drewN n8) g7 43 L ∧ a0.length * 2 ≤ L.length) := HRW
                  clear HP7 HSm m1 HRW
                  generalize w7.drewN n8 = w8 at *
                  go_wp2_with fail
                  go_loopg [100] a0.length (fun gk iv wq => ∃ (i : Nat), iv = .int .i64 (i : Int) ∧ i ≤ a0.length ∧ a0.length - i ≤ gk ∧ Hid (QR w wq o0 c0 a0 k F6 q6 g q6 (.slice ov a0.length cv)) ∧ Hid (∀ g7, o7 = some ⟨g7, 0, none⟩ → ∃ L, Row wq g7 43 L ∧ a0.length * 2 ≤ L.length))
                  case atStart => exact ⟨0, rfl, by omega, by omega, HP8, HR8⟩
                  case round =>
                    clear HP8 HR8
                    obtain ⟨i, rfl, hi, hgk2, HP9, HX⟩ := hrel
                    by_cases hli : i < a0.length
                    · have hli2 : (i : Int) < (a0.length : Int) := by omega
                      obtain ⟨g7, rfl, hc7⟩ := HSH.out (by omega)
                      obtain ⟨L, hL, hLl⟩ := HX.out g7 rfl
                      have hub := HUB.out g7 rfl
                      have x0 : wr.cell? ⟨g7, i * 2, none⟩ = some (L[i * 2]'(by omega)) := by rw [hL.cell, List.getElem?_eq_getElem]
                      have f0 := hL.frozen (i * 2)
                      have hL2 := hL.set (i * 2) (.bool true)
                      have x1 : (wr.setCell ⟨g7, i * 2, none⟩ (.bool true)).cell? ⟨g7, i * 2 + 1, none⟩ = some ((L.set (i * 2) (.bool true))[i * 2 + 1]'(by rw [List.length_set]; omega)) := by rw [hL2.cell, List.getElem?_eq_getElem]
                      have f1 := hL2.frozen (i * 2 + 1)
                      have HP10 : Hid (QR w ((wr.setCell ⟨g7, i * 2, none⟩ (.bool true)).setCell ⟨g7, i * 2 + 1, none⟩ (.string ⟨#[120]⟩)) o0 c0 a0 k F6 q6 g q6 (.slice ov a0.length cv)) := Lib.hid ((HP9.out.aside (chg_set18 wr g7 (i * 2) (.bool true)) hub.1 hub.2.1 hub.2.2.1 hub.2.2.2).aside (chg_set18 _ g7 (i * 2 + 1) (.string ⟨#[120]⟩)) hub.1 hub.2.1 hub.2.2.1 hub.2.2.2)
                      have HX10 : Hid (∀ g8, some (⟨g7, 0, none⟩ : Addr) = some ⟨g8, 0, none⟩ → ∃ L, Row ((wr.setCell ⟨g7, i * 2, none⟩ (.bool true)).setCell ⟨g7, i * 2 + 1, none⟩ (.string ⟨#[120]⟩)) g8 43 L ∧ a0.length * 2 ≤ L.length) := Lib.hid (fun g8 e => by
                        injection e with e
                        injection e with e
                        subst e
                        exact ⟨_, hL2.set (i * 2 + 1) (.string ⟨#[120]⟩), by rw [List.length_set, List.length_set]; exact hLl⟩)
                      have hi7 : i < c7 := by omega
                      generalize L[i * 2]'(by omega) = y0 at *
                      generalize (L.set (i * 2) (.bool true))[i * 2 + 1]'(by rw [List.length_set]; omega) = y1 at *
                      clear hL hL2 hLl hub HP9 HX
                      go_wp2_with fail
                      go_roundg (a0.length - (i + 1))
                      case measure => omega
                      case rel => exact ⟨i + 1, by simp, by omega, by omega, HP10, HX10⟩
                    · have hli2 : ¬ (i : Int) < (a0.length : Int) := by omega
                      go_wp2_with fail
                      go_roundg (a1.length - (j + 1))
                      case measure => omega
                      case rel => exact ⟨j + 1, F6, q6, _, by simp, by omega, by omega, HP9, hq6⟩
            · by_cases k3 : kd = 3
              · subst k3
                clear k1 k2
                go_wp2_with fail
                have HKN : Hid (¬ F wr.heap.size) := Lib.hid (fun f => by have := qrySpec.lt HP.out.on.at_ _ f; omega)
                have HPW := Lib.hid (HP.out.below ((Below.refl wr.heap.size wr).alloc (Nat.le_refl _) (.cells #[.int .i64 3, .string t] 37)))
                have HKW := Lib.hid (Row.new wr 37 [.int .i64 3, .string t])
                have hW : wr.alloc (.cells [.int .i64 3, .string t].toArray 37) = wr.alloc (.cells #[.int .i64 3, .string t] 37) := rfl
                rw [hW] at HKW
                have HSD := Lib.hid (HPW.out.side (kb := wr.heap.size) HKW.out.lt HKN.out)
                clear hW HP hc0 hc1 HKN
                generalize wr.alloc (.cells #[.int .i64 3, .string t] 37) = W at *
                generalize wr.heap.size = kb at *
                have n1 : W.cell? ⟨kb, 1, none⟩ = some (.string t) := HKW.out.cell 1
                have n0 : W.cell? ⟨kb, 0, none⟩ = some (.int .i64 3) := HKW.out.cell 0
                go_wp2_with fail
                refine (HSD.out.date t rfl).mono ?_
                rintro e w5 ⟨F6, rfl, h5⟩
                have n1' : w5.cell? ⟨kb, 1, none⟩ = some (.string t) := (h5.row HKW.out (.inl rfl)).cell 1
                have h6 := HPW.out.back h5
                have HC5 := Lib.hid (HC.out.below h6.on.bel)
                have HD5 := Lib.hid (h6.dateR t HC5.out lc0 cm0 (by omega) HPW.out.on.ok)
                clear h5 h6 HSD HPW HKW n0 n1
                go_wp2_with fail
                refine HD5.out.mono ?_
                rintro e w6 ⟨v6, rfl, h7⟩
                have HP6 := Lib.hid h7
                have hq6 : (q.date t).came.length ≤ (j + 1) * 100 := by show q.came.length ≤ _; omega
                clear h7 HD5 HC5 n1'
                generalize q.date t = q6 at *
                have HP6q := HP6.out
                obtain ⟨base6, hA6⟩ := HP6q.ans
                have hr6 := HP6q.row
                clear HP6q
                go_wp2_with fail
                refine (HP6.out.answers rfl).mono ?_
                rintro e w7 ⟨u7, rfl, hu7, h7, hub⟩
                have HP7 := Lib.hid h7
                have HUB := Lib.hid hub
                have m1 : w7.cell? ⟨g, 1, none⟩ = some v6 := h7.row.cell 1
                obtain ⟨o7, c7, hsl⟩ := hu7.isSl
                rw [QS.found_len] at hsl
                obtain ⟨ov, cv, hov⟩ := HP7.out.ans.choose_spec.isSl
                rw [QS.found_len] at hov
                have HSm := Lib.hid (refSame18_any hu7 HP7.out.ans.choose_spec (by rw [QS.found_len]; omega))
                have HSH : Hid (0 < a0.length → ∃ g7, o7 = some ⟨g7, 0, none⟩ ∧ a0.length ≤ c7) := Lib.hid (fun h0 => by
                  have hfl := QS.found_len q6 a0
                  rcases hu7.shape with ⟨h1, h2⟩ | ⟨g, c, h1, h2, _⟩
                  · rw [h2] at hfl; simp at hfl; omega
                  · rw [hsl] at h1; injection h1 with e1 e2 e3; subst e3; rw [hfl] at h2; exact ⟨g, e1, h2⟩)
                subst hsl
                subst hov
                have HRW : Hid (∀ g7, o7 = some ⟨g7, 0, none⟩ → ∃ L, Row w7 g7 43 L ∧ a0.length * 2 ≤ L.length) := Lib.hid (fun g7 e => by subst e; exact hu7.rowOf)
                clear hu7 h7 hub HP6 hA6 hr6
                go_wp2_with fail
                refine HSm.out.mono ?_
                rintro e w8 ⟨rfl, n8, rfl⟩
                have HP8 := Lib.hid (HP7.out.drewN n8)
                have HR8 : Hid (∀ g7, o7 = some ⟨g7, 0, none⟩ → ∃ L, Row (w7.drewN n8) g7 43 L ∧ a0.length * 2 ≤ L.length) := HRW
                clear HP7 HSm m1 HRW
                generalize w7.drewN n8 = w8 at *
                go_wp2_with fail
                go_loopg [100] a0.length (fun gk iv wq => ∃ (i : Nat), iv = .int .i64 (i : Int) ∧ i ≤ a0.length ∧ a0.length - i ≤ gk ∧ Hid (QR w wq o0 c0 a0 k F6 q6 g q6 (.slice ov a0.length cv)) ∧ Hid (∀ g7, o7 = some ⟨g7, 0, none⟩ → ∃ L, Row wq g7 43 L ∧ a0.length * 2 ≤ L.length))
                case atStart => exact ⟨0, rfl, by omega, by omega, HP8, HR8⟩
                case round =>
                  clear HP8 HR8
                  obtain ⟨i, rfl, hi, hgk2, HP9, HX⟩ := hrel
                  by_cases hli : i < a0.length
                  · have hli2 : (i : Int) < (a0.length : Int) := by omega
                    obtain ⟨g7, rfl, hc7⟩ := HSH.out (by omega)
                    obtain ⟨L, hL, hLl⟩ := HX.out g7 rfl
                    have hub := HUB.out g7 rfl
                    have x0 : wr.cell? ⟨g7, i * 2, none⟩ = some (L[i * 2]'(by omega)) := by rw [hL.cell, List.getElem?_eq_getElem]
                    have f0 := hL.frozen (i * 2)
                    have hL2 := hL.set (i * 2) (.bool true)
                    have x1 : (wr.setCell ⟨g7, i * 2, none⟩ (.bool true)).cell? ⟨g7, i * 2 + 1, none⟩ = some ((L.set (i * 2) (.bool true))[i * 2 + 1]'(by rw [List.length_set]; omega)) := by rw [hL2.cell, List.getElem?_eq_getElem]
                    have f1 := hL2.frozen (i * 2 + 1)
                    have HP10 : Hid (QR w ((wr.setCell ⟨g7, i * 2, none⟩ (.bool true)).setCell ⟨g7, i * 2 + 1, none⟩ (.string ⟨#[120]⟩)) o0 c0 a0 k F6 q6 g q6 (.slice ov a0.length cv)) := Lib.hid ((HP9.out.aside (chg_set18 wr g7 (i * 2) (.bool true)) hub.1 hub.2.1 hub.2.2.1 hub.2.2.2).aside (chg_set18 _ g7 (i * 2 + 1) (.string ⟨#[120]⟩)) hub.1 hub.2.1 hub.2.2.1 hub.2.2.2)
                    have HX10 : Hid (∀ g8, some (⟨g7, 0, none⟩ : Addr) = some ⟨g8, 0, none⟩ → ∃ L, Row ((wr.setCell ⟨g7, i * 2, none⟩ (.bool true)).setCell ⟨g7, i * 2 + 1, none⟩ (.string ⟨#[120]⟩)) g8 43 L ∧ a0.length * 2 ≤ L.length) := Lib.hid (fun g8 e => by
                      injection e with e
                      injection e with e
                      subst e
                      exact ⟨_, hL2.set (i * 2 + 1) (.string ⟨#[120]⟩), by rw [List.length_set, List.length_set]; exact hLl⟩)
                    have hi7 : i < c7 := by omega
                    generalize L[i * 2]'(by omega) = y0 at *
                    generalize (L.set (i * 2) (.bool true))[i * 2 + 1]'(by rw [List.length_set]; omega) = y1 at *
                    clear hL hL2 hLl hub HP9 HX
                    go_wp2_with fail
                    go_roundg (a0.length - (i + 1))
                    case measure => omega
                    case rel => exact ⟨i + 1, by simp, by omega, by omega, HP10, HX10⟩
                  · have hli2 : ¬ (i : Int) < (a0.length : Int) := by omega
                    go_wp2_with fail
                    go_roundg (a1.length - (j + 1))
                    case measure => omega
                    case rel => exact ⟨j + 1, F6, q6, _, by simp, by omega, by omega, HP9, hq6⟩
              · have e1 : (kd == 1) = false := by simpa using k1
                have e2 : (kd == 2) = false := by simpa using k2
                have e3 : (kd == 3) = false := by simpa using k3
                clear k1 k2 k3
                go_wp2_with fail
                have HKN : Hid (¬ F wr.heap.size) := Lib.hid (fun f => by have := qrySpec.lt HP.out.on.at_ _ f; omega)
                have HPW := Lib.hid (HP.out.below ((Below.refl wr.heap.size wr).alloc (Nat.le_refl _) (.cells #[.int .i64 kd, .string t] 37)))
                have HKW := Lib.hid (Row.new wr 37 [.int .i64 kd, .string t])
                have hW : wr.alloc (.cells [.int .i64 kd, .string t].toArray 37) = wr.alloc (.cells #[.int .i64 kd, .string t] 37) := rfl
                rw [hW] at HKW
                have HSD := Lib.hid (HPW.out.side (kb := wr.heap.size) HKW.out.lt HKN.out)
                clear hW HP hc0 hc1 HKN
                generalize wr.alloc (.cells #[.int .i64 kd, .string t] 37) = W at *
                generalize wr.heap.size = kb at *
                have n1 : W.cell? ⟨kb, 1, none⟩ = some (.string t) := HKW.out.cell 1
                have n0 : W.cell? ⟨kb, 0, none⟩ = some (.int .i64 kd) := HKW.out.cell 0
                go_upto_region 24 with (fail)
                clear HSD HKW n0 n1 e1 e2 e3
                obtain ⟨F6, hF6⟩ : ∃ F6, F6 = F := ⟨_, rfl⟩
                obtain ⟨w6, hw6⟩ : ∃ w6, w6 = W := ⟨_, rfl⟩
                have HP6 : Hid (QR w w6 o0 c0 a0 k F6 q g q v) := by rw [hF6, hw6]; exact HPW
                rw [← hw6]
                clear hF6 hw6 HPW
                have hq6 : q.came.length ≤ (j + 1) * 100 := by omega
                generalize q = q6 at *
                obtain ⟨v6, hv6⟩ : ∃ v6, v6 = v := ⟨_, rfl⟩
                rw [← hv6] at HP6
                clear hv6
                have HP6q := HP6.out
                obtain ⟨base6, hA6⟩ := HP6q.ans
                have hr6 := HP6q.row
                clear HP6q
                go_wp2_with fail
                refine (HP6.out.answers rfl).mono ?_
                rintro e w7 ⟨u7, rfl, hu7, h7, hub⟩
                have HP7 := Lib.hid h7
                have HUB := Lib.hid hub
                have m1 : w7.cell? ⟨g, 1, none⟩ = some v6 := h7.row.cell 1
                obtain ⟨o7, c7, hsl⟩ := hu7.isSl
                rw [QS.found_len] at hsl
                obtain ⟨ov, cv, hov⟩ := HP7.out.ans.choose_spec.isSl
                rw [QS.found_len] at hov
                have HSm := Lib.hid (refSame18_any hu7 HP7.out.ans.choose_spec (by rw [QS.found_len]; omega))
                have HSH : Hid (0 < a0.length → ∃ g7, o7 = some ⟨g7, 0, none⟩ ∧ a0.length ≤ c7) := Lib.hid (fun h0 => by
                  have hfl := QS.found_len q6 a0
                  rcases hu7.shape with ⟨h1, h2⟩ | ⟨g, c, h1, h2, _⟩
                  · rw [h2] at hfl; simp at hfl; omega
                  · rw [hsl] at h1; injection h1 with e1 e2 e3; subst e3; rw [hfl] at h2; exact ⟨g, e1, h2⟩)
                subst hsl
                subst hov
                have HRW : Hid (∀ g7, o7 = some ⟨g7, 0, none⟩ → ∃ L, Row w7 g7 43 L ∧ a0.length * 2 ≤ L.length) := Lib.hid (fun g7 e => by subst e; exact hu7.rowOf)
                clear hu7 h7 hub HP6 hA6 hr6
                go_wp2_with fail
                refine HSm.out.mono ?_
                rintro e w8 ⟨rfl, n8, rfl⟩
                have HP8 := Lib.hid (HP7.out.drewN n8)
                have HR8 : Hid (∀ g7, o7 = some ⟨g7, 0, none⟩ → ∃ L, Row (w7.drewN n8) g7 43 L ∧ a0.length * 2 ≤ L.length) := HRW
                clear HP7 HSm m1 HRW
                generalize w7.drewN n8 = w8 at *
                go_wp2_with fail
                go_loopg [100] a0.length (fun gk iv wq => ∃ (i : Nat), iv = .int .i64 (i : Int) ∧ i ≤ a0.length ∧ a0.length - i ≤ gk ∧ Hid (QR w wq o0 c0 a0 k F6 q6 g q6 (.slice ov a0.length cv)) ∧ Hid (∀ g7, o7 = some ⟨g7, 0, none⟩ → ∃ L, Row wq g7 43 L ∧ a0.length * 2 ≤ L.length))
                case atStart => exact ⟨0, rfl, by omega, by omega, HP8, HR8⟩
                case round =>
                  clear HP8 HR8
                  obtain ⟨i, rfl, hi, hgk2, HP9, HX⟩ := hrel
                  by_cases hli : i < a0.length
                  · have hli2 : (i : Int) < (a0.length : Int) := by omega
                    obtain ⟨g7, rfl, hc7⟩ := HSH.out (by omega)
                    obtain ⟨L, hL, hLl⟩ := HX.out g7 rfl
                    have hub := HUB.out g7 rfl
                    have x0 : wr.cell? ⟨g7, i * 2, none⟩ = some (L[i * 2]'(by omega)) := by rw [hL.cell, List.getElem?_eq_getElem]
                    have f0 := hL.frozen (i * 2)
                    have hL2 := hL.set (i * 2) (.bool true)
                    have x1 : (wr.setCell ⟨g7, i * 2, none⟩ (.bool true)).cell? ⟨g7, i * 2 + 1, none⟩ = some ((L.set (i * 2) (.bool true))[i * 2 + 1]'(by rw [List.length_set]; omega)) := by rw [hL2.cell, List.getElem?_eq_getElem]
                    have f1 := hL2.frozen (i * 2 + 1)
                    have HP10 : Hid (QR w ((wr.setCell ⟨g7, i * 2, none⟩ (.bool true)).setCell ⟨g7, i * 2 + 1, none⟩ (.string ⟨#[120]⟩)) o0 c0 a0 k F6 q6 g q6 (.slice ov a0.length cv)) := Lib.hid ((HP9.out.aside (chg_set18 wr g7 (i * 2) (.bool true)) hub.1 hub.2.1 hub.2.2.1 hub.2.2.2).aside (chg_set18 _ g7 (i * 2 + 1) (.string ⟨#[120]⟩)) hub.1 hub.2.1 hub.2.2.1 hub.2.2.2)
                    have HX10 : Hid (∀ g8, some (⟨g7, 0, none⟩ : Addr) = some ⟨g8, 0, none⟩ → ∃ L, Row ((wr.setCell ⟨g7, i * 2, none⟩ (.bool true)).setCell ⟨g7, i * 2 + 1, none⟩ (.string ⟨#[120]⟩)) g8 43 L ∧ a0.length * 2 ≤ L.length) := Lib.hid (fun g8 e => by
                      injection e with e
                      injection e with e
                      subst e
                      exact ⟨_, hL2.set (i * 2 + 1) (.string ⟨#[120]⟩), by rw [List.length_set, List.length_set]; exact hLl⟩)
                    have hi7 : i < c7 := by omega
                    generalize L[i * 2]'(by omega) = y0 at *
                    generalize (L.set (i * 2) (.bool true))[i * 2 + 1]'(by rw [List.length_set]; omega) = y1 at *
                    clear hL hL2 hLl hub HP9 HX
                    go_wp2_with fail
                    go_roundg (a0.length - (i + 1))
                    case measure => omega
                    case rel => exact ⟨i + 1, by simp, by omega, by omega, HP10, HX10⟩
                  · have hli2 : ¬ (i : Int) < (a0.length : Int) := by omega
                    go_wp2_with fail
                    go_roundg (a1.length - (j + 1))
                    case measure => omega
                    case rel => exact ⟨j + 1, F6, q6, _, by simp, by omega, by omega, HP9, hq6⟩
        · have hlt2 : ¬ (j : Int) < (a1.length : Int) := by omega
          have hB := HP.out.on.bel
          clear HP
          go_wp2
          go_returns
          exact ⟨rfl, hB⟩


/-! ### QueryPlays: the step from the walk to the statement -/
namespace queryPlays
theorem own : ownKnob Try.prog.godebug = none := by kernel_rfl
theorem laidOut : laidOutB Try.prog = true := by kernel_rfl
set_option maxRecDepth 100000 in
theorem lifted (os : Os) (started : os.Started) (H : Type) (enc : TypeId × Value → H) :
    ReturnsInHanded {} Try.checked os 4 .any (Rows.queryPlaysSpec.pre6 enc Try.prog Try.f4 Rows.queryPlaysRow.domain false) (Rows.queryPlaysSpec.post enc Try.prog Try.f4 false true false false) := by
  refine returnsInHanded_of_change (C := Try.checked) own started (by kernel_rfl) Try.func4
    (ChangeSpec.witness6 (enc := enc) (C := Try.checked) false ⟨#[], #[.slice none 0 0, .slice none 0 0], []⟩ 8 (by kernel_rfl) (by kernel_rfl) (by kernel_rfl) (by kernel_rfl)) ?_
  intro W base args ds gs before hval0 hW hcnd _
  have hval : ∀ (j : Nat) t v, Try.f4.params[j]? = some t → args[j]? = some v → Value.okWide Try.prog W .any base t v := hval0
  have hW' := hW
  obtain ⟨p, q, hA0, hV, rfl, hfz, hnd⟩ := hW
  have hA : DataW.TrodAll enc Try.prog W 0 (fun _ => true) true Try.f4.params.toList args.toList ds p := hA0
  rw [Try.params4] at hA hval
  obtain ⟨v0, vs0, d0, ds0, p0, q0, hargs, rfl, rfl, h0, r0⟩ := trodAll_cons hA
  obtain ⟨v1, vs1, d1, ds1, p1, q1, rfl, rfl, rfl, h1, r1⟩ := trodAll_cons r0
  obtain ⟨rfl, rfl, rfl⟩ := trodAll_nil r1
  obtain rfl : args = #[v0, v1] := by cases args; simp_all
  obtain ⟨rfl, rfl⟩ := trodVars_none hV
  obtain ⟨o0, len0, c0, rfl⟩ := okWide_slice Try.underlying22 (hval 0 22 v0 rfl rfl)
  have k0 := h0
  have lt0 : ∀ x ∈ p0, x.block < W.heap.size := by obtain ⟨m, hm⟩ := k0; exact DataW.trod_lt m _ _ _ hm
  obtain ⟨a0, rfl, lc0, cm0, ca0, el0⟩ := (came_strs Try.underlying22 Try.underlying9 (by kernel_rfl) h0)
  obtain ⟨o1, len1, c1, rfl⟩ := okWide_slice Try.underlying33 (hval 1 33 v1 rfl rfl)
  have k1 := h1
  have lt1 : ∀ x ∈ p1, x.block < W.heap.size := by obtain ⟨m, hm⟩ := k1; exact DataW.trod_lt m _ _ _ hm
  obtain ⟨a1, rfl, lc1, cm1, ca1, el1⟩ := (came_kt Try.underlying33 Try.underlying37 (by kernel_rfl) rfl rfl (by kernel_rfl) (by kernel_rfl) Try.underlying3 Try.underlying9 h1)
  clear hA0 hval0
  refine (walkQueryPlays o0 c0 a0 o1 c1 a1 lc0 cm0 el0 lc1 cm1 el1 W ca0 ca1).mono fun e W' ⟨he, bel⟩ => ?_
  subst he
  exact ⟨_, rfl, _, _, _, [], _, [], hW', trodAll_mk1 (shut_bool Try.underlying4 _), (trodAll_cons_mk (Below.trod laidOut (by kernel_rfl) (of_decide_eq_true (by kernel_rfl)) k0 bel lt0) (trodAll_cons_mk (Below.trod laidOut (by kernel_rfl) (of_decide_eq_true (by kernel_rfl)) k1 bel lt1) trodAll_mk0)), rfl, bel.frame _, fun h => by cases h⟩
theorem over : Rows.queryPlaysRow.holds Try.pinned (OpenSpec.ofChange Rows.queryPlaysSpec) :=
  OpenClaim.holds_of_wide 4 Try.f4 rfl rfl rfl rfl rfl rfl rfl ⟨rfl, rfl, rfl, rfl, rfl⟩ rfl rfl rfl rfl rfl (by kernel_rfl) Try.func4 (by kernel_rfl)
    (of_decide_eq_true (by kernel_rfl)) (by unfold Func.isWrapper; first | (rw [if_pos (by decide +kernel)]; kernel_rfl) | (rw [if_neg (by decide +kernel)]; exact ⟨rfl, rfl⟩))
    (fun os started H enc _ => lifted os started H enc)
/-- THE STATEMENT. -/
theorem proved : Rows.QueryPlaysSaid := over
end queryPlays
end Go.Proofs.Ytpdflpobhmpbpaa
