/- Of every texts, serial number and date (within the same bounds): the first date that comes for a serial number stays, for all that ask for it. No condition but the form of the row. -/
import Derived.Test.YtpdflpobhmpbpaaQrySide
import Derived.Test.YtpdflpobhmpbpaaCameReach
import Derived.Test.YtpdflpobhmpbpaaRows
import Derived.WalkKit
import Derived.ProofKit
import Derived.OpenShut
import Derived.ShutString
import Derived.ChangeOld
import Derived.Below
import Derived.Carry
import Derived.SizedLaws
namespace Go.Proofs.Ytpdflpobhmpbpaa
open Go.ChangeShapes Go.WideShapes Go.ChangeAt Go.RowKit
open Go.ChangeMaps (open_string shut_string)
set_option linter.unusedVariables false
open Go.PlainAid in
set_option maxRecDepth 100000 in
set_option maxHeartbeats 16000000 in
theorem walkQueryFirst (o0 : Option Addr) (c0 : Nat) (a0 : List ByteArray) (a1 : ByteArray) (a2 : ByteArray) (lc0 : a0.length ≤ c0) (cm0 : c0 ≤ maxLen) (el0 : ∀ x ∈ a0, x.size ≤ maxLen) (r0 : a0.length * 16 ≤ 140737488351232) (b1 : a1.size ≤ maxLen) (r1 : a1.size ≤ 140737488351232) (b2 : a2.size ≤ maxLen) (r2 : a2.size ≤ 140737488351232) (w : World) (ca0 : Came w o0 (svs a0)) :
    Calls Try.prog 5 #[.slice o0 a0.length c0, .string a1, .string a2] w fun e w' => e = .returned (.bool true) ∧ Below w.heap.size w w' := by
  have HC := Lib.hid ca0
  have HS := Lib.hid el0
  clear ca0 el0
  have hb1 : (a1.size : Int) ≤ 9223372036854775807 := by unfold maxLen at b1; omega
  have hb2 : (a2.size : Int) ≤ 9223372036854775807 := by unfold maxLen at b2; omega
  have HS2 : Hid (∀ x ∈ [a1, a2] ++ a0, x.size ≤ maxLen) := Lib.hid (fun x hx => by
    rcases List.mem_append.1 hx with h | h
    · simp at h
      rcases h with rfl | rfl
      · exact b1
      · exact b2
    · exact HS.out x h)
  have HLL : Hid (greatB ([a1, a2] ++ a0) [] = false → a0.length ≤ 198 ∧ a1.size ≤ 100 ∧ a2.size ≤ 100) := Lib.hid (fun h => by
    obtain ⟨h1, _, h2, _⟩ := greatB_no h
    exact ⟨by simp at h1; omega, h2 a1 (by simp), h2 a2 (by simp)⟩)
  obtain ⟨L, hLL⟩ : ∃ L, [a1, a2] ++ a0 = L := ⟨_, rfl⟩
  rw [hLL] at HS2 HLL
  cases hg : greatB L [] with
  | true =>
    clear HLL
    go_enter Try.func5, Try.ntmps5
    go_wp2_with fail
    refine (awake18_any _).mono ?_
    rintro e w1 ⟨rfl, hb1⟩
    have HB1 := Lib.hid hb1
    clear hb1
    have HEq : Hid (Sl (w1.alloc (.cells #[.string a1, .string a2] 9)) 9 (.slice (some ⟨w1.heap.size, 0, none⟩) 2 2) (svs [a1, a2]) w1.heap.size) := Lib.hid (sl_new_strs w1 [a1, a2] (by show 2 ≤ maxLen; unfold maxLen; omega))
    have HCq : Hid (Came (w1.alloc (.cells #[.string a1, .string a2] 9)) o0 (svs a0)) := Lib.hid ((HC.out.below HB1.out).alloc _)
    have HBq : Hid (Below w.heap.size w (w1.alloc (.cells #[.string a1, .string a2] 9))) := Lib.hid (HB1.out.alloc HB1.out.size _)
    have hq9 : (([a1, a2] : List ByteArray).length + a0.length) * 16 ≤ 140737488355328 := by show (2 + a0.length) * 16 ≤ _; omega
    have hw8 : w.heap.size ≤ w1.heap.size := HB1.out.size
    go_wp2_with (at_builtin; refine wpList_append_strs_on (by first | rfl | kernel_rfl | decide) (.tmp 20) (.tmp 21) rfl (l := [a1, a2]) (g := w1.heap.size) rfl HEq.out o0 a0.length c0 a0 rfl rfl HCq.out hq9 ?_)
    intro v2 w2 g2 hs2 hg2 hgr2
    replace hs2 : Sl w2 9 v2 (svs L) g2 := by first | exact hs2 | (rw [← hLL]; exact hs2)
    obtain ⟨c2, rfl, hc2, hcm2⟩ := hs2.open (n := L.length) (svs_length _)
    have HB2 : Hid (Below w.heap.size w w2) := Lib.hid (Below.grown HBq.out hgr2 HBq.out.size (by intro q hq; injection hq with hq; omega))
    have HC2 : Hid (Came w2 (some ⟨g2, 0, none⟩) (svs L)) := Lib.hid (Came.sl hs2)
    clear hs2 hg2 hgr2 HEq HCq HBq hq9 hw8
    go_wp2_with fail
    refine (great18_any (some ⟨g2, 0, none⟩) c2 L none 0 [] w2 HC2.out (Came.nil _ _) hc2 hcm2 (Nat.le_refl _) (Nat.zero_le _) HS2.out (by simp)).mono ?_
    rintro e w3 ⟨rfl, hb3⟩
    have HB3 := Lib.hid (HB2.out.trans (hb3.mono HB2.out.size))
    clear hb3 HB2 HC2 hc2 hcm2
    rw [hg]
    go_wp2_with fail
    refine (awake18_any _).mono ?_
    rintro e wz ⟨rfl, hbz⟩
    have hBZ := (HB3.out).trans (hbz.mono (HB3.out).size)
    clear hbz
    go_wp2
    go_returns
    exact ⟨rfl, hBZ⟩
  | false =>
    obtain ⟨hl198, h1s, h2s⟩ := HLL.out hg
    clear HLL
    have h9 : (a0.length : Int) ≤ 198 := by omega
    cases hs : serAll a0 with
    | false =>
      go_enter Try.func5, Try.ntmps5
      go_wp2_with fail
      refine (awake18_any _).mono ?_
      rintro e w1 ⟨rfl, hb1⟩
      have HB1 := Lib.hid hb1
      clear hb1
      have HEq : Hid (Sl (w1.alloc (.cells #[.string a1, .string a2] 9)) 9 (.slice (some ⟨w1.heap.size, 0, none⟩) 2 2) (svs [a1, a2]) w1.heap.size) := Lib.hid (sl_new_strs w1 [a1, a2] (by show 2 ≤ maxLen; unfold maxLen; omega))
      have HCq : Hid (Came (w1.alloc (.cells #[.string a1, .string a2] 9)) o0 (svs a0)) := Lib.hid ((HC.out.below HB1.out).alloc _)
      have HBq : Hid (Below w.heap.size w (w1.alloc (.cells #[.string a1, .string a2] 9))) := Lib.hid (HB1.out.alloc HB1.out.size _)
      have hq9 : (([a1, a2] : List ByteArray).length + a0.length) * 16 ≤ 140737488355328 := by show (2 + a0.length) * 16 ≤ _; omega
      have hw8 : w.heap.size ≤ w1.heap.size := HB1.out.size
      go_wp2_with (at_builtin; refine wpList_append_strs_on (by first | rfl | kernel_rfl | decide) (.tmp 20) (.tmp 21) rfl (l := [a1, a2]) (g := w1.heap.size) rfl HEq.out o0 a0.length c0 a0 rfl rfl HCq.out hq9 ?_)
      intro v2 w2 g2 hs2 hg2 hgr2
      replace hs2 : Sl w2 9 v2 (svs L) g2 := by first | exact hs2 | (rw [← hLL]; exact hs2)
      obtain ⟨c2, rfl, hc2, hcm2⟩ := hs2.open (n := L.length) (svs_length _)
      have HB2 : Hid (Below w.heap.size w w2) := Lib.hid (Below.grown HBq.out hgr2 HBq.out.size (by intro q hq; injection hq with hq; omega))
      have HC2 : Hid (Came w2 (some ⟨g2, 0, none⟩) (svs L)) := Lib.hid (Came.sl hs2)
      clear hs2 hg2 hgr2 HEq HCq HBq hq9 hw8
      go_wp2_with fail
      refine (great18_any (some ⟨g2, 0, none⟩) c2 L none 0 [] w2 HC2.out (Came.nil _ _) hc2 hcm2 (Nat.le_refl _) (Nat.zero_le _) HS2.out (by simp)).mono ?_
      rintro e w3 ⟨rfl, hb3⟩
      have HB3 := Lib.hid (HB2.out.trans (hb3.mono HB2.out.size))
      clear hb3 HB2 HC2 hc2 hcm2
      rw [hg]
      go_wp2_with fail
      refine (refAll_any o0 c0 a0 w3 (HC.out.below HB3.out) lc0 cm0 HS.out).mono ?_
      rintro e w2 ⟨rfl, rfl⟩
      rw [hs]
      go_wp2_with fail
      refine (awake18_any _).mono ?_
      rintro e wz ⟨rfl, hbz⟩
      have hBZ := (HB3.out).trans (hbz.mono (HB3.out).size)
      clear hbz
      go_wp2
      go_returns
      exact ⟨rfl, hBZ⟩
    | true =>
      obtain ⟨D2, hD2⟩ : ∃ D2, a2 ++ ⟨#[108, 97, 116, 101, 114]⟩ = D2 := ⟨_, rfl⟩
      have hov : ¬ 9223372036854775807 < a2.size + (⟨#[108, 97, 116, 101, 114]⟩ : ByteArray).size := by show ¬ 9223372036854775807 < a2.size + 5; omega
      go_enter Try.func5, Try.ntmps5
      go_wp2_with fail
      refine (awake18_any _).mono ?_
      rintro e w1 ⟨rfl, hb1⟩
      have HB1 := Lib.hid hb1
      clear hb1
      have HEq : Hid (Sl (w1.alloc (.cells #[.string a1, .string a2] 9)) 9 (.slice (some ⟨w1.heap.size, 0, none⟩) 2 2) (svs [a1, a2]) w1.heap.size) := Lib.hid (sl_new_strs w1 [a1, a2] (by show 2 ≤ maxLen; unfold maxLen; omega))
      have HCq : Hid (Came (w1.alloc (.cells #[.string a1, .string a2] 9)) o0 (svs a0)) := Lib.hid ((HC.out.below HB1.out).alloc _)
      have HBq : Hid (Below w.heap.size w (w1.alloc (.cells #[.string a1, .string a2] 9))) := Lib.hid (HB1.out.alloc HB1.out.size _)
      have hq9 : (([a1, a2] : List ByteArray).length + a0.length) * 16 ≤ 140737488355328 := by show (2 + a0.length) * 16 ≤ _; omega
      have hw8 : w.heap.size ≤ w1.heap.size := HB1.out.size
      go_wp2_with (at_builtin; refine wpList_append_strs_on (by first | rfl | kernel_rfl | decide) (.tmp 20) (.tmp 21) rfl (l := [a1, a2]) (g := w1.heap.size) rfl HEq.out o0 a0.length c0 a0 rfl rfl HCq.out hq9 ?_)
      intro v2 w2 g2 hs2 hg2 hgr2
      replace hs2 : Sl w2 9 v2 (svs L) g2 := by first | exact hs2 | (rw [← hLL]; exact hs2)
      obtain ⟨c2, rfl, hc2, hcm2⟩ := hs2.open (n := L.length) (svs_length _)
      have HB2 : Hid (Below w.heap.size w w2) := Lib.hid (Below.grown HBq.out hgr2 HBq.out.size (by intro q hq; injection hq with hq; omega))
      have HC2 : Hid (Came w2 (some ⟨g2, 0, none⟩) (svs L)) := Lib.hid (Came.sl hs2)
      clear hs2 hg2 hgr2 HEq HCq HBq hq9 hw8
      go_wp2_with fail
      refine (great18_any (some ⟨g2, 0, none⟩) c2 L none 0 [] w2 HC2.out (Came.nil _ _) hc2 hcm2 (Nat.le_refl _) (Nat.zero_le _) HS2.out (by simp)).mono ?_
      rintro e w3 ⟨rfl, hb3⟩
      have HB3 := Lib.hid (HB2.out.trans (hb3.mono HB2.out.size))
      clear hb3 HB2 HC2 hc2 hcm2
      rw [hg]
      go_wp2_with fail
      refine (refAll_any o0 c0 a0 w3 (HC.out.below HB3.out) lc0 cm0 HS.out).mono ?_
      rintro e w2 ⟨rfl, rfl⟩
      rw [hs]
      clear hg HB1 HS2 hLL
      have HEm : Hid (Sl (w2.alloc (.cells #[] 9)) 9 (.slice (some ⟨w2.heap.size, 0, none⟩) 0 0) (svs []) w2.heap.size) := Lib.hid (sl_new_strs w2 [] (Nat.zero_le _))
      have HCa : Hid (Came (w2.alloc (.cells #[] 9)) o0 (svs a0)) := Lib.hid ((HC.out.below HB3.out).alloc _)
      have HBa : Hid (Below w.heap.size w (w2.alloc (.cells #[] 9))) := Lib.hid (HB3.out.alloc HB3.out.size _)
      have hl9 : ([] : List ByteArray).length + a0.length ≤ 1000000000000 := by rw [List.length_nil]; omega
      have hw9 : w.heap.size ≤ w2.heap.size := HB3.out.size
      go_wp2_with (at_builtin; refine wpList_append_strs rfl (.tmp 32) (.tmp 33) rfl (l := []) (g := w2.heap.size) rfl HEm.out o0 a0.length c0 a0 rfl rfl HCa.out hl9 ?_)
      intro v3 w4 g3 hs3 hg3 hgr3
      replace hs3 : Sl w4 9 v3 (svs a0) g3 := hs3
      obtain ⟨c3, rfl, hc3, hcm3⟩ := hs3.open (n := a0.length) (svs_length a0)
      have HB4 : Hid (Below w.heap.size w w4) := Lib.hid (Below.grown HBa.out hgr3 HBa.out.size (by intro q hq; injection hq with hq; omega))
      have HC3 : Hid (Came w4 (some ⟨g3, 0, none⟩) (svs a0)) := Lib.hid (Came.sl hs3)
      clear hs3 hg3 hgr3 HEm HCa HBa hl9 hw9
      go_wp2_with fail
      refine (qrySpec.new_on HC3.out hc3 hcm3 hs HB4.out).mono ?_
      rintro e w5 ⟨k, F, rfl, h5, _, _⟩
      go_upto_region 7 with (fail)
      have hZ : w5.alloc (.cells #[.string a2, .string D2] 9) = w5.alloc (.cells [Value.string a2, .string D2].toArray 9) := rfl
      have HR0 : Hid (Row (w5.alloc (.cells [Value.string a2, .string D2].toArray 9)) w5.heap.size 9 [.string a2, .string D2]) := Lib.hid (Row.new w5 _ [.string a2, .string D2])
      have H5 : Hid (QSd w (w5.alloc (.cells [Value.string a2, .string D2].toArray 9)) (w5.alloc (.cells [Value.string a2, .string D2].toArray 9)) (fun i => i = w5.heap.size) k F a0 QS.zero) := Lib.hid (QSd.start (h5.below qrySpec ((Below.refl _ _).alloc (Nat.le_refl _) _)) (fun i hi => by simp; omega) (fun i hi hf => by have := qrySpec.lt h5.at_ i hf; omega))
      clear h5 HC3 hs HB3 HB4
      rw [hZ]
      clear hZ
      generalize w5.alloc (.cells [Value.string a2, .string D2].toArray 9) = z at *
      generalize w5.heap.size = bD at *
      clear hov hD2
      go_wp2_with fail
      go_loopg [45] 2 (fun gk jv wr => ∃ (j : Nat) (F : Nat → Prop) (q : QS), jv = .int .i64 (j : Int) ∧ j ≤ 2 ∧ 2 - j ≤ gk ∧ Hid (QSd w z wr (fun i => i = bD) k F a0 q) ∧ Hid (∀ x, q.ans x = if j = 0 then (false, ⟨#[]⟩) else if x = a1 then (true, a2) else (false, ⟨#[]⟩)))
      case atStart => exact ⟨0, F, QS.zero, rfl, by omega, by omega, H5, Lib.hid (fun x => rfl)⟩
      case round =>
        clear H5
        obtain ⟨j, F, q, rfl, hj, hgk, HQ, HA⟩ := hrel
        by_cases hlt : j < 2
        · have hlt2 : (j : Int) < 2 := by omega
          obtain ⟨d, hd, hcell⟩ : ∃ d, (j = 0 → d = a2) ∧ wr.cell? ⟨bD, j, none⟩ = some (.string d) := by
            have hr := HQ.out.row HR0.out rfl
            rcases (show j = 0 ∨ j = 1 by omega) with rfl | rfl
            · exact ⟨a2, fun _ => rfl, hr.cell 0⟩
            · exact ⟨D2, fun h => by omega, hr.cell 1⟩
          have HAN : Hid (∀ x, (((q.begin).all (bl a1)).date d).ans x = if x = a1 then (true, a2) else (false, ⟨#[]⟩)) := Lib.hid (fun x => by
            rcases (show j = 0 ∨ j = 1 by omega) with rfl | rfl
            · rw [QS.first' q a1 d (fun x => by rw [HA.out x]; rfl), hd rfl]
            · rw [QS.again q a1 d (by rw [HA.out a1]; simp), HA.out x]; rfl)
          clear HA hd
          go_wp2_with fail
          refine (HQ.out.begin rfl).mono ?_
          rintro e w6 ⟨F6, rfl, h6⟩
          have H6 : Hid (QSd w z w6 (fun i => i = bD) k F6 a0 (q.begin.all ((bl a1).take 0))) := Lib.hid (by rw [List.take_zero, QS.all_nil]; exact h6)
          clear h6 HQ hcell
          go_wp2_with fail
          go_loopg [53] a1.size (fun gk iv wq => ∃ (i : Nat) (F : Nat → Prop), iv = .int .i64 (i : Int) ∧ i ≤ a1.size ∧ a1.size - i ≤ gk ∧ Hid (QSd w z wq (fun i => i = bD) k F a0 (q.begin.all ((bl a1).take i))))
          case atStart => exact ⟨0, F6, rfl, by omega, by omega, H6⟩
          case round =>
            clear H6
            obtain ⟨i, F, rfl, hi, hgk2, HO⟩ := hrel
            by_cases hli : i < a1.size
            · have hli2 : (i : Int) < (a1.size : Int) := by omega
              have gj := get_bt a1 i hli
              have r0 := bt_nonneg a1 i
              have r1 := bt_le a1 i
              have HP : Hid ((q.begin.all ((bl a1).take i)).push (bt a1 i) = q.begin.all ((bl a1).take (i + 1))) := Lib.hid (by rw [QS.all_push, List.take_add_one, bl_at a1 i hli]; rfl)
              have hcl : (q.begin.all ((bl a1).take i)).came.length < 1000000000 := by show ([] ++ (bl a1).take i).length < _; rw [List.nil_append, List.length_take]; omega
              have HPu := Lib.hid (HO.out.push (bt a1 i) ⟨r0, r1⟩ hcl HP.out)
              clear HP hcl HO
              generalize bt a1 i = x at *
              go_wp2_with fail
              refine HPu.out.mono ?_
              rintro e w7 ⟨F7, rfl, h7⟩
              have H7 := Lib.hid h7
              clear h7 HPu
              go_wp2_with fail
              go_roundg (a1.size - (i + 1))
              case measure => omega
              case rel => exact ⟨i + 1, F7, by simp, by omega, by omega, H7⟩
            · have hli2 : ¬ (i : Int) < (a1.size : Int) := by omega
              have HO2 : Hid (QSd w z wr (fun i => i = bD) k F a0 (q.begin.all (bl a1))) := Lib.hid (by have := HO.out; rw [List.take_of_length_le (by rw [bl_length]; omega)] at this; exact this)
              clear HO
              go_wp2_with fail
              refine (HO2.out.date d rfl).mono ?_
              rintro e w8 ⟨F8, rfl, h8⟩
              have H8 := Lib.hid h8
              clear h8 HO2
              go_wp2_with fail
              go_roundg (2 - (j + 1))
              case measure => omega
              case rel => exact ⟨j + 1, F8, _, by simp, by omega, by omega, H8, Lib.hid (fun x => by rw [HAN.out x, if_neg (Nat.succ_ne_zero j)])⟩
        · obtain rfl : j = 2 := by omega
          have hlt2 : ¬ ((2 : Nat) : Int) < 2 := by decide
          have HA2 : Hid (∀ x, q.ans x = if x = a1 then (true, a2) else (false, ⟨#[]⟩)) := Lib.hid (fun x => by rw [HA.out x]; rfl)
          clear HA HR0 hlt
          go_wp2_with fail
          refine (HQ.out.answers rfl).mono ?_
          rintro e w9 ⟨v9, rfl, hv9, h9q⟩
          have HB9 := Lib.hid h9q.on.bel
          have HV9 := Lib.hid hv9
          obtain ⟨o9, c9, hsl⟩ := hv9.isSl
          have hfl := QS.found_len q a0
          rw [hfl] at hsl
          have HSH : Hid (0 < a0.length → ∃ g9, o9 = some ⟨g9, 0, none⟩ ∧ a0.length ≤ c9) := Lib.hid (fun h0 => by
            rcases hv9.shape with ⟨h1, h2⟩ | ⟨g, c, h1, h2, _⟩
            · rw [h2] at hfl; simp at hfl; omega
            · rw [hsl] at h1; injection h1 with e1 e2 e3; subst e3; rw [hfl] at h2; exact ⟨g, e1, h2⟩)
          subst hsl
          clear hv9 h9q HQ
          go_wp2_with fail
          go_loopg [70] a0.length (fun gk iv wr => ∃ (i : Nat), iv = .int .i64 (i : Int) ∧ i ≤ a0.length ∧ a0.length - i ≤ gk ∧ Hid (w9 = wr))
          case atStart => exact ⟨0, rfl, by omega, by omega, Lib.hid rfl⟩
          case round =>
            obtain ⟨i, rfl, hi, hgk2, HW⟩ := hrel
            have hw := HW.out
            subst hw
            by_cases hli : i < a0.length
            · have hli2 : (i : Int) < (a0.length : Int) := by omega
              obtain ⟨g9, rfl, hc9⟩ := HSH.out (by omega)
              obtain ⟨⟨r, d⟩, he⟩ : ∃ e, (q.found a0)[i]'(by rw [hfl]; exact hli) = e := ⟨_, rfl⟩
              obtain ⟨x0, x1⟩ : w9.cell? ⟨g9, i * 2, none⟩ = some (.bool r) ∧ w9.cell? ⟨g9, i * 2 + 1, none⟩ = some (.string d) := HV9.out.ansAt i (by rw [hfl]; exact hli) he
              rw [QS.found_at q hli, HA2.out] at he
              obtain ⟨ad, ho, _, hcell⟩ := came_str (HC.out.below HB9.out) hli
              subst ho
              have hi9 : i < c9 := by omega
              generalize a0[i] = x at *
              have hdd : (a2.toList == a2.toList) = true := by simp
              by_cases hx : x = a1
              · subst hx
                rw [if_pos rfl] at he
                injection he with e1 e2
                subst e1 e2
                have hxx : (x.toList == x.toList) = true := by simp
                go_wp2_with fail
                go_roundg (a0.length - (i + 1))
                case measure => omega
                case rel => exact ⟨i + 1, by simp, by omega, by omega, Lib.hid rfl⟩
              · rw [if_neg hx] at he
                injection he with e1 e2
                subst e1 e2
                have hxx : (x.toList == a1.toList) = false := by
                  have := cmp_str x (bl a1) (bl_isB a1)
                  rw [str_bl] at this
                  rw [this, decide_eq_false (fun e => hx (bl_inj e))]
                go_wp2_with fail
                go_roundg (a0.length - (i + 1))
                case measure => omega
                case rel => exact ⟨i + 1, by simp, by omega, by omega, Lib.hid rfl⟩
            · have hli2 : ¬ (i : Int) < (a0.length : Int) := by omega
              go_wp2_with fail
              go_returns
              exact ⟨by first | rfl | simp, HB9.out⟩


/-! ### QueryFirst: the step from the walk to the statement -/
namespace queryFirst
theorem own : ownKnob Try.prog.godebug = none := by kernel_rfl
theorem laidOut : laidOutB Try.prog = true := by kernel_rfl
theorem string_len (a : ByteArray) {n : Nat} (h : a.data.toList.length ≤ n) : a.size ≤ n := by simpa using h
set_option maxRecDepth 100000 in
theorem lifted (os : Os) (started : os.Started) (H : Type) (enc : TypeId × Value → H) :
    ReturnsInHanded {} Try.checked os 5 .any (Rows.queryFirstSpec.pre6 enc Try.prog Try.f5 Rows.queryFirstRow.domain false) (Rows.queryFirstSpec.post enc Try.prog Try.f5 false true false false) := by
  refine returnsInHanded_of_change_sized (C := Try.checked) own started (by kernel_rfl) Try.func5
    (ChangeSpec.witness6 (enc := enc) (C := Try.checked) false ⟨#[], #[.slice none 0 0, .string ByteArray.empty, .string ByteArray.empty], []⟩ 8 (by kernel_rfl) (by kernel_rfl) (by kernel_rfl) (by kernel_rfl)) ?_
  intro W base args ds gs before hval0 hW hcnd hsz0 _
  have hval : ∀ (j : Nat) t v, Try.f5.params[j]? = some t → args[j]? = some v → Value.okWide Try.prog W .any base t v := hval0
  have hW' := hW
  obtain ⟨p, q, hA0, hV, rfl, hfz, hnd⟩ := hW
  have hA : DataW.TrodAll enc Try.prog W 0 (fun _ => true) true Try.f5.params.toList args.toList ds p := hA0
  have hsz : (DataW.weightsEach Try.prog (Try.f5.params.toList ++ Rows.queryFirstSpec.plain.varTypes Try.prog) (ds ++ gs)).all (· ≤ reachBytes) = true := hsz0
  rw [Try.params5] at hA hval hsz
  obtain ⟨v0, vs0, d0, ds0, p0, q0, hargs, rfl, rfl, h0, r0⟩ := trodAll_cons hA
  obtain ⟨v1, vs1, d1, ds1, p1, q1, rfl, rfl, rfl, h1, r1⟩ := trodAll_cons r0
  obtain ⟨v2, vs2, d2, ds2, p2, q2, rfl, rfl, rfl, h2, r2⟩ := trodAll_cons r1
  obtain ⟨rfl, rfl, rfl⟩ := trodAll_nil r2
  obtain rfl : args = #[v0, v1, v2] := by cases args; simp_all
  obtain ⟨rfl, rfl⟩ := trodVars_none hV
  obtain ⟨o0, len0, c0, rfl⟩ := okWide_slice Try.underlying22 (hval 0 22 v0 rfl rfl)
  have k0 := h0
  have lt0 : ∀ x ∈ p0, x.block < W.heap.size := by obtain ⟨m, hm⟩ := k0; exact DataW.trod_lt m _ _ _ hm
  obtain ⟨a0, rfl, lc0, cm0, ca0, el0⟩ := (came_strs Try.underlying22 Try.underlying9 (by kernel_rfl) h0)
  obtain ⟨a1, rfl, rfl, rfl, w1⟩ := open_string Try.underlying9 (hval 1 9 v1 rfl rfl) h1
  obtain ⟨a2, rfl, rfl, rfl, w2⟩ := open_string Try.underlying9 (hval 2 9 v2 rfl rfl) h2
  have z0 : a0.length * 16 ≤ 140737488351232 := by
    rcases came_strs_size Try.underlying22 Try.underlying9 (by kernel_rfl) k0 with h | ⟨es, sp, rfl, hl⟩
    · omega
    · have hq := sized_slice hsz (j := 0) (t := 22) rfl rfl Try.underlying22
      rw [show Try.prog.bytesOf 9 = 16 by kernel_rfl] at hq
      have : reachBytes = 140737488351232 := by decide
      omega
  have z1 : a1.size ≤ 140737488351232 := Nat.le_trans (string_len _ (sized_string hsz (j := 1) (t := 9) rfl rfl)) (by decide)
  have z2 : a2.size ≤ 140737488351232 := Nat.le_trans (string_len _ (sized_string hsz (j := 2) (t := 9) rfl rfl)) (by decide)
  clear hsz0 hsz
  clear hA0 hval0
  refine (walkQueryFirst o0 c0 a0 a1 a2 lc0 cm0 el0 z0 w1 z1 w2 z2 W ca0).mono fun e W' ⟨he, bel⟩ => ?_
  subst he
  exact ⟨_, rfl, _, _, _, [], _, [], hW', trodAll_mk1 (shut_bool Try.underlying4 _), (trodAll_cons_mk (Below.trod laidOut (by kernel_rfl) (of_decide_eq_true (by kernel_rfl)) k0 bel lt0) (trodAll_cons_mk (shut_string Try.underlying9 w1) (trodAll_cons_mk (shut_string Try.underlying9 w2) trodAll_mk0))), rfl, bel.frame _, fun h => by cases h⟩
theorem over : Rows.queryFirstRow.holds Try.pinned (OpenSpec.ofChange Rows.queryFirstSpec) :=
  OpenClaim.holds_of_wide 5 Try.f5 rfl rfl rfl rfl rfl rfl rfl ⟨rfl, rfl, rfl, rfl, rfl⟩ rfl rfl rfl rfl rfl (by kernel_rfl) Try.func5 (by kernel_rfl)
    (of_decide_eq_true (by kernel_rfl)) (by unfold Func.isWrapper; first | (rw [if_pos (by decide +kernel)]; kernel_rfl) | (rw [if_neg (by decide +kernel)]; exact ⟨rfl, rfl⟩))
    (fun os started H enc _ => lifted os started H enc)
/-- THE STATEMENT. -/
theorem proved : Rows.QueryFirstSaid := over
end queryFirst
end Go.Proofs.Ytpdflpobhmpbpaa
