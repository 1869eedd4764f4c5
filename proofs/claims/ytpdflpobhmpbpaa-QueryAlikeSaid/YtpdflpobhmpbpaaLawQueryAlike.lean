/- Of every texts and list of calls (within the same bounds, of at most 32 texts): queries for one serial number are answered alike; and the first query as it is alone. No condition but the form of the row. -/
import Derived.Test.YtpdflpobhmpbpaaQryTwo
import Derived.Test.YtpdflpobhmpbpaaRows
import Derived.WalkKit
import Derived.ProofKit
import Derived.OpenShut
import Derived.ShutString
import Derived.ChangeOld
import Derived.Below
import Derived.Carry
namespace Go.Proofs.Ytpdflpobhmpbpaa
open Go.ChangeShapes Go.WideShapes Go.ChangeAt Go.RowKit
open Go.ChangeMaps (open_string shut_string)
set_option linter.unusedVariables false
open Go.PlainAid in
set_option maxRecDepth 100000 in
set_option maxHeartbeats 16000000 in
theorem walkQueryAlike (o0 : Option Addr) (c0 : Nat) (a0 : List ByteArray) (o1 : Option Addr) (c1 : Nat) (a1 : List (Int × ByteArray)) (lc0 : a0.length ≤ c0) (cm0 : c0 ≤ maxLen) (el0 : ∀ x ∈ a0, x.size ≤ maxLen) (lc1 : a1.length ≤ c1) (cm1 : c1 ≤ maxLen) (el1 : ∀ x ∈ a1, InI x.1 ∧ x.2.size ≤ maxLen) (w : World) (ca0 : Came w o0 (svs a0)) (ca1 : Came w o1 (kts a1)) :
    Calls Try.prog 7 #[.slice o0 a0.length c0, .slice o1 a1.length c1] w fun e w' => e = .returned (.bool true) ∧ Below w.heap.size w w' := by
  have HC := Lib.hid ca0
  have HS := Lib.hid el0
  have HCA := Lib.hid ca1
  have HEL := Lib.hid el1
  clear ca0 el0 ca1 el1
  cases hg : greatB a0 a1 with
  | true =>
    go_enter Try.func7, Try.ntmps7
    go_wp2_with fail
    refine (awake18_any _).mono ?_
    rintro e w1 ⟨rfl, hb1⟩
    have HB1 := Lib.hid hb1
    clear hb1
    go_wp2_with fail
    refine (great18_any o0 c0 a0 o1 c1 a1 w1 (HC.out.below HB1.out) (HCA.out.below HB1.out) lc0 cm0 lc1 cm1 HS.out HEL.out).mono ?_
    rintro e w2 ⟨rfl, hb2⟩
    have HB2 := Lib.hid (HB1.out.trans (hb2.mono HB1.out.size))
    clear hb2
    rw [hg]
    go_wp2_with fail
    refine (awake18_any _).mono ?_
    rintro e wz ⟨rfl, hbz⟩
    have hBZ := (HB2.out).trans (hbz.mono (HB2.out).size)
    clear hbz
    go_wp2
    go_returns
    exact ⟨rfl, hBZ⟩
  | false =>
    obtain ⟨hl200, ha200, _, ht100⟩ := greatB_no hg
    have HT := Lib.hid ht100
    clear ht100
    have h9 : (a0.length : Int) ≤ 200 := by omega
    have h8 : (a1.length : Int) ≤ 200 := by omega
    cases hs : serAll a0 with
    | false =>
      go_enter Try.func7, Try.ntmps7
      go_wp2_with fail
      refine (awake18_any _).mono ?_
      rintro e w1 ⟨rfl, hb1⟩
      have HB1 := Lib.hid hb1
      clear hb1
      go_wp2_with fail
      refine (great18_any o0 c0 a0 o1 c1 a1 w1 (HC.out.below HB1.out) (HCA.out.below HB1.out) lc0 cm0 lc1 cm1 HS.out HEL.out).mono ?_
      rintro e w2 ⟨rfl, hb2⟩
      have HB2 := Lib.hid (HB1.out.trans (hb2.mono HB1.out.size))
      clear hb2
      rw [hg]
      go_wp2_with fail
      refine (refAll_any o0 c0 a0 w2 (HC.out.below HB2.out) lc0 cm0 HS.out).mono ?_
      rintro e w3 ⟨rfl, hw3⟩
      rw [hw3, hs]
      clear hw3 w3
      go_wp2_with fail
      refine (awake18_any _).mono ?_
      rintro e wz ⟨rfl, hbz⟩
      have hBZ := (HB2.out).trans (hbz.mono (HB2.out).size)
      clear hbz
      go_wp2
      go_returns
      exact ⟨rfl, hBZ⟩
    | true =>
      by_cases hz : a0.length = 0
      · have hz1 : ((a0.length : Int) == 0) = true := by simp; exact List.length_eq_zero_iff.1 hz
        clear hz
        go_enter Try.func7, Try.ntmps7
        go_wp2_with fail
        refine (awake18_any _).mono ?_
        rintro e w1 ⟨rfl, hb1⟩
        have HB1 := Lib.hid hb1
        clear hb1
        go_wp2_with fail
        refine (great18_any o0 c0 a0 o1 c1 a1 w1 (HC.out.below HB1.out) (HCA.out.below HB1.out) lc0 cm0 lc1 cm1 HS.out HEL.out).mono ?_
        rintro e w2 ⟨rfl, hb2⟩
        have HB2 := Lib.hid (HB1.out.trans (hb2.mono HB1.out.size))
        clear hb2
        rw [hg]
        go_wp2_with fail
        refine (refAll_any o0 c0 a0 w2 (HC.out.below HB2.out) lc0 cm0 HS.out).mono ?_
        rintro e w3 ⟨rfl, hw3⟩
        rw [hw3, hs]
        clear hw3 w3
        go_wp2_with fail
        refine (awake18_any _).mono ?_
        rintro e wz ⟨rfl, hbz⟩
        have hBZ := (HB2.out).trans (hbz.mono (HB2.out).size)
        clear hbz
        go_wp2
        go_returns
        exact ⟨rfl, hBZ⟩
      · have hz1 : ((a0.length : Int) == 0) = false := by simp; intro h; rw [h] at hz; exact hz rfl
        have hpos : 0 < a0.length := by omega
        by_cases h32 : (32 : Int) < (a0.length : Int)
        · clear hz
          go_enter Try.func7, Try.ntmps7
          go_wp2_with fail
          refine (awake18_any _).mono ?_
          rintro e w1 ⟨rfl, hb1⟩
          have HB1 := Lib.hid hb1
          clear hb1
          go_wp2_with fail
          refine (great18_any o0 c0 a0 o1 c1 a1 w1 (HC.out.below HB1.out) (HCA.out.below HB1.out) lc0 cm0 lc1 cm1 HS.out HEL.out).mono ?_
          rintro e w2 ⟨rfl, hb2⟩
          have HB2 := Lib.hid (HB1.out.trans (hb2.mono HB1.out.size))
          clear hb2
          rw [hg]
          go_wp2_with fail
          refine (refAll_any o0 c0 a0 w2 (HC.out.below HB2.out) lc0 cm0 HS.out).mono ?_
          rintro e w3 ⟨rfl, hw3⟩
          rw [hw3, hs]
          clear hw3 w3
          go_wp2_with fail
          refine (awake18_any _).mono ?_
          rintro e wz ⟨rfl, hbz⟩
          have hBZ := (HB2.out).trans (hbz.mono (HB2.out).size)
          clear hbz
          go_wp2
          go_returns
          exact ⟨rfl, hBZ⟩
        · have h32n : a0.length ≤ 32 := by omega
          clear hz
          go_enter Try.func7, Try.ntmps7
          go_wp2_with fail
          refine (awake18_any _).mono ?_
          rintro e w1 ⟨rfl, hb1⟩
          have HB1 := Lib.hid hb1
          clear hb1
          go_wp2_with fail
          refine (great18_any o0 c0 a0 o1 c1 a1 w1 (HC.out.below HB1.out) (HCA.out.below HB1.out) lc0 cm0 lc1 cm1 HS.out HEL.out).mono ?_
          rintro e w2 ⟨rfl, hb2⟩
          have HB2 := Lib.hid (HB1.out.trans (hb2.mono HB1.out.size))
          clear hb2
          rw [hg]
          go_wp2_with fail
          refine (refAll_any o0 c0 a0 w2 (HC.out.below HB2.out) lc0 cm0 HS.out).mono ?_
          rintro e w3 ⟨rfl, hw3⟩
          rw [hw3, hs]
          clear hw3 w3
          have HEm : Hid (Sl (w2.alloc (.cells #[] 9)) 9 (.slice (some ⟨w2.heap.size, 0, none⟩) 0 0) (svs []) w2.heap.size) := Lib.hid (sl_new_strs w2 [] (Nat.zero_le _))
          have HCa : Hid (Came (w2.alloc (.cells #[] 9)) o0 (svs a0)) := Lib.hid ((HC.out.below HB2.out).alloc _)
          have HBa : Hid (Below w.heap.size w (w2.alloc (.cells #[] 9))) := Lib.hid (HB2.out.alloc HB2.out.size _)
          have hl9 : ([] : List ByteArray).length + a0.length ≤ 1000000000000 := by rw [List.length_nil]; omega
          have hl8 : a0.length + a0.length ≤ 1000000000000 := by omega
          have hw9 : w.heap.size ≤ w2.heap.size := HB2.out.size
          go_wp2_with (at_builtin; first
            | refine wpList_append_strs rfl (.tmp 41) (.tmp 42) rfl (l := []) (g := w2.heap.size) rfl HEm.out o0 a0.length c0 a0 rfl rfl HCa.out hl9 ?_)
          intro v3 w3 g3 hs3 hg3 hgr3
          replace hs3 : Sl w3 9 v3 (svs a0) g3 := hs3
          obtain ⟨c3, rfl, hc3, hcm3⟩ := hs3.open (n := a0.length) (svs_length a0)
          have HB3 : Hid (Below w.heap.size w w3) := Lib.hid (Below.grown HBa.out hgr3 HBa.out.size (by intro q hq; injection hq with hq; omega))
          have HS3 := Lib.hid hs3
          have HC3 : Hid (Came w3 o0 (svs a0)) := Lib.hid (HC.out.below HB3.out)
          have hg3w : w.heap.size ≤ g3 := by rcases hg3 with h | h <;> omega
          clear hs3 hg3 hgr3 HEm HCa HBa hl9 hw9
          go_wp2_with (at_builtin; refine wpList_append_strs rfl (.tmp 43) (.tmp 44) rfl (l := a0) (g := g3) rfl HS3.out o0 a0.length c0 a0 rfl rfl HC3.out hl8 ?_)
          intro v4 w4 g4 hs4 hg4 hgr4
          obtain ⟨c4, rfl, hc4, hcm4⟩ := hs4.open (n := (a0 ++ a0).length) (svs_length _)
          have HB4 : Hid (Below w.heap.size w w4) := Lib.hid (Below.grown HB3.out hgr4 HB3.out.size (by intro q hq; injection hq with hq; omega))
          have HC4 : Hid (Came w4 (some ⟨g4, 0, none⟩) (svs (a0 ++ a0))) := Lib.hid (Came.sl hs4)
          clear hs4 hg4 hgr4 HS3 HC3 hl8 hg3w
          obtain ⟨LL, hLL⟩ : ∃ LL, a0 ++ a0 = LL := ⟨_, rfl⟩
          have HLL := Lib.hid hLL
          rw [hLL] at hc4 HC4
          have hss : serAll LL = true := by rw [← hLL]; exact serAll_append hs hs (by omega)
          try rw [hLL]
          clear hLL
          go_wp2_with fail
          refine (qrySpec.new_on HC4.out hc4 hcm4 hss HB4.out).mono ?_
          rintro e w5 ⟨k, F, rfl, h5, _, _⟩
          have H5 := Lib.hid h5
          obtain ⟨ad, ho, _, hx0⟩ := came_str (HC.out.below h5.bel) hpos
          subst ho
          have hx1 : w5.cell? ad = some (.string a0[0]) := by rw [addr_zero] at hx0; exact hx0
          have hser := serAll_mem hs a0[0] (List.getElem_mem hpos)
          have HX0 : Hid (∀ q : QS, q.ans a0[0] = (q.found a0)[0]'(by rw [QS.found_len]; exact hpos)) := Lib.hid (fun q => (QS.found_at q hpos).symm)
          generalize a0[0] = x at *
          have HN5 : Hid (Below w5.heap.size w5 (w5.alloc (.cells #[.string x] 9)) ∧ Came (w5.alloc (.cells #[.string x] 9)) (some ⟨w5.heap.size, 0, none⟩) (svs [x])) := Lib.hid ⟨(Below.refl _ _).alloc (Nat.le_refl _) _, Came.sl (sl_new_strs w5 [x] (by show 1 ≤ maxLen; unfold maxLen; omega))⟩
          clear h5 HC4 hss HB2 HB3 HB4
          go_wp2_with fail
          refine (qrySpec.new_on (l := [x]) HN5.out.2 (Nat.le_refl _) (by show 1 ≤ maxLen; unfold maxLen; omega) (serAll_one hser) (H5.out.bel.trans (HN5.out.1.mono H5.out.bel.size))).mono ?_
          rintro e w6 ⟨g, G, rfl, h6, hb6, hG6⟩
          have HP0 : Hid (QTw w w6 w6 (fun _ => False) k F LL QS.zero g G [x] QS.zero) := Lib.hid (QTw.made (H5.out.below qrySpec HN5.out.1) h6 hb6 hG6)
          clear h6 hb6 hG6 H5 HN5 hx0 hx1
          go_wp2_with fail
          go_loopg [65] a1.length (fun gk jv wr => ∃ (j : Nat) (F G : Nat → Prop) (q : QS), jv = .int .i64 (j : Int) ∧ j ≤ a1.length ∧ a1.length - j ≤ gk ∧ Hid (QTw w wr wr (fun _ => False) k F LL q g G [x] q) ∧ q.came.length ≤ j * 100)
          case atStart => exact ⟨0, F, G, QS.zero, rfl, by omega, by omega, HP0, by show 0 ≤ _; omega⟩
          case round =>
            clear HP0
            obtain ⟨j, F, G, q, rfl, hj, hgk, HP, hql⟩ := hrel
            by_cases hlt : j < a1.length
            · have hlt2 : (j : Int) < (a1.length : Int) := by omega
              obtain ⟨ae, ho, _, hcell⟩ := (HCA.out.below HP.out.x.on.bel).first (by rw [kts_length]; omega)
              subst ho
              have ht1 := HT.out a1[j] (List.getElem_mem hlt)
              have hg2 := kts_get hlt
              have hc0 := hcell (2 * j) (.int .i64 a1[j].1) hg2.1
              have hc1 := hcell (2 * j + 1) (.string a1[j].2) hg2.2
              generalize a1[j] = act at *
              obtain ⟨kd, t⟩ := act
              replace ht1 : t.size ≤ 100 := ht1
              replace hc0 : wr.cell? (ae.add (j * 2)) = some (.int .i64 kd) := by rw [Nat.mul_comm]; exact hc0
              replace hc1 : wr.cell? ⟨(ae.add (j * 2)).block, (ae.add (j * 2)).off + 1, none⟩ = some (.string t) := by rw [← add_field18 ae j]; exact hc1
              have ht9 : (t.size : Int) ≤ 100 := by omega
              have hj200 : j ≤ 200 := by omega
              clear hcell hg2
              go_wp2_with fail
              have hW : (wr.alloc (.cells #[.int .i64 kd, .string t] 37)).alloc (.cells #[.pointer (some ⟨k, 0, none⟩), .pointer (some ⟨g, 0, none⟩)] 25) = (wr.alloc (.cells [Value.int .i64 kd, .string t].toArray 37)).alloc (.cells [Value.pointer (some ⟨k, 0, none⟩), .pointer (some ⟨g, 0, none⟩)].toArray 25) := rfl
              have HKW := Lib.hid ((Row.new wr 37 [.int .i64 kd, .string t]).alloc (.cells [Value.pointer (some ⟨k, 0, none⟩), .pointer (some ⟨g, 0, none⟩)].toArray 25))
              have HKP := Lib.hid (row_new2 wr (.cells [Value.int .i64 kd, .string t].toArray 37) 25 [.pointer (some ⟨k, 0, none⟩), .pointer (some ⟨g, 0, none⟩)])
              have hb2 : Below wr.heap.size wr ((wr.alloc (.cells [Value.int .i64 kd, .string t].toArray 37)).alloc (.cells [Value.pointer (some ⟨k, 0, none⟩), .pointer (some ⟨g, 0, none⟩)].toArray 25)) := ((Below.refl _ wr).alloc (Nat.le_refl _) _).alloc (by simp) _
              have HTW : Hid (QTw w ((wr.alloc (.cells [Value.int .i64 kd, .string t].toArray 37)).alloc (.cells [Value.pointer (some ⟨k, 0, none⟩), .pointer (some ⟨g, 0, none⟩)].toArray 25)) ((wr.alloc (.cells [Value.int .i64 kd, .string t].toArray 37)).alloc (.cells [Value.pointer (some ⟨k, 0, none⟩), .pointer (some ⟨g, 0, none⟩)].toArray 25)) (fun i => i = wr.heap.size ∨ i = wr.heap.size + 1) k F LL q g G [x] q) := Lib.hid ((HP.out.below hb2).again (fun i hi => by
                rcases hi with rfl | rfl
                · exact HKW.out.lt
                · exact HKP.out.lt) (fun i hi hf => by have := qrySpec.lt HP.out.x.on.at_ i hf; omega) (fun i hi hf => by have := qrySpec.lt HP.out.y.on.at_ i hf; omega))
              try rw [hW]
              clear hW hb2 HP hc0 hc1
              generalize (wr.alloc (.cells [Value.int .i64 kd, .string t].toArray 37)).alloc (.cells [Value.pointer (some ⟨k, 0, none⟩), .pointer (some ⟨g, 0, none⟩)].toArray 25) = W at *
              generalize wr.heap.size + 1 = kp at *
              generalize wr.heap.size = kb at *
              have HQ2 := Lib.hid (QS.act_len q kd t)
              go_loopg [73] 2 (fun gk mv wq => ∃ (m : Nat) (F G : Nat → Prop), mv = .int .i64 (m : Int) ∧ m ≤ 2 ∧ 2 - m ≤ gk ∧ Hid (QTw w W wq (fun i => i = kb ∨ i = kp) k F LL (if m = 0 then q else q.act kd t) g G [x] (if m ≤ 1 then q else q.act kd t)))
              case atStart => exact ⟨0, F, G, rfl, by omega, by omega, HTW⟩
              case round =>
                clear HTW
                obtain ⟨m, F, G, rfl, hm, hgk2, HT2⟩ := hrel
                by_cases hm2 : m < 2
                · have hm3 : (m : Int) < 2 := by omega
                  have n0 : wr.cell? ⟨kb, 0, none⟩ = some (.int .i64 kd) := (HT2.out.x.row HKW.out (.inl rfl)).cell 0
                  have n1 : wr.cell? ⟨kb, 1, none⟩ = some (.string t) := (HT2.out.x.row HKW.out (.inl rfl)).cell 1
                  obtain ⟨kc, Fc, lc, ko, Fo, lo, qo, hcell, hQ, hback⟩ : ∃ (kc : Nat) (Fc : Nat → Prop) (lc : List ByteArray) (ko : Nat) (Fo : Nat → Prop) (lo : List ByteArray) (qo : QS), wr.cell? ⟨kp, m, none⟩ = some (.pointer (some ⟨kc, 0, none⟩)) ∧ QTw w W wr (fun i => i = kb ∨ i = kp) kc Fc lc q ko Fo lo qo ∧
                      (∀ wz Fz, QTw w W wz (fun i => i = kb ∨ i = kp) kc Fz lc (q.act kd t) ko Fo lo qo → ∃ F G, QTw w W wz (fun i => i = kb ∨ i = kp) k F LL (if m + 1 = 0 then q else q.act kd t) g G [x] (if m + 1 ≤ 1 then q else q.act kd t)) := by
                    have hr := HT2.out.x.row HKP.out (.inr rfl)
                    have h0 := HT2.out
                    rcases (show m = 0 ∨ m = 1 by omega) with rfl | rfl
                    · exact ⟨k, F, LL, g, G, [x], q, hr.cell 0, h0, fun wz Fz h => ⟨Fz, G, h⟩⟩
                    · exact ⟨g, G, [x], k, F, LL, q.act kd t, hr.cell 1, h0.symm, fun wz Fz h => ⟨F, Fz, h.symm⟩⟩
                  have HQ := Lib.hid hQ
                  have HBk := Lib.hid hback
                  clear hQ hback HT2 HKP
                  by_cases k1 : kd = 1
                  · subst k1
                    have HE : Hid (q.begin = q.act 1 t) := Lib.hid (by unfold QS.act; rw [if_pos rfl])
                    go_wp2_with fail
                    refine (HQ.out.begin HE.out).mono ?_
                    rintro e w7 ⟨F7, rfl, h7⟩
                    have H7 := Lib.hid (HBk.out _ _ h7)
                    clear h7 HQ HE HBk n0 n1 hcell
                    go_wp2_with fail
                    go_roundg (2 - (m + 1))
                    case measure => omega
                    case rel =>
                      obtain ⟨F8, G8, h8⟩ := H7.out
                      exact ⟨m + 1, F8, G8, by simp, by omega, by omega, Lib.hid h8⟩
                  · by_cases k2 : kd = 2
                    · subst k2
                      have HE : Hid (q.all (bl t) = q.act 2 t) := Lib.hid (by unfold QS.act; rw [if_neg (by decide), if_pos rfl])
                      go_wp2_with fail
                      have HQ0 : Hid (QTw w W wr (fun i => i = kb ∨ i = kp) kc Fc lc (q.all ((bl t).take 0)) ko Fo lo qo) := Lib.hid (by rw [List.take_zero, QS.all_nil]; exact HQ.out)
                      clear HQ n0 n1 hcell k1
                      go_loopg [88] t.size (fun gk iv wq => ∃ (i : Nat) (F : Nat → Prop), iv = .int .i64 (i : Int) ∧ i ≤ t.size ∧ t.size - i ≤ gk ∧ Hid (QTw w W wq (fun i => i = kb ∨ i = kp) kc F lc (q.all ((bl t).take i)) ko Fo lo qo))
                      case atStart => exact ⟨0, Fc, rfl, by omega, by omega, HQ0⟩
                      case round =>
                        clear HQ0
                        obtain ⟨i, F6, rfl, hi, hgk3, HO⟩ := hrel
                        have n1 : wr.cell? ⟨kb, 1, none⟩ = some (.string t) := (HO.out.x.row HKW.out (.inl rfl)).cell 1
                        by_cases hli : i < t.size
                        · have hli2 : (i : Int) < (t.size : Int) := by omega
                          have gj := get_bt t i hli
                          have r0 := bt_nonneg t i
                          have r1 := bt_le t i
                          have HPs : Hid ((q.all ((bl t).take i)).push (bt t i) = q.all ((bl t).take (i + 1))) := Lib.hid (by rw [QS.all_push, List.take_add_one, bl_at t i hli]; rfl)
                          have hcl : (q.all ((bl t).take i)).came.length < 1000000000 := by show (q.came ++ (bl t).take i).length < _; rw [List.length_append, List.length_take]; omega
                          have HPu := Lib.hid (HO.out.push (bt t i) ⟨r0, r1⟩ hcl HPs.out)
                          clear HPs hcl HO
                          generalize bt t i = b at *
                          go_wp2_with fail
                          refine HPu.out.mono ?_
                          rintro e w7 ⟨F7, rfl, h7⟩
                          have H7 := Lib.hid h7
                          clear h7 HPu n1
                          go_wp2_with fail
                          go_roundg (t.size - (i + 1))
                          case measure => omega
                          case rel => exact ⟨i + 1, F7, by simp, by omega, by omega, H7⟩
                        · have hli2 : ¬ (i : Int) < (t.size : Int) := by omega
                          have hO := HO.out
                          rw [List.take_of_length_le (by rw [bl_length]; omega), HE.out] at hO
                          have H7 := Lib.hid (HBk.out _ _ hO)
                          clear hO HO HE HBk
                          go_wp2_with fail
                          go_roundg (2 - (m + 1))
                          case measure => omega
                          case rel =>
                            obtain ⟨F8, G8, h8⟩ := H7.out
                            exact ⟨m + 1, F8, G8, by simp, by omega, by omega, Lib.hid h8⟩
                    · by_cases k3 : kd = 3
                      · subst k3
                        have HE : Hid (q.date t = q.act 3 t) := Lib.hid (by unfold QS.act; rw [if_neg (by decide), if_neg (by decide), if_pos rfl])
                        clear k1 k2
                        go_wp2_with fail
                        refine (HQ.out.date t HE.out).mono ?_
                        rintro e w7 ⟨F7, rfl, h7⟩
                        have H7 := Lib.hid (HBk.out _ _ h7)
                        clear h7 HQ HE HBk n0 n1 hcell
                        go_wp2_with fail
                        go_roundg (2 - (m + 1))
                        case measure => omega
                        case rel =>
                          obtain ⟨F8, G8, h8⟩ := H7.out
                          exact ⟨m + 1, F8, G8, by simp, by omega, by omega, Lib.hid h8⟩
                      · have HE : q.act kd t = q := by unfold QS.act; rw [if_neg k1, if_neg k2, if_neg k3]
                        have hq := HQ.out
                        rw [← HE] at hq
                        have H7 : Hid (∃ F G, QTw w W wr (fun i => i = kb ∨ i = kp) k F LL (if m + 1 = 0 then q else q.act kd t) g G [x] (if m + 1 ≤ 1 then q else q.act kd t)) := Lib.hid (HBk.out _ _ (by rw [HE] at hq ⊢; exact HQ.out))
                        have e1 : (kd == 1) = false := by simpa using k1
                        have e2 : (kd == 2) = false := by simpa using k2
                        have e3 : (kd == 3) = false := by simpa using k3
                        clear hq HQ HE HBk n1 k1 k2 k3
                        go_wp2_with fail
                        go_roundg (2 - (m + 1))
                        case measure => omega
                        case rel =>
                          obtain ⟨F8, G8, h8⟩ := H7.out
                          exact ⟨m + 1, F8, G8, by simp, by omega, by omega, Lib.hid h8⟩
                · obtain rfl : m = 2 := by omega
                  have hm3 : ¬ ((2 : Nat) : Int) < 2 := by decide
                  have HT3 : Hid (QTw w wr wr (fun _ => False) k F LL (q.act kd t) g G [x] (q.act kd t)) := Lib.hid (QTw.again (S' := fun _ => False) HT2.out (fun _ h => h.elim) (fun _ h => h.elim) (fun _ h => h.elim))
                  clear HT2 HKW HKP hm2
                  go_wp2_with fail
                  go_roundg (a1.length - (j + 1))
                  case measure => omega
                  case rel => exact ⟨j + 1, F, G, q.act kd t, by simp, by omega, by omega, HT3, by have := HQ2.out; omega⟩
            · have hlt2 : ¬ (j : Int) < (a1.length : Int) := by omega
              have HA1 : Hid (q.found LL = q.found a0 ++ q.found a0) := Lib.hid (by rw [← HLL.out, QS.found_append])
              have HA2 : Hid (q.found [x] = [q.ans x]) := Lib.hid rfl
              have hfl := QS.found_len q a0
              clear HLL hql hlt HT HEL HS
              go_wp2_with fail
              refine (HP.out.answers HA1.out).mono ?_
              rintro e w7 ⟨u7, rfl, hu7, h7, hb7⟩
              have H7 := Lib.hid h7.symm
              have HU7 := Lib.hid hu7
              clear h7 hu7 HP hb7
              go_wp2_with fail
              refine (H7.out.answers HA2.out).mono ?_
              rintro e w8 ⟨u8, rfl, hu8, h8, hb8⟩
              have HU8 := Lib.hid (HU7.out.below hb8)
              have HV8 := Lib.hid hu8
              have HB8 := Lib.hid h8.x.on.bel
              clear h8 hb8 H7 HU7
              obtain ⟨g7, c7, rfl, hc7⟩ : ∃ g c, u7 = .slice (some ⟨g, 0, none⟩) (a0.length + a0.length) c ∧ a0.length + a0.length ≤ c := by
                rcases HU8.out.shape with ⟨_, hh⟩ | ⟨g, c, h1, h2, _⟩
                · have := congrArg List.length hh; rw [List.length_append, hfl, List.length_nil] at this; omega
                · rw [List.length_append, hfl] at h1 h2; exact ⟨g, c, h1, h2⟩
              obtain ⟨g8, c8, rfl, hc8⟩ : ∃ g c, u8 = .slice (some ⟨g, 0, none⟩) 1 c ∧ 1 ≤ c := by
                rcases hu8.shape with ⟨_, hh⟩ | ⟨g, c, h1, h2, _⟩
                · cases hh
                · exact ⟨g, c, h1, h2⟩
              obtain ⟨⟨r0, d0⟩, he0⟩ : ∃ e, q.ans x = e := ⟨_, rfl⟩
              obtain ⟨x0, x1⟩ : w8.cell? ⟨g7, 0 * 2, none⟩ = some (.bool r0) ∧ w8.cell? ⟨g7, 0 * 2 + 1, none⟩ = some (.string d0) := HU8.out.ansAt 0 (by rw [List.length_append, hfl]; omega) (by rw [List.getElem_append_left (by rw [hfl]; omega), ← HX0.out q]; exact he0)
              obtain ⟨y0, y1⟩ : w8.cell? ⟨g8, 0 * 2, none⟩ = some (.bool r0) ∧ w8.cell? ⟨g8, 0 * 2 + 1, none⟩ = some (.string d0) := HV8.out.ansAt 0 Nat.zero_lt_one he0
              replace x0 : w8.cell? ⟨g7, 0, none⟩ = some (.bool r0) := x0
              replace y0 : w8.cell? ⟨g8, 0, none⟩ = some (.bool r0) := y0
              replace x1 : w8.cell? ⟨g7, 1, none⟩ = some (.string d0) := by rw [Nat.zero_mul, Nat.zero_add] at x1; exact x1
              replace y1 : w8.cell? ⟨g8, 1, none⟩ = some (.string d0) := by rw [Nat.zero_mul, Nat.zero_add] at y1; exact y1
              have hwr : IntKind.i64.wrap (2 * (a0.length : Int)) = (a0.length : Int) + (a0.length : Int) := by rw [IntKind.wrap_i64]; omega
              have hpi : (0 : Int) < (a0.length : Int) + (a0.length : Int) := by omega
              clear hu8
              go_wp2_with fail
              go_quiet (fail)
              have HB9 := Lib.hid (below_drew18 HB8.out nq)
              obtain ⟨bs, hbs⟩ : ∃ bs, Ans (w8.drewN nq) bs (.slice (some ⟨g7, 0, none⟩) (a0.length + a0.length) c7) (q.found a0 ++ q.found a0) := ⟨_, HU8.out.drewN nq⟩
              have HU9 := Lib.hid hbs
              clear hbs
              clear x0 x1 y0 y1 he0 HU8 HV8 HB8 hwr hpi hc8
              generalize w8.drewN nq = w9 at *
              go_wp2_with fail
              go_loopg [132] a0.length (fun gk iv wr => ∃ (i : Nat), iv = .int .i64 (i : Int) ∧ i ≤ a0.length ∧ a0.length - i ≤ gk ∧ Hid (∃ n, wr = w9.drewN n))
              case atStart => exact ⟨0, rfl, by omega, by omega, Lib.hid ⟨0, rfl⟩⟩
              case round =>
                obtain ⟨i, rfl, hi, hgk2, HW⟩ := hrel
                obtain ⟨nd, hw⟩ := HW.out
                by_cases hli : i < a0.length
                · have hli2 : (i : Int) < (a0.length : Int) := by omega
                  have hUr : Ans wr bs (.slice (some ⟨g7, 0, none⟩) (a0.length + a0.length) c7) (q.found a0 ++ q.found a0) := by rw [hw]; exact HU9.out.drewN nd
                  obtain ⟨⟨r1, d1⟩, he1⟩ : ∃ e, (q.found a0)[i]'(by rw [hfl]; exact hli) = e := ⟨_, rfl⟩
                  obtain ⟨x0, x1⟩ : wr.cell? ⟨g7, i * 2, none⟩ = some (.bool r1) ∧ wr.cell? ⟨g7, i * 2 + 1, none⟩ = some (.string d1) := hUr.ansAt i (by rw [List.length_append, hfl]; omega) (by rw [List.getElem_append_left (by rw [hfl]; omega)]; exact he1)
                  obtain ⟨y0, y1⟩ : wr.cell? ⟨g7, (i + a0.length) * 2, none⟩ = some (.bool r1) ∧ wr.cell? ⟨g7, (i + a0.length) * 2 + 1, none⟩ = some (.string d1) := hUr.ansAt (i + a0.length) (by rw [List.length_append, hfl]; omega) (by rw [List.getElem_append_right (by rw [hfl]; omega)]; simp only [hfl, Nat.add_sub_cancel]; exact he1)
                  have hic : i + a0.length < c7 := by omega
                  have hin : (i : Int) + (a0.length : Int) < (a0.length : Int) + (a0.length : Int) := by omega
                  have hwi : IntKind.i64.wrap ((i : Int) + (a0.length : Int)) = (i : Int) + (a0.length : Int) := by rw [IntKind.wrap_i64]; omega
                  have hin0 : 0 ≤ (i : Int) + (a0.length : Int) := by omega
                  have hti : ((i : Int) + (a0.length : Int)).toNat = i + a0.length := by omega
                  have HWd := Lib.hid hw
                  clear hUr he1 hw
                  go_wp2_with fail
                  go_quiet (fail)
                  go_wp2_with fail
                  go_roundg (a0.length - (i + 1))
                  case measure => omega
                  case rel => exact ⟨i + 1, by simp, by omega, by omega, Lib.hid ⟨nd + nq, by rw [HWd.out, World.drewN_drewN]⟩⟩
                · have hli2 : ¬ (i : Int) < (a0.length : Int) := by omega
                  subst hw
                  have hBZ := below_drew18 HB9.out nd
                  go_wp2_with fail
                  go_returns
                  exact ⟨rfl, hBZ⟩


/-! ### QueryAlike: the step from the walk to the statement -/
namespace queryAlike
theorem own : ownKnob Try.prog.godebug = none := by kernel_rfl
theorem laidOut : laidOutB Try.prog = true := by kernel_rfl
set_option maxRecDepth 100000 in
theorem lifted (os : Os) (started : os.Started) (H : Type) (enc : TypeId × Value → H) :
    ReturnsInHanded {} Try.checked os 7 .any (Rows.queryAlikeSpec.pre6 enc Try.prog Try.f7 Rows.queryAlikeRow.domain false) (Rows.queryAlikeSpec.post enc Try.prog Try.f7 false true false false) := by
  refine returnsInHanded_of_change (C := Try.checked) own started (by kernel_rfl) Try.func7
    (ChangeSpec.witness6 (enc := enc) (C := Try.checked) false ⟨#[], #[.slice none 0 0, .slice none 0 0], []⟩ 8 (by kernel_rfl) (by kernel_rfl) (by kernel_rfl) (by kernel_rfl)) ?_
  intro W base args ds gs before hval0 hW hcnd _
  have hval : ∀ (j : Nat) t v, Try.f7.params[j]? = some t → args[j]? = some v → Value.okWide Try.prog W .any base t v := hval0
  have hW' := hW
  obtain ⟨p, q, hA0, hV, rfl, hfz, hnd⟩ := hW
  have hA : DataW.TrodAll enc Try.prog W 0 (fun _ => true) true Try.f7.params.toList args.toList ds p := hA0
  rw [Try.params7] at hA hval
  obtain ⟨v0, vs0, d0, ds0, p0, q0, hargs, rfl, rfl, h0, r0⟩ := trodAll_cons hA
  obtain ⟨v1, vs1, d1, ds1, p1, q1, rfl, rfl, rfl, h1, r1⟩ := trodAll_cons r0
  obtain ⟨rfl, rfl, rfl⟩ := trodAll_nil r1
  obtain rfl : args = #[v0, v1] := by cases args; simp_all
  obtain ⟨rfl, rfl⟩ := trodVars_none hV
  obtain ⟨o0, len0, c0, rfl⟩ := okWide_slice Try.underlying22 (hval 0 22 v0 rfl rfl)
  have k0 := h0
  have lt0 : ∀ x ∈ p0, x.block < W.heap.size := by obtain ⟨m, hm⟩ := k0; exact DataW.trod_lt m _ _ _ hm
  obtain ⟨a0, rfl, lc0, cm0, ca0, el0⟩ := (came_strs Try.underlying22 Try.underlying9 (by kernel_rfl) h0)
  obtain ⟨o1, len1, c1, rfl⟩ := okWide_slice Try.underlying33 (hval 1 33 v1 rfl rfl)
  have k1 := h1
  have lt1 : ∀ x ∈ p1, x.block < W.heap.size := by obtain ⟨m, hm⟩ := k1; exact DataW.trod_lt m _ _ _ hm
  obtain ⟨a1, rfl, lc1, cm1, ca1, el1⟩ := (came_kt Try.underlying33 Try.underlying37 (by kernel_rfl) rfl rfl (by kernel_rfl) (by kernel_rfl) Try.underlying3 Try.underlying9 h1)
  clear hA0 hval0
  refine (walkQueryAlike o0 c0 a0 o1 c1 a1 lc0 cm0 el0 lc1 cm1 el1 W ca0 ca1).mono fun e W' ⟨he, bel⟩ => ?_
  subst he
  exact ⟨_, rfl, _, _, _, [], _, [], hW', trodAll_mk1 (shut_bool Try.underlying4 _), (trodAll_cons_mk (Below.trod laidOut (by kernel_rfl) (of_decide_eq_true (by kernel_rfl)) k0 bel lt0) (trodAll_cons_mk (Below.trod laidOut (by kernel_rfl) (of_decide_eq_true (by kernel_rfl)) k1 bel lt1) trodAll_mk0)), rfl, bel.frame _, fun h => by cases h⟩
theorem over : Rows.queryAlikeRow.holds Try.pinned (OpenSpec.ofChange Rows.queryAlikeSpec) :=
  OpenClaim.holds_of_wide 7 Try.f7 rfl rfl rfl rfl rfl rfl rfl ⟨rfl, rfl, rfl, rfl, rfl⟩ rfl rfl rfl rfl rfl (by kernel_rfl) Try.func7 (by kernel_rfl)
    (of_decide_eq_true (by kernel_rfl)) (by unfold Func.isWrapper; first | (rw [if_pos (by decide +kernel)]; kernel_rfl) | (rw [if_neg (by decide +kernel)]; exact ⟨rfl, rfl⟩))
    (fun os started H enc _ => lifted os started H enc)
/-- THE STATEMENT. -/
theorem proved : Rows.QueryAlikeSaid := over
end queryAlike
end Go.Proofs.Ytpdflpobhmpbpaa
