/- Of every text of at most 300 bytes and continuation of at most 50 (of others the law asks only for the fixed answers) and every depth: byte by byte the text brings about the events that the reference says of all of it; the error comes with the same byte, and stays. No condition but the form of the row. -/
import Derived.Test.YtagigdefghnnhaaEvAwake
import Derived.Test.YtagigdefghnnhaaEvOn
import Derived.Test.YtagigdefghnnhaaRows
import Derived.WalkKit
import Derived.ProofKit
import Derived.OpenShut
import Derived.ShutString
import Derived.ChangeOld
import Derived.Below
namespace Go.Proofs.Ytagigdefghnnhaa
open Go.ChangeShapes Go.WideShapes Go.ChangeAt Go.RowKit
open Go.ChangeMaps (open_string shut_string)
open Go.PlainAid (bt get_bt bt_nonneg bt_le)
set_option linter.unusedVariables false
set_option maxRecDepth 100000 in
set_option maxHeartbeats 4000000 in
theorem walkEventPushes (a0 : ByteArray) (a1 : Int) (a2 : ByteArray) (b0 : a0.size ≤ maxLen) (b1 : -9223372036854775808 ≤ a1 ∧ a1 ≤ 9223372036854775807) (b2 : a2.size ≤ maxLen) (w : World) :
    Calls Try.prog 4 #[.string a0, .int .i64 a1, .string a2] w fun e w' => e = .returned (.bool true) ∧ Below w.heap.size w w' := by
  have HG := Lib.hid (great_any a0 b0)
  by_cases hl : (300 : Int) < (a0.size : Int)
  · rw [show decide ((300 : Int) < (a0.size : Int)) = true by simpa using hl] at HG
    clear hl b0 b2
    go_enter Try.func4, Try.ntmps4
    go_wp2_with fail
    refine (evSpec.new_on a1 b1 (Below.refl w.heap.size w)).mono ?_
    rintro e1 w1 ⟨k, F, rfl, hm, _⟩
    have HM1 := Lib.hid hm
    clear hm
    go_wp2_with fail
    refine (awake09_any _).mono ?_
    rintro e1 w2 ⟨rfl, hb⟩
    have HM2 := Lib.hid (HM1.out.step evSpec hb)
    clear hb HM1
    go_wp2_with fail
    refine (HG.out _).mono ?_
    rintro e' w0 ⟨rfl, hw0⟩
    subst hw0
    go_wp2_with fail
    refine (awake09_any _).mono ?_
    rintro e1 w9 ⟨rfl, hb⟩
    have HM9 := Lib.hid (HM2.out.step evSpec hb)
    go_wp2
    go_returns
    exact ⟨rfl, HM9.out.bel⟩
  · rw [show decide ((300 : Int) < (a0.size : Int)) = false by simpa using hl] at HG
    by_cases hl2 : (50 : Int) < (a2.size : Int)
    · clear hl b0 b2
      go_enter Try.func4, Try.ntmps4
      go_wp2_with fail
      refine (evSpec.new_on a1 b1 (Below.refl w.heap.size w)).mono ?_
      rintro e1 w1 ⟨k, F, rfl, hm, _⟩
      have HM1 := Lib.hid hm
      clear hm
      go_wp2_with fail
      refine (awake09_any _).mono ?_
      rintro e1 w2 ⟨rfl, hb⟩
      have HM2 := Lib.hid (HM1.out.step evSpec hb)
      clear hb HM1
      go_wp2_with fail
      refine (HG.out _).mono ?_
      rintro e' w0 ⟨rfl, hw0⟩
      subst hw0
      go_wp2_with fail
      refine (awake09_any _).mono ?_
      rintro e1 w9 ⟨rfl, hb⟩
      have HM9 := Lib.hid (HM2.out.step evSpec hb)
      go_wp2
      go_returns
      exact ⟨rfl, HM9.out.bel⟩
    · have hs : a0.size ≤ 300 := by omega
      have hs2 : (a2.size : Int) ≤ 50 := by omega
      obtain ⟨L, E, P, hw⟩ : ∃ L e p, evW a0 a1 = (L, e, p) := ⟨_, _, _, rfl⟩
      have HR := Lib.hid (fun w => refEvWhole_is a0 a1 (by omega) b1 hw w)
      have HLN := Lib.hid (evW_len a0 a1)
      have HW := Lib.hid hw
      clear hl hl2 b0 b2 hw
      go_enter Try.func4, Try.ntmps4
      go_wp2_with fail
      refine (evSpec.new_on a1 b1 (Below.refl w.heap.size w)).mono ?_
      rintro e1 w1 ⟨k, F, rfl, hm, _⟩
      have HM1 := Lib.hid hm
      clear hm
      go_wp2_with fail
      refine (awake09_any _).mono ?_
      rintro e1 w2 ⟨rfl, hb⟩
      have HM2 := Lib.hid (HM1.out.step evSpec hb)
      clear hb HM1
      go_wp2_with fail
      refine (HG.out _).mono ?_
      rintro e' w0 ⟨rfl, hw0⟩
      subst hw0
      go_wp2_with fail
      refine (HR.out _).mono ?_
      rintro r w3 ⟨o2, n2, c2, rfl, he2, hn2, hb⟩
      have HM3 := Lib.hid (HM2.out.step evSpec hb)
      have hal : Below w3.heap.size w3 (w3.alloc (.cells (tdC (.slice o2 n2 c2) E (P : Int)).toArray 29)) := (Below.refl _ _).alloc (Nat.le_refl _) _
      have HMX := Lib.hid (HM3.out.step evSpec hal)
      have HLX := Lib.hid ((he2.mono HM2.out.bel.size).below hal)
      have HTX := Lib.hid (Row.new w3 29 (tdC (.slice o2 n2 c2) E (P : Int)))
      have HNX : Hid (∀ j, (j = w3.heap.size ∨ (Value.slice o2 n2 c2).ownBlock = some j ∨ (Value.slice none 0 0).ownBlock = some j) → ¬ F j ∧ j < (w3.alloc (.cells (tdC (.slice o2 n2 c2) E (P : Int)).toArray 29)).heap.size) := Lib.hid (by
        intro j hj
        rcases hj with rfl | hj | hj
        · exact ⟨fun f => by have := evSpec.lt HM3.out.at_ _ f; omega, by simp⟩
        · obtain ⟨q1, q2⟩ := he2.lt j hj
          exact ⟨fun f => by have := evSpec.lt HM2.out.at_ _ f; omega, by simp; omega⟩
        · cases hj)
      have HB0 : Hid (∀ j, (j = w3.heap.size ∨ (Value.slice o2 n2 c2).ownBlock = some j) → j < (w3.alloc (.cells (tdC (.slice o2 n2 c2) E (P : Int)).toArray 29)).heap.size) := Lib.hid (fun j hj => (HNX.out j (by rcases hj with h | h; exact .inl h; exact .inr (.inl h))).2)
      have hX : w3.alloc (.cells (tdC (.slice o2 n2 c2) E (P : Int)).toArray 29) = w3.alloc (.cells #[.slice o2 n2 c2, .int .i64 E, .int .i64 (P : Int)] 29) := rfl
      have HX := Lib.hid hX
      clear hb he2 hn2 HM2 HM3 hal hX HR
      go_wp2_with fail
      rw [← HX.out]
      clear HX
      generalize w3.alloc (.cells (tdC (.slice o2 n2 c2) E (P : Int)).toArray 29) = X at *
      generalize w3.heap.size = kt at *
      have HA0 := Lib.hid (allTo_zero a0 a1)
      obtain ⟨B0, hB0⟩ : ∃ B0, X.heap.size = B0 := ⟨_, rfl⟩
      rw [hB0] at HB0
      have hBX : B0 ≤ X.heap.size := by omega
      clear hB0
      obtain ⟨d, hd⟩ : ∃ d, evMost a1 = d := ⟨_, rfl⟩
      rw [hd] at HMX
      have HD := Lib.hid hd
      clear hd
      go_loopg [9, 39] a0.size (fun gk gv iv wr => ∃ (i : Nat) (og : Option Addr) (ng cg : Nat) (F : Nat → Prop) (m : EM) (acc : List Ev), gv = .slice og ng cg ∧ iv = .int .i64 (i : Int) ∧ i ≤ a0.size ∧ a0.size - i ≤ gk ∧ Hid (allTo a0 a1 i = some (m, acc)) ∧ Hid (MOn MAt w wr k F d m) ∧ Hid (Evs wr w.heap.size (.slice og ng cg) acc) ∧ Hid (Evs wr w.heap.size (.slice o2 n2 c2) L) ∧ Hid (Row wr kt 29 (tdC (.slice o2 n2 c2) E (P : Int))) ∧ Hid (∀ j, (j = kt ∨ (Value.slice o2 n2 c2).ownBlock = some j ∨ (Value.slice og ng cg).ownBlock = some j) → ¬ F j ∧ j < wr.heap.size) ∧ B0 ≤ wr.heap.size ∧ Hid (∀ j, (Value.slice og ng cg).ownBlock = some j → B0 ≤ j))
      case atStart => exact ⟨0, none, 0, 0, F, EM.new, [], rfl, rfl, by omega, by omega, HA0, HMX, Lib.hid (Evs.nil _ _), HLX, HTX, HNX, hBX, Lib.hid (fun j hj => by cases hj)⟩
      case round =>
        clear HA0 HMX HLX HTX HNX hBX
        obtain ⟨i, og, ng, cg, F, m, acc, rfl, rfl, hi, hgk, HA, HM, HG, HL, HT, HN, hBw, HGB⟩ := hrel
        obtain ⟨hat, hov⟩ := allTo_at hi HA.out
        by_cases hlt : i < a0.size
        · have hlt2 : (i : Int) < (a0.size : Int) := by omega
          have hbt := get_bt a0 i hlt
          obtain ⟨x, hx⟩ : ∃ x, bt a0 i = x := ⟨_, rfl⟩
          have hx0 := bt_nonneg a0 i
          have hx1 := bt_le a0 i
          rw [hx] at hbt hx0 hx1
          obtain ⟨er, l, m', hst⟩ : ∃ er l m', m.step d x = (er, l, m') := ⟨_, _, _, rfl⟩
          have HP := Lib.hid (evSpec.push_on HM.out x hx0 hx1 (by omega) hst)
          have HST : Hid (m.step (evMost a1) (bt a0 i) = (er, l, m')) := Lib.hid (by rw [hx, HD.out]; exact hst)
          clear hx
          go_wp2_with fail
          refine (HP.out).mono ?_
          rintro r w5 ⟨o5, n5, c5, F5, rfl, he5, hn5, hm5, hF5, hch5⟩
          have HNL := Lib.hid hn5
          clear hn5
          have HM5 := Lib.hid hm5
          have HE5 := Lib.hid he5
          have HG5 := Lib.hid (HG.out.chg hch5 (fun j hj => (HN.out j (.inr (.inr hj))).1))
          have HL5 := Lib.hid (HL.out.chg hch5 (fun j hj => (HN.out j (.inr (.inl hj))).1))
          have HT5 := Lib.hid (HT.out.chg hch5 (HN.out kt (.inl rfl)).1)
          have HN5 : Hid (∀ j, (j = kt ∨ (Value.slice o2 n2 c2).ownBlock = some j ∨ (Value.slice og ng cg).ownBlock = some j) → ¬ F5 j ∧ j < w5.heap.size) := Lib.hid (fun j hj => ⟨fun f => by have := HN.out j hj; rcases hF5 j f with g | g; exact this.1 g; omega, Nat.lt_of_lt_of_le (HN.out j hj).2 hch5.size⟩)
          have hBw5 : B0 ≤ w5.heap.size := Nat.le_trans hBw hch5.size
          clear he5 hm5 hF5 hch5 HP HM HG HL HT HN
          by_cases he0 : er = 0
          · subst he0
            have HA6 := Lib.hid (allTo_succ hlt HA.out HST.out)
            have hlen : acc.length + l.length ≤ 1000000000 := by have := allTo_len HA6.out; rw [List.length_append] at this; omega
            clear HA HST hst
            go_wp2_with (at_builtin; refine wpList_append_evs rfl (.tmp 105) (.tmp 106) rfl w.heap.size rfl HG5.out rfl HE5.out HM5.out.bel.size hlen ?_)
            intro v6 w6 he6 hg6 hob6
            obtain ⟨o6, n6, c6, rfl⟩ := he6.shaped
            have HM6 := Lib.hid (HM5.out.grown evSpec hg6 (fun j hj => (HN5.out j (.inr (.inr hj))).1) (fun j hj => (HG5.out.lt j hj).1))
            have HE6 := Lib.hid he6
            have HL6 : Hid (Evs w6 w.heap.size (.slice o2 n2 c2) L) := Lib.hid (World.ownsRow.kept HL5.out hg6 (by
              cases hv : (Value.slice o2 n2 c2).ownBlock with
              | none => exact .inl rfl
              | some j => right; intro e; have h1 := HB0.out j (.inr hv); have h2 := HGB.out j e.symm; omega))
            have HT6 : Hid (Row w6 kt 29 (tdC (.slice o2 n2 c2) E (P : Int))) := Lib.hid (HT5.out.grown hg6 (by intro e; have h1 := HB0.out kt (.inl rfl); have h2 := HGB.out kt e.symm; omega))
            have HN6 : Hid (∀ j, (j = kt ∨ (Value.slice o2 n2 c2).ownBlock = some j ∨ (Value.slice o6 n6 c6).ownBlock = some j) → ¬ F5 j ∧ j < w6.heap.size) := Lib.hid (by
              intro j hj
              have hsz := hg6.size
              rcases hj with h | h | h
              · have := HN5.out j (.inl h); exact ⟨this.1, by omega⟩
              · have := HN5.out j (.inr (.inl h)); exact ⟨this.1, by omega⟩
              · rcases hob6 with q | q
                · have := HN5.out j (.inr (.inr (q ▸ h))); exact ⟨this.1, by omega⟩
                · rw [q] at h
                  obtain rfl : w5.heap.size = j := by injection h
                  exact ⟨fun f => by have := evSpec.lt HM5.out.at_ _ f; omega, (he6.lt _ q).2⟩)
            have HGB6 : Hid (∀ j, (Value.slice o6 n6 c6).ownBlock = some j → B0 ≤ j) := Lib.hid (by
              intro j hj
              rcases hob6 with q | q
              · exact HGB.out j (q ▸ hj)
              · rw [q] at hj
                obtain rfl : w5.heap.size = j := by injection hj
                exact hBw5)
            have hBw6 : B0 ≤ w6.heap.size := Nat.le_trans hBw5 hg6.size
            clear he6 hg6 hob6 HM5 HG5 HE5 HL5 HT5 HN5
            go_wp2_with fail
            refine (evSpec.at_on HM6.out).mono ?_
            rintro r w7 ⟨rfl, hm7, n7, rfl⟩
            have HM7 := Lib.hid hm7
            obtain ⟨hat7, _⟩ := allTo_at (show i + 1 ≤ a0.size by omega) HA6.out
            clear hm7 HM6
            rw [hat7]
            have hcc : ((i + 1 : Nat) : Int) = (i : Int) + 1 := by omega
            rw [hcc]
            clear hat7 hcc hat hov
            go_wp2
            go_roundg (a0.size - (i + 1))
            case measure => omega
            case rel => exact ⟨i + 1, o6, n6, c6, F5, m', acc ++ l, rfl, by simp, by omega, by omega, HA6, HM7, Lib.hid (own_draws HE6.out n7), Lib.hid (own_draws HL6.out n7), HT6, HN6, hBw6, HGB6⟩
          · have hse := EM.step_err (d := d) (m := m) (x := x) (by rw [hst]; exact he0)
            rw [hst] at hse
            obtain ⟨hl0, ho', ha'⟩ := hse
            simp only at hl0 ho' ha'
            subst hl0
            have hn0 : n5 = 0 := HNL.out
            subst hn0
            have hev := allTo_err hlt HA.out HST.out he0
            rw [HW.out] at hev
            simp only [Prod.mk.injEq] at hev
            obtain ⟨rfl, rfl, rfl⟩ := hev
            have hq : (E != 0) = true := by simpa using he0
            have hov' : m'.over ≠ 0 := by rw [ho']; exact he0
            have HSO := Lib.hid (fun (y : Int) => (EM.step_over (d := d) (m := m') (x := y) hov').trans (by rw [ho']))
            have HAT : Hid (m'.at_ = P) := Lib.hid (by rw [ha', hat])
            obtain ⟨q0, q1, q2, _, _, _⟩ := told_facts HT5.out
            have HAcc := Lib.hid HA.out
            clear HA HST hst ho' ha' hov' hat hov HNL HW HE5 he0 HD HGB
            go_wp2_with fail
            refine (evSpec.at_on HM5.out).mono ?_
            rintro r w6 ⟨rfl, hm6, n6, rfl⟩
            have HM6 := Lib.hid hm6
            rw [HAT.out]
            have HG6 := Lib.hid (own_draws HG5.out n6)
            have HL6 := Lib.hid (own_draws HL5.out n6)
            have HT6 := Lib.hid (show Row (w5.drewN n6) kt _ _ from HT5.out)
            have HN6 := Lib.hid (show ∀ j, (j = kt ∨ (Value.slice o2 n2 c2).ownBlock = some j ∨ (Value.slice og ng cg).ownBlock = some j) → ¬ F5 j ∧ j < (w5.drewN n6).heap.size from HN5.out)
            have hlenL : L.length ≤ 100000000 := by have h := allTo_len HAcc.out; omega
            have HLL := Lib.hid hlenL
            have hPs : P ≤ 300 := by omega
            clear hm6 HM5 HG5 HL5 HT5 HN5 hlenL HAcc hbt hx0 hx1 hlt hlt2 hgk hi
            go_wp2_with fail
            clear q0 q1 q2
            generalize w5.drewN n6 = W6 at *
            go_loopg [75] a2.size (fun gk2 jv wr => ∃ (j : Nat) (F : Nat → Prop), jv = .int .i64 (j : Int) ∧ j ≤ a2.size ∧ a2.size - j ≤ gk2 ∧ Hid (MOn MAt w wr k F d m') ∧ Hid (Evs wr w.heap.size (.slice og ng cg) L) ∧ Hid (Evs wr w.heap.size (.slice o2 n2 c2) L) ∧ Hid (Row wr kt 29 (tdC (.slice o2 n2 c2) E (P : Int))) ∧ Hid (∀ j, (j = kt ∨ (Value.slice o2 n2 c2).ownBlock = some j ∨ (Value.slice og ng cg).ownBlock = some j) → ¬ F j ∧ j < wr.heap.size))
            case atStart => exact ⟨0, F5, rfl, by omega, by omega, HM6, HG6, HL6, HT6, HN6⟩
            case round =>
              clear HM6 HG6 HL6 HT6 HN6
              obtain ⟨j, F6, rfl, hj, hgk2, HM, HG, HL, HT, HN⟩ := hrel
              by_cases hjl : j < a2.size
              · have hjl2 : (j : Int) < (a2.size : Int) := by omega
                have hbt := get_bt a2 j hjl
                obtain ⟨y, hy⟩ : ∃ y, bt a2 j = y := ⟨_, rfl⟩
                have hy0 := bt_nonneg a2 j
                have hy1 := bt_le a2 j
                rw [hy] at hbt hy0 hy1
                have HP := Lib.hid (evSpec.push_on HM.out y hy0 hy1 (by rw [HAT.out]; omega) (HSO.out y))
                clear hy
                go_wp2_with fail
                refine (HP.out).mono ?_
                rintro r w7 ⟨o7, n7, c7, F7, rfl, he7, hn7, hm7, hF7, hch7⟩
                obtain rfl : n7 = 0 := hn7
                have HM7 := Lib.hid hm7
                have HG7 := Lib.hid (HG.out.chg hch7 (fun j hj => (HN.out j (.inr (.inr hj))).1))
                have HL7 := Lib.hid (HL.out.chg hch7 (fun j hj => (HN.out j (.inr (.inl hj))).1))
                have HT7 := Lib.hid (HT.out.chg hch7 (HN.out kt (.inl rfl)).1)
                have HN7 : Hid (∀ j, (j = kt ∨ (Value.slice o2 n2 c2).ownBlock = some j ∨ (Value.slice og ng cg).ownBlock = some j) → ¬ F7 j ∧ j < w7.heap.size) := Lib.hid (fun j hj => ⟨fun f => by have := HN.out j hj; rcases hF7 j f with g | g; exact this.1 g; omega, Nat.lt_of_lt_of_le (HN.out j hj).2 hch7.size⟩)
                clear he7 hm7 hF7 hch7 HP HM HG HL HT HN hy0 hy1 hbt
                go_wp2_with fail
                refine (evSpec.at_on HM7.out).mono ?_
                rintro r w8 ⟨rfl, hm8, n8, rfl⟩
                have HM8 := Lib.hid hm8
                rw [HAT.out]
                clear hm8 HM7
                go_wp2
                go_roundg (a2.size - (j + 1))
                case measure => omega
                case rel => exact ⟨j + 1, F7, by simp, by omega, by omega, HM8, Lib.hid (own_draws HG7.out n8), Lib.hid (own_draws HL7.out n8), HT7, HN7⟩
              · have hjl2 : ¬ (j : Int) < (a2.size : Int) := by omega
                obtain ⟨q0, q1, q2, _, _, _⟩ := told_facts HT.out
                have hBel := HM.out.bel
                have HSm := Lib.hid (refSame_any HG.out HL.out HLL.out)
                clear HM HG HL HT HN
                go_wp2_with fail
                refine (HSm.out).mono ?_
                rintro r w9 ⟨rfl, n9, rfl⟩
                go_wp2
                go_ret
                exact ⟨rfl, hBel.trans (draws_below' _ n9 hBel.size)⟩
        · have hie : i = a0.size := by omega
          have hlt2 : ¬ (i : Int) < (a0.size : Int) := by omega
          have hev := allTo_end (by have h := HA.out; rw [hie] at h; exact h)
          have hlenL : acc.length ≤ 100000000 := by have h := allTo_len HA.out; omega
          rw [HW.out] at hev
          simp only [Prod.mk.injEq] at hev
          obtain ⟨rfl, hE, rfl⟩ := hev
          have HSm := Lib.hid (fun n => refSame_any (own_draws HG.out n) (own_draws HL.out n) hlenL)
          have HDn := Lib.hid (fun n => evSpec.done (HM.out.step evSpec (draws_below' wr n (Nat.le_refl _))).at_)
          obtain ⟨q0, q1, q2, _, _, _⟩ := told_facts HT.out
          have hBel := HM.out.bel
          obtain ⟨dn, hdn⟩ : ∃ dn, m.done = dn := ⟨_, rfl⟩
          rw [hdn] at hE HDn
          clear HM HG HL HT HN HA HW HD hat hov hlenL hie hdn HGB hi hgk
          cases dn with
          | true =>
            simp only [if_true] at hE
            subst hE
            go_wp2_with fail
            go_quiet ((first | (go_at_call 15; exact Calls.quiet_of (HSm.out _)) | (go_at_call 19; exact Calls.quiet_of (HDn.out _))))
            go_wp2
            go_returns
            exact ⟨rfl, hBel.trans (draws_below' _ nq hBel.size)⟩
          | false =>
            simp only [Bool.false_eq_true, if_false] at hE
            subst hE
            go_wp2_with fail
            go_quiet ((first | (go_at_call 15; exact Calls.quiet_of (HSm.out _)) | (go_at_call 19; exact Calls.quiet_of (HDn.out _))))
            go_wp2
            go_returns
            exact ⟨rfl, hBel.trans (draws_below' _ nq hBel.size)⟩


/-! ### EventPushes: the step from the walk to the statement -/
namespace eventPushes
theorem own : ownKnob Try.prog.godebug = none := by kernel_rfl
set_option maxRecDepth 100000 in
theorem lifted (os : Os) (started : os.Started) (H : Type) (enc : TypeId × Value → H) :
    ReturnsInHanded {} Try.checked os 4 .any (Rows.eventPushesSpec.pre6 enc Try.prog Try.f4 Rows.eventPushesRow.domain false) (Rows.eventPushesSpec.post enc Try.prog Try.f4 false true false false) := by
  refine returnsInHanded_of_change (C := Try.checked) own started (by kernel_rfl) Try.func4
    (ChangeSpec.witness6 (enc := enc) (C := Try.checked) false ⟨#[], #[.string ByteArray.empty, .int .i64 0, .string ByteArray.empty], []⟩ 8 (by kernel_rfl) (by kernel_rfl) (by kernel_rfl) (by kernel_rfl)) ?_
  intro W base args ds gs before hval0 hW hcnd _
  have hval : ∀ (j : Nat) t v, Try.f4.params[j]? = some t → args[j]? = some v → Value.okWide Try.prog W .any base t v := hval0
  have hW' := hW
  obtain ⟨p, q, hA0, hV, rfl, hfz, hnd⟩ := hW
  have hA : DataW.TrodAll enc Try.prog W 0 (fun _ => true) true Try.f4.params.toList args.toList ds p := hA0
  rw [Try.params4] at hA hval
  obtain ⟨v0, vs0, d0, ds0, p0, q0, hargs, rfl, rfl, h0, r0⟩ := trodAll_cons hA
  obtain ⟨v1, vs1, d1, ds1, p1, q1, rfl, rfl, rfl, h1, r1⟩ := trodAll_cons r0
  obtain ⟨v2, vs2, d2, ds2, p2, q2, rfl, rfl, rfl, h2, r2⟩ := trodAll_cons r1
  obtain ⟨rfl, rfl, rfl⟩ := trodAll_nil r2
  obtain rfl : args = #[v0, v1, v2] := by cases args; simp_all
  obtain ⟨rfl, rfl⟩ := trodVars_none hV
  obtain ⟨a0, rfl, rfl, rfl, w0⟩ := open_string Try.underlying9 (hval 0 9 v0 rfl rfl) h0
  obtain ⟨a1, rfl, rfl, rfl, w1⟩ := open_int Try.underlying3 (hval 1 3 v1 rfl rfl) h1
  obtain ⟨a2, rfl, rfl, rfl, w2⟩ := open_string Try.underlying9 (hval 2 9 v2 rfl rfl) h2
  clear hA0 hval0
  simp only [List.append_nil] at hW'
  refine (walkEventPushes a0 a1 a2 w0 (bounds_i64 w1) w2 W).mono fun e W' ⟨he, bel⟩ => ?_
  subst he
  exact ⟨_, rfl, _, _, _, [], [], [], hW', trodAll_mk1 (shut_bool Try.underlying4 _), (trodAll_cons_mk (shut_string Try.underlying9 w0) (trodAll_cons_mk (shut_int Try.underlying3 w1) (trodAll_cons_mk (shut_string Try.underlying9 w2) trodAll_mk0))), rfl, bel.frame _, fun h => by cases h⟩
theorem over : Rows.eventPushesRow.holds Try.pinned (OpenSpec.ofChange Rows.eventPushesSpec) :=
  OpenClaim.holds_of_wide 4 Try.f4 rfl rfl rfl rfl rfl rfl rfl ⟨rfl, rfl, rfl, rfl, rfl⟩ rfl rfl rfl rfl rfl (by kernel_rfl) Try.func4 (by kernel_rfl)
    (of_decide_eq_true (by kernel_rfl)) (by unfold Func.isWrapper; first | (rw [if_pos (by decide +kernel)]; kernel_rfl) | (rw [if_neg (by decide +kernel)]; exact ⟨rfl, rfl⟩))
    (fun os started H enc _ => lifted os started H enc)
/-- THE STATEMENT. -/
theorem proved : Rows.EventPushesSaid := over
end eventPushes
end Go.Proofs.Ytagigdefghnnhaa
