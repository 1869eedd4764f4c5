/- Of every text, continuation (each at most 300 bytes; of others the law asks only for the fixed answers) and depth: a copy goes on from what came, whatever comes to the other one then. No condition but the form of the row. -/
import Derived.Test.YtagigdefghnnhaaEvAwake
import Derived.Test.YtagigdefghnnhaaEvOn
import Derived.Test.YtagigdefghnnhaaRows
import Derived.WalkKit
import Derived.ProofKit
import Derived.OpenShut
import Derived.ShutString
import Derived.ChangeOld
import Derived.Below
namespace Go.Proofs.Ytagigdefghnnhaa
open Go.ChangeShapes Go.WideShapes Go.ChangeAt Go.RowKit
open Go.ChangeMaps (open_string shut_string)
open Go.PlainAid (bt get_bt bt_nonneg bt_le)
set_option linter.unusedVariables false
set_option maxRecDepth 100000 in
set_option maxHeartbeats 4000000 in
theorem walkEventCopies (a0 : ByteArray) (a1 : ByteArray) (a2 : Int) (b0 : a0.size ≤ maxLen) (b1 : a1.size ≤ maxLen) (b2 : -9223372036854775808 ≤ a2 ∧ a2 ≤ 9223372036854775807) (w : World) :
    Calls Try.prog 7 #[.string a0, .string a1, .int .i64 a2] w fun e w' => e = .returned (.bool true) ∧ Below w.heap.size w w' := by
  have HG := Lib.hid (great_any a0 b0)
  have HH := Lib.hid (great_any a1 b1)
  by_cases hl : (300 : Int) < (a0.size : Int)
  · rw [show decide ((300 : Int) < (a0.size : Int)) = true by simpa using hl] at HG
    clear hl b0 b1 HH
    go_enter Try.func7, Try.ntmps7
    go_wp2_with fail
    refine (evSpec.new_on a2 b2 (Below.refl w.heap.size w)).mono ?_
    rintro e1 w1 ⟨k, F, rfl, hm, _⟩
    have HM1 := Lib.hid hm
    clear hm
    go_wp2_with fail
    refine (awake09_any _).mono ?_
    rintro e1 w2 ⟨rfl, hb⟩
    have HM2 := Lib.hid (HM1.out.step evSpec hb)
    clear hb HM1
    go_wp2_with fail
    refine (HG.out _).mono ?_
    rintro e' w0 ⟨rfl, hw0⟩
    subst hw0
    go_wp2_with fail
    refine (awake09_any _).mono ?_
    rintro e1 w9 ⟨rfl, hb⟩
    have HM9 := Lib.hid (HM2.out.step evSpec hb)
    go_wp2
    go_returns
    exact ⟨rfl, HM9.out.bel⟩
  · rw [show decide ((300 : Int) < (a0.size : Int)) = false by simpa using hl] at HG
    by_cases hl2 : (300 : Int) < (a1.size : Int)
    · rw [show decide ((300 : Int) < (a1.size : Int)) = true by simpa using hl2] at HH
      clear hl b0 b1
      go_enter Try.func7, Try.ntmps7
      go_wp2_with fail
      refine (evSpec.new_on a2 b2 (Below.refl w.heap.size w)).mono ?_
      rintro e1 w1 ⟨k, F, rfl, hm, _⟩
      have HM1 := Lib.hid hm
      clear hm
      go_wp2_with fail
      refine (awake09_any _).mono ?_
      rintro e1 w2 ⟨rfl, hb⟩
      have HM2 := Lib.hid (HM1.out.step evSpec hb)
      clear hb HM1
      go_wp2_with fail
      refine (HG.out _).mono ?_
      rintro e' w0 ⟨rfl, hw0⟩
      subst hw0
      go_wp2_with fail
      refine (HH.out _).mono ?_
      rintro e' w0 ⟨rfl, hw0⟩
      subst hw0
      go_wp2_with fail
      refine (awake09_any _).mono ?_
      rintro e1 w9 ⟨rfl, hb⟩
      have HM9 := Lib.hid (HM2.out.step evSpec hb)
      go_wp2
      go_returns
      exact ⟨rfl, HM9.out.bel⟩
    · rw [show decide ((300 : Int) < (a1.size : Int)) = false by simpa using hl2] at HH
      have hs : a0.size ≤ 300 := by omega
      have hs2 : a1.size ≤ 300 := by omega
      clear hl hl2 b0 b1
      go_enter Try.func7, Try.ntmps7
      go_wp2_with fail
      refine (evSpec.new_on a2 b2 (Below.refl w.heap.size w)).mono ?_
      rintro e1 w1 ⟨k, F, rfl, hm, _⟩
      have HM1 := Lib.hid hm
      clear hm
      go_wp2_with fail
      refine (awake09_any _).mono ?_
      rintro e1 w2 ⟨rfl, hb⟩
      have HM2 := Lib.hid (HM1.out.step evSpec hb)
      clear hb HM1
      go_wp2_with fail
      refine (HG.out _).mono ?_
      rintro e' w0 ⟨rfl, hw0⟩
      subst hw0
      go_wp2_with fail
      refine (HH.out _).mono ?_
      rintro e' w0 ⟨rfl, hw0⟩
      subst hw0
      obtain ⟨d, hd⟩ : ∃ d, evMost a2 = d := ⟨_, rfl⟩
      have hd64 : d ≤ 64 := hd ▸ evMost_le a2
      rw [hd] at HM2
      clear hd
      go_wp2_with fail
      go_loopg [36] a0.size (fun gk iv wr => ∃ (i : Nat) (F : Nat → Prop) (m : EM), iv = .int .i64 (i : Int) ∧ i ≤ a0.size ∧ a0.size - i ≤ gk ∧ m.at_ ≤ i ∧ m.st.length ≤ d ∧ Hid (MOn MAt w wr k F d m))
      case atStart => exact ⟨0, F, EM.new, rfl, by omega, by omega, Nat.le_refl _, Nat.zero_le _, HM2⟩
      case round =>
        clear HM2
        obtain ⟨i, F, m, rfl, hi, hgk, hat, hst, HM⟩ := hrel
        by_cases hlt : i < a0.size
        · have hlt2 : (i : Int) < (a0.size : Int) := by omega
          have hbt := get_bt a0 i hlt
          obtain ⟨x, hx⟩ : ∃ x, bt a0 i = x := ⟨_, rfl⟩
          have hx0 := bt_nonneg a0 i
          have hx1 := bt_le a0 i
          rw [hx] at hbt hx0 hx1
          obtain ⟨er, l, m', hstp⟩ : ∃ er l m', m.step d x = (er, l, m') := ⟨_, _, _, rfl⟩
          have hsz := EM.step_size (d := d) (x := x) hst
          rw [hstp] at hsz
          obtain ⟨_, s2, s3⟩ := hsz
          simp only at s2 s3
          have HP := Lib.hid (evSpec.push_on HM.out x hx0 hx1 (by omega) hstp)
          clear hx hstp
          go_wp2_with fail
          refine (HP.out).mono ?_
          rintro r w5 ⟨o5, n5, c5, F5, rfl, _, hn5, hm5, _, _⟩
          clear hn5
          have HM5 := Lib.hid hm5
          clear hm5 HP HM
          go_wp2
          go_roundg (a0.size - (i + 1))
          case measure => omega
          case rel => exact ⟨i + 1, F5, m', by simp, by omega, by omega, by omega, s2, HM5⟩
        · have hlt2 : ¬ (i : Int) < (a0.size : Int) := by omega
          have hat3 : m.at_ ≤ 300 := by omega
          clear hat hi hgk
          go_wp2_with fail
          refine (evSpec.copy_on HM.out).mono ?_
          rintro r w5 ⟨kc, Fc, rfl, hm5, hc5, hf5, hb5⟩
          have hlt5 := evSpec.lt HM.out.at_
          have HD1 : Hid (∀ i, Fc i → ¬ F i) := Lib.hid (fun i f g => by have := hf5 i f; have := hlt5 i g; omega)
          have HM5 := Lib.hid hm5
          have HC5 := Lib.hid hc5
          clear hm5 hc5 hf5 hb5 HM hlt5 hlt hlt2
          go_wp2_with fail
          refine (evSpec.copy_on HM5.out).mono ?_
          rintro r w6 ⟨kd, Fd, rfl, hm6, hd6, hf6, hb6⟩
          have hltm := evSpec.lt HM5.out.at_
          have hltc := evSpec.lt HC5.out.at_
          have HD2 : Hid (∀ i, Fd i → ¬ F i) := Lib.hid (fun i f g => by have := hf6 i f; have := hltm i g; omega)
          have HD3 : Hid (∀ i, Fd i → ¬ Fc i) := Lib.hid (fun i f g => by have := hf6 i f; have := hltc i g; omega)
          have HM6 := Lib.hid hm6
          have HC6 := Lib.hid (HC5.out.step evSpec hb6)
          have HE6 := Lib.hid hd6
          clear hm6 hd6 hf6 hb6 HM5 HC5 hltm hltc
          go_wp2_with fail
          refine (evSpec.at_on HC6.out).mono ?_
          rintro r w7 ⟨rfl, hm7, n7, rfl⟩
          have HC7 := Lib.hid hm7
          have HM7 := Lib.hid (HM6.out.step evSpec (draws_below' w6 n7 (Nat.le_refl _)))
          have HE7 := Lib.hid (HE6.out.step evSpec (draws_below' w6 n7 (Nat.le_refl _)))
          clear hm7 HC6 HM6 HE6
          generalize w6.drewN n7 = w7 at *
          go_wp2_with fail
          refine (evSpec.at_on HM7.out).mono ?_
          rintro r w8 ⟨rfl, hm8, n8, rfl⟩
          have HM8 := Lib.hid hm8
          have HC8 := Lib.hid (HC7.out.step evSpec (draws_below' w7 n8 (Nat.le_refl _)))
          have HE8 := Lib.hid (HE7.out.step evSpec (draws_below' w7 n8 (Nat.le_refl _)))
          clear hm8 HC7 HM7 HE7
          generalize w7.drewN n8 = w8 at *
          go_wp2_with fail
          refine (evSpec.done_on HC8.out).mono ?_
          rintro r w9 ⟨rfl, hm9, n9, rfl⟩
          have HC9 := Lib.hid hm9
          have HM9 := Lib.hid (HM8.out.step evSpec (draws_below' w8 n9 (Nat.le_refl _)))
          have HE9 := Lib.hid (HE8.out.step evSpec (draws_below' w8 n9 (Nat.le_refl _)))
          clear hm9 HC8 HM8 HE8
          generalize w8.drewN n9 = w9 at *
          go_wp2_with fail
          refine (evSpec.done_on HM9.out).mono ?_
          rintro r w10 ⟨rfl, hm10, n10, rfl⟩
          have HM10 := Lib.hid hm10
          have HC10 := Lib.hid (HC9.out.step evSpec (draws_below' w9 n10 (Nat.le_refl _)))
          have HE10 := Lib.hid (HE9.out.step evSpec (draws_below' w9 n10 (Nat.le_refl _)))
          clear hm10 HC9 HM9 HE9
          generalize w9.drewN n10 = wa at *
          obtain ⟨mc, hmc⟩ : ∃ mc, m = mc := ⟨_, rfl⟩
          obtain ⟨atm, hatm⟩ : ∃ q : Nat, m.at_ = q := ⟨_, rfl⟩
          have HC10 : Hid (MOn MAt w wa kc Fc d mc) := hmc ▸ HC10
          have HE10 : Hid (MOn MAt w wa kd Fd d mc) := hmc ▸ HE10
          have hstc : mc.st.length ≤ d := hmc ▸ hst
          have hatc : mc.at_ ≤ 300 := hmc ▸ hat3
          clear hmc
          generalize m.done = dm at *
          go_wp2_with fail
          clear hatm
          go_loopg [71] a1.size (fun gk2 jv wr => ∃ (j : Nat) (F : Nat → Prop) (m : EM), jv = .int .i64 (j : Int) ∧ j ≤ a1.size ∧ a1.size - j ≤ gk2 ∧ m.at_ ≤ 300 + j ∧ m.st.length ≤ d ∧ Hid (MOn MAt w wr k F d m) ∧ Hid (MOn MAt w wr kc Fc d mc) ∧ Hid (MOn MAt w wr kd Fd d mc) ∧ Hid (∀ i, Fc i → ¬ F i) ∧ Hid (∀ i, Fd i → ¬ F i))
          case atStart => exact ⟨0, F, m, rfl, by omega, by omega, by omega, hst, HM10, HC10, HE10, HD1, HD2⟩
          case round =>
            clear HM10 HC10 HE10 HD1 HD2 hst hat3
            obtain ⟨j, F6, m6, rfl, hj, hgk2, hat6, hst6, HM, HC, HE, HD1, HD2⟩ := hrel
            by_cases hjl : j < a1.size
            · have hjl2 : (j : Int) < (a1.size : Int) := by omega
              obtain ⟨jj, hjj⟩ : ∃ jj : Nat, a1.size - 1 - j = jj := ⟨_, rfl⟩
              have hjji : (a1.size : Int) - 1 - (j : Int) = (jj : Int) := by omega
              have hjl3 : jj < a1.size := by omega
              have hjl4 : (jj : Int) < (a1.size : Int) := by omega
              have hbt := get_bt a1 jj hjl3
              obtain ⟨y, hy⟩ : ∃ y, bt a1 jj = y := ⟨_, rfl⟩
              have hy0 := bt_nonneg a1 jj
              have hy1 := bt_le a1 jj
              rw [hy] at hbt hy0 hy1
              obtain ⟨er, l, m', hstp⟩ : ∃ er l m', m6.step d y = (er, l, m') := ⟨_, _, _, rfl⟩
              have hsz := EM.step_size (d := d) (x := y) hst6
              rw [hstp] at hsz
              obtain ⟨_, s2, s3⟩ := hsz
              simp only at s2 s3
              have HP := Lib.hid (evSpec.push_on HM.out y hy0 hy1 (by omega) hstp)
              clear hy hstp hjj
              go_wp2_with fail
              refine (HP.out).mono ?_
              rintro r w7 ⟨o7, n7, c7, F7, rfl, _, hn7, hm7, hF7, hch7⟩
              clear hn7
              have HM7 := Lib.hid hm7
              have HC7 := Lib.hid (HC.out.beside evSpec hch7 HD1.out HM.out.own)
              have HE7 := Lib.hid (HE.out.beside evSpec hch7 HD2.out HM.out.own)
              have hltc := evSpec.lt HC.out.at_
              have hltd := evSpec.lt HE.out.at_
              have HD1' : Hid (∀ i, Fc i → ¬ F7 i) := Lib.hid (fun i f g => by rcases hF7 i g with q | q; exact HD1.out i f q; have := hltc i f; omega)
              have HD2' : Hid (∀ i, Fd i → ¬ F7 i) := Lib.hid (fun i f g => by rcases hF7 i g with q | q; exact HD2.out i f q; have := hltd i f; omega)
              clear hm7 hF7 hch7 HP HM HC HE HD1 HD2 hltc hltd hbt hjji hjl3 hjl4
              go_wp2
              go_roundg (a1.size - (j + 1))
              case measure => omega
              case rel => exact ⟨j + 1, F7, m', by simp, by omega, by omega, by omega, s2, HM7, HC7, HE7, HD1', HD2'⟩
            · have hjl2 : ¬ (j : Int) < (a1.size : Int) := by omega
              clear HM HD1 HD2 hat6 hst6 hj hgk2
              go_wp2_with fail
              go_loopg [86] a1.size (fun gk3 jv wr => ∃ (j : Nat) (Fc Fd : Nat → Prop) (mc : EM), jv = .int .i64 (j : Int) ∧ j ≤ a1.size ∧ a1.size - j ≤ gk3 ∧ mc.at_ ≤ 300 + j ∧ mc.st.length ≤ d ∧ Hid (MOn MAt w wr kc Fc d mc) ∧ Hid (MOn MAt w wr kd Fd d mc) ∧ Hid (∀ i, Fd i → ¬ Fc i))
              case atStart => exact ⟨0, Fc, Fd, mc, rfl, by omega, by omega, by omega, hstc, HC, HE, HD3⟩
              case round =>
                clear HC HE HD3 hstc hatc hjl hjl2
                obtain ⟨j, F1, F2, m6, rfl, hj, hgk3, hat6, hst6, HC, HE, HD⟩ := hrel
                by_cases hjl : j < a1.size
                · have hjl2 : (j : Int) < (a1.size : Int) := by omega
                  have hbt := get_bt a1 j hjl
                  obtain ⟨y, hy⟩ : ∃ y, bt a1 j = y := ⟨_, rfl⟩
                  have hy0 := bt_nonneg a1 j
                  have hy1 := bt_le a1 j
                  rw [hy] at hbt hy0 hy1
                  obtain ⟨er, l, m', hstp⟩ : ∃ er l m', m6.step d y = (er, l, m') := ⟨_, _, _, rfl⟩
                  have hsz := EM.step_size (d := d) (x := y) hst6
                  rw [hstp] at hsz
                  obtain ⟨s1, s2, s3⟩ := hsz
                  simp only at s1 s2 s3
                  have HP := Lib.hid (evSpec.push_on HC.out y hy0 hy1 (by omega) hstp)
                  have HP2 := Lib.hid (fun (w : World) (W : World) (h : MOn MAt w W kd F2 d m6) => evSpec.push_on h y hy0 hy1 (by omega) hstp)
                  have hll : l.length ≤ 100000000 := by omega
                  have HLL := Lib.hid hll
                  clear hy hstp hll s1
                  go_wp2_with fail
                  refine (HP.out).mono ?_
                  rintro r w7 ⟨o7, n7, c7, F7, rfl, he7, hn7, hm7, hF7, hch7⟩
                  clear hn7
                  have HC7 := Lib.hid hm7
                  have hltd := evSpec.lt HE.out.at_
                  have HE7 := Lib.hid (HE.out.beside evSpec hch7 HD.out HC.out.own)
                  have HD7 : Hid (∀ i, F2 i → ¬ F7 i) := Lib.hid (fun i f g => by rcases hF7 i g with q | q; exact HD.out i f q; have := hltd i f; omega)
                  have HX7 := Lib.hid he7
                  have HXo : Hid (∀ i, (Value.slice o7 n7 c7).ownBlock = some i → ¬ F2 i) := Lib.hid (fun i hi f => by have := (he7.lt i hi).1; have := hltd i f; omega)
                  clear hm7 hF7 hch7 HP HC HE HD hltd he7
                  go_wp2_with fail
                  refine (HP2.out _ _ HE7.out).mono ?_
                  rintro r w8 ⟨o8, n8, c8, F8, rfl, he8, hn8, hm8, hF8, hch8⟩
                  clear hn8
                  have HE8 := Lib.hid hm8
                  have hltc := evSpec.lt HC7.out.at_
                  have HC8 := Lib.hid (HC7.out.beside evSpec hch8 (fun i f g => HD7.out i g f) HE7.out.own)
                  have HD8 : Hid (∀ i, F8 i → ¬ F7 i) := Lib.hid (fun i f g => by rcases hF8 i f with q | q; exact HD7.out i q g; have := hltc i g; omega)
                  have HX8 := Lib.hid (HX7.out.chg hch8 HXo.out)
                  have HY8 := Lib.hid he8
                  clear hm8 hF8 hch8 HP2 HC7 HE7 HD7 hltc he8 HX7 HXo hbt hy0 hy1
                  go_wp2_with fail
                  refine (refSame_any HX8.out HY8.out HLL.out).mono ?_
                  rintro r w9 ⟨rfl, n9, rfl⟩
                  have HC9 := Lib.hid (HC8.out.step evSpec (draws_below' w8 n9 (Nat.le_refl _)))
                  have HE9 := Lib.hid (HE8.out.step evSpec (draws_below' w8 n9 (Nat.le_refl _)))
                  clear HC8 HE8 HX8 HY8
                  go_wp2
                  go_roundg (a1.size - (j + 1))
                  case measure => omega
                  case rel => exact ⟨j + 1, F7, F8, m', by simp, by omega, by omega, by omega, s2, HC9, HE9, HD8⟩
                · have hjl2 : ¬ (j : Int) < (a1.size : Int) := by omega
                  clear hat6 hst6 hj hgk3 HD
                  generalize hda : m6.at_ = at6 at *
                  go_wp2_with fail
                  refine (evSpec.at_on HC.out).mono ?_
                  rintro r w7 ⟨rfl, hm7, n7, rfl⟩
                  have HC7 := Lib.hid hm7
                  have HE7 := Lib.hid (HE.out.step evSpec (draws_below' wr n7 (Nat.le_refl _)))
                  clear hm7 HC HE
                  generalize wr.drewN n7 = w7 at *
                  go_wp2_with fail
                  refine (evSpec.at_on HE7.out).mono ?_
                  rintro r w8 ⟨rfl, hm8, n8, rfl⟩
                  have HE8 := Lib.hid hm8
                  have HC8 := Lib.hid (HC7.out.step evSpec (draws_below' w7 n8 (Nat.le_refl _)))
                  clear hm8 HC7 HE7
                  generalize w7.drewN n8 = w8 at *
                  go_wp2_with fail
                  refine (evSpec.done_on HC8.out).mono ?_
                  rintro r w9 ⟨rfl, hm9, n9, rfl⟩
                  have HC9 := Lib.hid hm9
                  have HE9 := Lib.hid (HE8.out.step evSpec (draws_below' w8 n9 (Nat.le_refl _)))
                  clear hm9 HC8 HE8
                  generalize w8.drewN n9 = w9 at *
                  go_wp2_with fail
                  refine (evSpec.done_on HE9.out).mono ?_
                  rintro r w10 ⟨rfl, hm10, n10, rfl⟩
                  have hBel := hm10.bel
                  clear hm10 HC9 HE9
                  generalize m6.done = dm6 at *
                  go_wp2
                  go_ret
                  exact ⟨by simp, hBel⟩


/-! ### EventCopies: the step from the walk to the statement -/
namespace eventCopies
theorem own : ownKnob Try.prog.godebug = none := by kernel_rfl
set_option maxRecDepth 100000 in
theorem lifted (os : Os) (started : os.Started) (H : Type) (enc : TypeId × Value → H) :
    ReturnsInHanded {} Try.checked os 7 .any (Rows.eventCopiesSpec.pre6 enc Try.prog Try.f7 Rows.eventCopiesRow.domain false) (Rows.eventCopiesSpec.post enc Try.prog Try.f7 false true false false) := by
  refine returnsInHanded_of_change (C := Try.checked) own started (by kernel_rfl) Try.func7
    (ChangeSpec.witness6 (enc := enc) (C := Try.checked) false ⟨#[], #[.string ByteArray.empty, .string ByteArray.empty, .int .i64 0], []⟩ 8 (by kernel_rfl) (by kernel_rfl) (by kernel_rfl) (by kernel_rfl)) ?_
  intro W base args ds gs before hval0 hW hcnd _
  have hval : ∀ (j : Nat) t v, Try.f7.params[j]? = some t → args[j]? = some v → Value.okWide Try.prog W .any base t v := hval0
  have hW' := hW
  obtain ⟨p, q, hA0, hV, rfl, hfz, hnd⟩ := hW
  have hA : DataW.TrodAll enc Try.prog W 0 (fun _ => true) true Try.f7.params.toList args.toList ds p := hA0
  rw [Try.params7] at hA hval
  obtain ⟨v0, vs0, d0, ds0, p0, q0, hargs, rfl, rfl, h0, r0⟩ := trodAll_cons hA
  obtain ⟨v1, vs1, d1, ds1, p1, q1, rfl, rfl, rfl, h1, r1⟩ := trodAll_cons r0
  obtain ⟨v2, vs2, d2, ds2, p2, q2, rfl, rfl, rfl, h2, r2⟩ := trodAll_cons r1
  obtain ⟨rfl, rfl, rfl⟩ := trodAll_nil r2
  obtain rfl : args = #[v0, v1, v2] := by cases args; simp_all
  obtain ⟨rfl, rfl⟩ := trodVars_none hV
  obtain ⟨a0, rfl, rfl, rfl, w0⟩ := open_string Try.underlying9 (hval 0 9 v0 rfl rfl) h0
  obtain ⟨a1, rfl, rfl, rfl, w1⟩ := open_string Try.underlying9 (hval 1 9 v1 rfl rfl) h1
  obtain ⟨a2, rfl, rfl, rfl, w2⟩ := open_int Try.underlying3 (hval 2 3 v2 rfl rfl) h2
  clear hA0 hval0
  simp only [List.append_nil] at hW'
  refine (walkEventCopies a0 a1 a2 w0 w1 (bounds_i64 w2) W).mono fun e W' ⟨he, bel⟩ => ?_
  subst he
  exact ⟨_, rfl, _, _, _, [], [], [], hW', trodAll_mk1 (shut_bool Try.underlying4 _), (trodAll_cons_mk (shut_string Try.underlying9 w0) (trodAll_cons_mk (shut_string Try.underlying9 w1) (trodAll_cons_mk (shut_int Try.underlying3 w2) trodAll_mk0))), rfl, bel.frame _, fun h => by cases h⟩
theorem over : Rows.eventCopiesRow.holds Try.pinned (OpenSpec.ofChange Rows.eventCopiesSpec) :=
  OpenClaim.holds_of_wide 7 Try.f7 rfl rfl rfl rfl rfl rfl rfl ⟨rfl, rfl, rfl, rfl, rfl⟩ rfl rfl rfl rfl rfl (by kernel_rfl) Try.func7 (by kernel_rfl)
    (of_decide_eq_true (by kernel_rfl)) (by unfold Func.isWrapper; first | (rw [if_pos (by decide +kernel)]; kernel_rfl) | (rw [if_neg (by decide +kernel)]; exact ⟨rfl, rfl⟩))
    (fun os started H enc _ => lifted os started H enc)
/-- THE STATEMENT. -/
theorem proved : Rows.EventCopiesSaid := over
end eventCopies
end Go.Proofs.Ytagigdefghnnhaa
