/- The walk of WindowCalls, given what a window does. -/
import Derived.Test.YtlaeoacaihooiaaWinAwake
import Derived.Test.YtlaeoacaihooiaaRefWin
import Derived.Test.YtlaeoacaihooiaaCameTwo
import Derived.Deep.QuietTactic
import Derived.BigQuiet
import Derived.Deep.RegionHeld3
namespace Go.Proofs.Ytlaeoacaihooiaa
open Go.RowKit Go.PlainAid
set_option linter.unusedVariables false
set_option maxRecDepth 100000 in
set_option maxHeartbeats 16000000 in
theorem lawWindowCalls {WA : WinPred} (H : WinSpec WA) (a0 e0 : Int) (a1 : ByteArray) (o2 : Option Addr) (c2 : Nat) (a2 : List (Int × Int)) (ra0 : InI a0) (re0 : InI e0) (b1 : a1.size ≤ maxLen) (lc2 : a2.length ≤ c2) (cm2 : c2 ≤ maxLen) (el2 : ∀ x ∈ a2, InI x.1 ∧ InI x.2) (w : World) (ca2 : Came w o2 (pvs a2)) :
    Calls Try.prog 6 #[.agg #[.int .i64 a0, .int .i64 e0], .string a1, .slice o2 a2.length c2] w fun e w' => e = .returned (.bool true) ∧ Below w.heap.size w w' := by
  have HA := Lib.hid (awake04_any H)
  have m2 : a2.length ≤ maxLen := by omega
  have hW0 : Below w.heap.size w (w.alloc (.cells #[.int .i64 a0, .int .i64 e0] 22)) := (Below.refl _ _).alloc (Nat.le_refl _) _
  cases hgr : great4 a1.size a2.length
  case true =>
    have HG := Lib.hid (fun w => great04_any a1 o2 _ c2 w b1 m2 true hgr)
    clear hgr
    go_enter Try.func6, Try.ntmps6
    go_wp2_with fail
    refine (HA.out _).mono ?_
    rintro e w1 ⟨rfl, hB1⟩
    have hB1 := hW0.trans (hB1.mono hW0.size)
    go_wp2_with fail
    refine (HG.out _).mono ?_
    rintro e w2 ⟨rfl, rfl⟩
    go_wp2_with fail
    refine (HA.out _).mono ?_
    rintro e w2 ⟨rfl, hB2⟩
    have hB2 := hB1.trans (hB2.mono hB1.size)
    go_wp2_with fail
    go_ret
    exact ⟨rfl, hB2⟩
  case false =>
    obtain ⟨z1, z2⟩ := great4_no hgr
    have HG := Lib.hid (fun w => great04_any a1 o2 _ c2 w b1 m2 false hgr)
    clear hgr
    have HEL := Lib.hid el2
    have HC1 := Lib.hid ca2
    have HH := Lib.hid H
    have HN := Lib.hid (fun ob cb w' (hc : Came w' ob (pvs a2)) => srcNew_any a1 a2 ob cb w' (by omega) hc (by omega))
    have HX0 := Lib.hid (Row.new w 22 [.int .i64 a0, .int .i64 e0])
    clear el2 ca2 H
    go_enter Try.func6, Try.ntmps6
    go_wp2_with fail
    refine (HA.out _).mono ?_
    rintro e w1 ⟨rfl, hB1⟩
    have HX1 := Lib.hid (HX0.out.below hB1 HX0.out.lt)
    have hB1 := hW0.trans (hB1.mono hW0.size)
    go_wp2_with fail
    refine (HG.out _).mono ?_
    rintro e w2 ⟨rfl, rfl⟩
    clear HX0 hW0 HG
    have HX1lt : Hid (w.heap.size < w1.heap.size) := Lib.hid HX1.out.lt
    have HC3 := Lib.hid ((HC1.out.below hB1).below ((Below.refl _ w1).alloc (Nat.le_refl _) (.cells #[] 39)))
    have HB3a := Lib.hid hB1
    clear hB1
    go_wp2_with (at_builtin; refine wpList_append_steps rfl _ _ rfl w1.heap.size rfl (made_steps w1) (by simp) a2 o2 a2.length c2 rfl rfl (by omega) HC3.out ?_)
    intro ob3 cb3 w3 hc3 hg3
    have hBb3 : Below w1.heap.size w1 w3 := grown_to_below ((Below.refl _ w1).alloc (Nat.le_refl _) _) (Nat.le_refl _) hg3
    have hB3 := HB3a.out.trans (hBb3.mono HB3a.out.size)
    have hsz3 : Hid (w1.heap.size ≤ w3.heap.size) := Lib.hid hBb3.size
    have HCx3 := Lib.hid hc3
    have HX3 := Lib.hid (HX1.out.below hBb3 HX1.out.lt)
    clear hg3 HB3a hc3 HC3 hBb3
    go_wp2_with fail
    refine (HN.out _ _ _ HCx3.out).mono ?_
    rintro e w3s ⟨g3, rfl, hg3, hs3, hBs3⟩
    have hgl3 : g3 < w3s.heap.size := hs3.lt
    have HS3 := Lib.hid hs3
    have hgw3 : w3.heap.size ≤ g3 := hg3
    have hgx3 : Hid (w1.heap.size ≤ g3) := Lib.hid (Nat.le_trans hsz3.out hg3)
    have hg3 : w.heap.size ≤ g3 := Nat.le_trans hB3.size hg3
    have HX4 := Lib.hid (HX3.out.below hBs3 HX3.out.lt)
    have hB3s := hB3.trans (hBs3.mono hB3.size)
    clear hs3 hBs3 HCx3
    clear HX1 HX3
    have x0 : w3s.cell? ⟨w.heap.size, 0, none⟩ = some (.int .i64 a0) := HX4.out.cell 0
    have x1 : w3s.cell? ⟨w.heap.size, 1, none⟩ = some (.int .i64 e0) := HX4.out.cell 1
    go_wp2_with fail
    refine (HH.out.new a0 e0 g3 a1 a2 _ HS3.out ra0 re0).mono ?_
    rintro e w5 ⟨k, F, rfl, hF, hwa, hB5⟩
    have HWA5 := Lib.hid hwa
    have HX5 := Lib.hid (HX4.out.below hB5 HX4.out.lt)
    have hFw : Hid (∀ i, F i → w.heap.size ≤ i) := Lib.hid (fun i hi => by
      rcases hF i hi with rfl | h1
      · exact hg3
      · have := hB3s.size; omega)
    have hFx : Hid (¬ F w.heap.size) := Lib.hid (fun hi => by
      have h0 := HX4.out.lt
      rcases hF _ hi with h1 | h1
      · have h2 := HX1lt.out; have h3 := hgx3.out; omega
      · omega)
    have hB5 := hB3s.trans (hB5.mono hB3s.size)
    clear hwa hF HS3 HX4 x0 x1 hB3s
    have HOK := HH.out.ok HWA5.out
    have HMZ : Hid (clampI a0 1 65536 = clampI a0 1 65536) := Lib.hid rfl
    have HCZ := Lib.hid (fun w => refClamp_any e0 0 1000 w)
    have HCM := Lib.hid (fun w => refClamp_any a0 1 65536 w)
    have hzc := clampI_in (n := e0) (low := 0) (high := 1000) (by decide)
    generalize clampI a0 1 65536 = m at *
    generalize clampI e0 0 1000 = zi at *
    obtain ⟨z, rfl⟩ := Int.eq_ofNat_of_zero_le hzc.1
    rw [Int.toNat_natCast] at HWA5 HOK
    obtain ⟨hok0, hm1, hm2, hzz⟩ := HOK
    clear hok0 hzc
    have x1 : w5.cell? ⟨w.heap.size, 1, none⟩ = some (.int .i64 e0) := HX5.out.cell 1
    go_wp2_with fail
    refine (HCZ.out _).mono ?_
    rintro e wz ⟨rfl, rfl⟩
    clear x1 HCZ
    go_wp2_with fail
    go_loopg [39] (a1.size + 2) (fun gn iv wr => ∃ (i : Nat) (s : WS), i ≤ a1.size + 2 ∧ gn = a1.size + 2 - i ∧ iv = .int .i64 (i : Int) ∧ Hid (WA wr k g3 F a1 a2 m z s) ∧ Hid (Row wr w.heap.size 22 [.int .i64 a0, .int .i64 e0]) ∧ Below w.heap.size w wr)
    case atStart => exact ⟨0, WS.start, by omega, by omega, rfl, HWA5, HX5, hB5⟩
    case round =>
      clear HWA5 hB5 HX5
      obtain ⟨i, s, hi, rfl, rfl, HWA, HX, hBe⟩ := hrel
      have hok := (HH.out.ok HWA.out).1
      have HNX := Lib.hid (HH.out.next_on HWA.out (by omega) (by omega) HEL.out hBe hFw.out)
      by_cases hlt : i < a1.size + 2
      · have hpk := WS.peek_ok hm1 hok
        have htk := WS.take_ok hpk
        have hheld : ((s.peek a1 a2 m z).take.g : Int) - (s.peek a1 a2 m z).take.at_ < m := by
          rcases Nat.lt_or_ge (s.peek a1 a2 m z).at_ (s.peek a1 a2 m z).g with h1 | h1
          · have e1 := WS.take_at h1
            have e2 : (s.peek a1 a2 m z).take.g = (s.peek a1 a2 m z).g := by unfold WS.take; split <;> rfl
            have := hpk.held
            rw [e1, e2]; omega
          · have e1 : (s.peek a1 a2 m z).at_ = (s.peek a1 a2 m z).g := by have := hpk.low; omega
            rw [WS.take_same e1, e1]; omega
        clear hpk hok
        generalize (s.peek a1 a2 m z).take = s' at *
        generalize (s.peek a1 a2 m z).byte a1 = b at *
        generalize (s.peek a1 a2 m z).code = cd at *
        have hlow := htk.low
        have htop := htk.top
        have hcost := htk.cost
        clear htk
        go_wp2_with fail
        refine HNX.out.mono ?_
        rintro e w8 ⟨rfl, hwa, hB8, hc8⟩
        have HWA8 := Lib.hid hwa
        have HX8 := Lib.hid (HX.out.chg hc8 hFx.out)
        have HWN : Hid (∀ n, WA (w8.drewN n) k g3 F a1 a2 m z s') := Lib.hid (fun n => HH.out.below hwa ⟨rfl, rfl, rfl, Nat.le_refl _, fun _ _ => rfl⟩)
        have x0 : w8.cell? ⟨w.heap.size, 0, none⟩ = some (.int .i64 a0) := HX8.out.cell 0
        clear hwa hc8 HNX HX HWA
        have HQ1 : Hid (∀ n, Calls Try.prog 13 #[.pointer (some ⟨g3, 0, none⟩)] (w8.drewN n) fun e w' => e = .returned (.int .i64 (s'.c : Int)) ∧ w' = w8.drewN n) := Lib.hid (fun n => (calls_any g3 a1 a2 s'.g s'.c s'.o (w8.drewN n) (HH.out.src (HWN.out n))).mono (fun _ _ h => ⟨h.1, h.2.symm⟩))
        have HQ2 : Hid (∀ n, Calls Try.prog 19 #[.pointer (some ⟨g3, 0, none⟩)] (w8.drewN n) fun e w' => e = .returned (.int .i64 (s'.g : Int)) ∧ w' = w8.drewN n) := Lib.hid (fun n => (given_any g3 a1 a2 s'.g s'.c s'.o (w8.drewN n) (HH.out.src (HWN.out n))).mono (fun _ _ h => ⟨h.1, h.2.symm⟩))
        have HQ3 : Hid (∀ n, Calls Try.prog 16 #[.pointer (some ⟨k, 0, none⟩)] (w8.drewN n) fun e w' => e = .returned (.int .i64 (s'.at_ : Int)) ∧ w' = w8.drewN n) := Lib.hid (fun n => (HH.out.at_ (HWN.out n)).mono (fun _ _ h => ⟨h.1, h.2.symm⟩))
        have HQ4 : Hid (∀ n, Calls Try.prog 17 #[.pointer (some ⟨k, 0, none⟩)] (w8.drewN n) fun e w' => e = .returned (.int .i64 ((s'.g - s'.at_ : Nat) : Int)) ∧ w' = w8.drewN n) := Lib.hid (fun n => (HH.out.held (HWN.out n)).mono (fun _ _ h => ⟨h.1, h.2.symm⟩))
        have HQ5 : Hid (∀ n, Calls Try.prog 20 #[.int .i64 a0, .int .i64 1, .int .i64 65536] (w8.drewN n) fun e w' => e = .returned (.int .i64 m) ∧ w' = w8.drewN n) := Lib.hid (fun n => (HCM.out (w8.drewN n)).mono (fun _ _ h => ⟨h.1, h.2.symm⟩))
        generalize s'.c = cv at *
        generalize s'.at_ = av at *
        generalize s'.g = gv at *
        obtain ⟨hd, hhd⟩ : ∃ hd : Nat, gv - av = hd := ⟨_, rfl⟩
        rw [hhd] at HQ4
        have hgv : gv ≤ 1000 := by omega
        have hsm : (hd : Int) + (av : Int) = (gv : Int) := by omega
        have hdm : (hd : Int) < m := by omega
        have hd1 : hd ≤ 1000 := by omega
        have hav : av ≤ 1000 := by omega
        obtain ⟨pr, hpr⟩ : ∃ pr : Nat, (1 + z) * (gv + 1) = pr := ⟨_, rfl⟩
        rw [hpr] at hcost
        have hprI : (1 + (z : Int)) * ((gv : Int) + 1) = (pr : Int) := by
          have := congrArg (fun x : Nat => (x : Int)) hpr
          simpa using this
        have hpb : pr ≤ 1001 * 1001 := by rw [← hpr]; exact Nat.mul_le_mul (by omega) (by omega)
        have k1 : IntKind.i64.wrap (1 + (z : Int)) = 1 + (z : Int) := IntWalk.i64_in _ (by omega)
        have k2 : IntKind.i64.wrap ((gv : Int) + 1) = (gv : Int) + 1 := IntWalk.i64_in _ (by omega)
        have k3 : IntKind.i64.wrap ((1 + (z : Int)) * ((gv : Int) + 1)) = (pr : Int) := by rw [hprI]; exact IntWalk.i64_in _ (by omega)
        have k4 : IntKind.i64.wrap ((pr : Int) + 1) = (pr : Int) + 1 := IntWalk.i64_in _ (by omega)
        have k5 : IntKind.i64.wrap ((hd : Int) + (av : Int)) = (gv : Int) := by rw [hsm]; exact IntWalk.i64_in _ (by omega)
        have k6 : decide ((pr : Int) + 1 < (cv : Int)) = false := by simp; omega
        have k7 : decide (m ≤ (hd : Int)) = false := by simp; omega
        have k8 : decide ((hd : Int) < 0) = false := by simp
        clear hhd hsm hpr hprI hheld hcost hlow htop
        go_wp2_with fail
        go_quiet ((first | (go_at_call 13; exact Calls.quiet_of_same (HQ1.out _)) | (go_at_call 19; exact Calls.quiet_of_same (HQ2.out _)) | (go_at_call 16; exact Calls.quiet_of_same (HQ3.out _)) | (go_at_call 17; exact Calls.quiet_of_same (HQ4.out _)) | (go_at_call 20; exact Calls.quiet_of_same (HQ5.out _))))
        clear k1 k2 k3 k4 k5 k6 k7 k8
        go_wp2_with fail
        have HX9 : Hid (Row (w8.drewN nq) w.heap.size 22 [.int .i64 a0, .int .i64 e0]) := HX8
        have HWA9 := Lib.hid (HWN.out nq)
        have hB9 : Below w.heap.size w (w8.drewN nq) := ⟨hB8.os, hB8.tape, hB8.output, hB8.size, hB8.block⟩
        go_roundg (a1.size + 2 - (i + 1))
        case measure => omega
        case rel => exact ⟨i + 1, s', by omega, rfl, by go_num, HWA9, HX9, hB9⟩
      · go_wp2_with fail
        go_ret
        exact ⟨rfl, hBe⟩

end Go.Proofs.Ytlaeoacaihooiaa
