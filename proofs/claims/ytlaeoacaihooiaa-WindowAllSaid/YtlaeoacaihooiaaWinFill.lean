/- What the landed window's fill gives. -/
import Derived.Test.YtlaeoacaihooiaaWinCode
import Derived.Deep.RegionHeld3
namespace Go.Proofs.Ytlaeoacaihooiaa
open Go.RowKit Go.PlainAid
set_option linter.unusedVariables false
theorem WinAt.below {w w' : World} {k g : Nat} {F : Nat → Prop} {D : ByteArray} {S : List (Int × Int)} {m : Int} {z : Nat} {s : WS} (h : WinAt w k g F D S m z s) (hb : Below w.heap.size w w') : WinAt w' k g F D S m z s := by
  obtain ⟨h1, h2, h3, h4, h5, fp, h6, h7⟩ := h
  exact ⟨h1, h2, h3, h4, h5.below hb, fp, h6.below hb h6.lt, h7⟩
theorem extract_none (D : ByteArray) (a : Nat) : D.extract a a = ⟨#[]⟩ := empty_of (by rw [ByteArray.size_extract]; omega)
theorem bt_extract_at (D : ByteArray) {a g : Nat} (h : a < g) (hg : g ≤ D.size) : bt (D.extract a g) 0 = bt D a := by
  unfold bt
  rw [dif_pos (by rw [ByteArray.size_extract]; omega), dif_pos (by omega), ByteArray.getElem_extract]
  simp
theorem extract_some (D : ByteArray) {a g : Nat} (h : a < g) (hg : g ≤ D.size) : (D.extract a g).toList.isEmpty = false := not_empty (by rw [ByteArray.size_extract]; omega)
set_option maxRecDepth 100000 in
set_option maxHeartbeats 4000000 in
theorem fill_any {w : World} {k g : Nat} {F : Nat → Prop} {D : ByteArray} {S : List (Int × Int)} {m : Int} {z : Nat} {s : WS} (h : WinAt w k g F D S m z s) (hD : D.size ≤ 100000) (hS : S.length ≤ 100000) (hE : ∀ x ∈ S, InI x.1 ∧ InI x.2) :
    Calls Try.prog 26 #[.pointer (some ⟨k, 0, none⟩)] w fun e w' => e = .returned (.tuple #[]) ∧ WinAt w' k g F D S m z (s.peek D S m z) ∧ Chg F w w' := by
  obtain ⟨hok, ⟨hm1, hm2, hz1⟩, hF, hkg, hsrc, fp, hrow, hfp⟩ := h
  have hpk := WS.peek_ok hm1 hok
  have hpa := WS.peek_at (D := D) (S := S) (m := m) (z := z) s
  have hFk : F k := (hF k).2 (.inl rfl)
  have hFg : F g := (hF g).2 (.inr rfl)
  obtain ⟨sg, sa, sc, so, se⟩ := s
  have hlow := hok.low
  have htop := hok.top
  have hon := hok.on
  simp only at hlow htop hon hfp hrow hsrc hpa
  have HOK := Lib.hid hpk
  have HPA := Lib.hid hpa
  have HRES : Hid ((sa = sg ∧ se = 0 ∧ fillM D S m z (fuel D S sc) 0 sg sc = ((WS.peek D S m z ⟨sg, sa, sc, so, se⟩).g, (WS.peek D S m z ⟨sg, sa, sc, so, se⟩).c, (WS.peek D S m z ⟨sg, sa, sc, so, se⟩).o, (WS.peek D S m z ⟨sg, sa, sc, so, se⟩).e)) ∨ (¬ (sa = sg ∧ se = 0) ∧ (sg, sc, so, se) = ((WS.peek D S m z ⟨sg, sa, sc, so, se⟩).g, (WS.peek D S m z ⟨sg, sa, sc, so, se⟩).c, (WS.peek D S m z ⟨sg, sa, sc, so, se⟩).o, (WS.peek D S m z ⟨sg, sa, sc, so, se⟩).e))) := Lib.hid (by
    unfold WS.peek
    by_cases hc : sa = sg ∧ se = 0
    · rw [if_pos hc]; exact .inl ⟨hc.1, hc.2, rfl⟩
    · rw [if_neg hc]; exact .inr ⟨hc, rfl⟩)
  generalize hp : WS.peek D S m z ⟨sg, sa, sc, so, se⟩ = p at *
  clear hok hpk hpa hp
  obtain ⟨pg, pa, pc, po, pe⟩ := p
  simp only at HRES HPA
  obtain rfl := HPA.out
  clear HPA
  have HE := Lib.hid hE
  have HROW := Lib.hid hrow
  have HSRC := Lib.hid hsrc
  have HCH := Lib.hid (Chg.refl F w)
  have HF := Lib.hid hF
  have HFK := Lib.hid hFk
  have HFG := Lib.hid hFg
  have HFP := Lib.hid hfp
  have HON := Lib.hid hon
  clear hE hrow hsrc hF hFk hFg hfp hon
  go_enter Try.func26, Try.ntmps26
  go_wp2_with fail
  go_loopg [2] (fuel D S sc) (fun gn nv wr => ∃ (nn gg c : Nat) (o e : Int), nv = .int .i64 (nn : Int) ∧ pa ≤ gg ∧ gg ≤ D.size ∧ Hid (Row wr k 54 (winCells fp m z (D.extract pa gg) e pa)) ∧ Hid (SrcAt wr g D S gg c o) ∧ Hid (Chg F w wr) ∧ Hid ((gn = fuel D S c ∧ nn ≤ z ∧ fp = some ⟨g, 0, none⟩ ∧ pa = gg ∧ e = 0 ∧ o = 0 ∧ c ≤ S.length + gg ∧ fillM D S m z (fuel D S c) nn gg c = (pg, pc, po, pe)) ∨ (gn ≤ fuel D S sc ∧ ¬ (pa = gg ∧ e = 0) ∧ (e = 0 → fp = some ⟨g, 0, none⟩) ∧ gg = pg ∧ c = pc ∧ o = po ∧ e = pe)))
  case atStart =>
    refine ⟨0, sg, sc, so, se, rfl, hlow, htop, HROW, HSRC, HCH, Lib.hid ?_⟩
    rcases HRES.out with ⟨h1, h2, h3⟩ | ⟨h1, h2⟩
    · exact .inl ⟨rfl, Nat.zero_le _, HFP.out h2, h1, h2, (HON.out h2).1, (HON.out h2).2.1, h3⟩
    · simp only [Prod.mk.injEq] at h2
      exact .inr ⟨Nat.le_refl _, h1, HFP.out, h2.1, h2.2.1, h2.2.2.1, h2.2.2.2⟩
  case round =>
    clear HROW HSRC HCH HRES HFP HON hlow htop
    obtain ⟨nn, gg, c, o, e, rfl, hlow, htop, HROW, HSRC, HCH, HREL⟩ := hrel
    have q3 : wr.cell? ⟨k, 3, none⟩ = some (.string (D.extract pa gg)) := HROW.out.cell 3
    have q4 : wr.cell? ⟨k, 4, none⟩ = some (.int .i64 e) := HROW.out.cell 4
    rcases HREL.out with ⟨h1, hnz, h2, h3, h4, h5, h6, h7⟩ | ⟨h1, h2, h2b, h3, h4, h5, h6⟩
    · subst h1 h2 h3 h4 h5
      rw [extract_none] at q3
      have q0 : wr.cell? ⟨k, 0, none⟩ = some (.pointer (some ⟨g, 0, none⟩)) := HROW.out.cell 0
      have q1 : wr.cell? ⟨k, 1, none⟩ = some (.int .i64 m) := HROW.out.cell 1
      have hf : fuel D S c = fuel D S (c + 1) + 1 := by unfold fuel; omega
      have hRR := h7
      rw [hf, fillM_succ] at hRR
      have HRD := Lib.hid (srcRead_any g D S pa c 0 m wr.drew (HSRC.out.below (Below.refl _ _).drew) (by unfold InI; omega) (by omega) (by omega) HE.out (by omega))
      have hle := sTake_le D S pa c 0 m htop
      have hcl := fun h1 h2 => calls_le (D := D) (S := S) hm1 htop h6 h1 h2
      have HOI := Lib.hid (sOver_in D S pa c 0 m (.inl rfl))
      generalize sTake D S pa c 0 m = t at *
      generalize sOver D S pa c 0 m = o at *
      have HRR := Lib.hid hRR
      have HCL := Lib.hid hcl
      clear hRR hcl h7 HREL hf
      have HROWd : Hid (Row wr.drew k 54 (winCells (some ⟨g, 0, none⟩) m z (D.extract pa pa) 0 pa)) := Lib.hid HROW.out
      have HCHd : Hid (Chg F w wr.drew) := Lib.hid HCH.out.drew
      clear HROW HCH HSRC
      go_wp2_with fail
      go_region_held3 (fun w' => w'.cell? ⟨k, 0, none⟩ = some (.pointer (some ⟨g, 0, none⟩)) ∧ w'.cell? ⟨k, 1, none⟩ = some (.int .i64 m)) (first | exact ⟨y0, y1⟩ | exact ⟨q0, q1⟩) (first
        | (go_at_call 29; with_reducible refine (HRD.out).mono ?_; rintro e w5 ⟨rfl, hs5, hg5⟩
           have HROW5 := Lib.hid (HROWd.out.grown hg5 (by simpa using hkg))
           have y0 : w5.cell? ⟨k, 0, none⟩ = some (.pointer (some ⟨g, 0, none⟩)) := HROW5.out.cell 0
           have y1 : w5.cell? ⟨k, 1, none⟩ = some (.int .i64 m) := HROW5.out.cell 1
           have HCH5 := Lib.hid (HCHd.out.trans (Chg.of_grown hg5 HFG.out))
           have HS5 := Lib.hid hs5
           clear hs5 hg5))
      clear q0 q1 q3 q4 HRD HROWd HCHd y0 y1
      have HER := Lib.hid (fun w => errorOf_any o w)
      have f3 := HROW5.out.frozen 3
      have f4 := HROW5.out.frozen 4
      have q3 : w5.cell? ⟨k, 3, none⟩ = some (.string (D.extract pa pa)) := HROW5.out.cell 3
      have q4 : w5.cell? ⟨k, 4, none⟩ = some (.int .i64 0) := HROW5.out.cell 4
      have HROW6 : Hid (Row ((w5.setCell ⟨k, 3, none⟩ (.string (D.extract pa (pa + t)))).setCell ⟨k, 4, none⟩ (.int .i64 (wErr o))) k 54 (winCells (some ⟨g, 0, none⟩) m z (D.extract pa (pa + t)) (wErr o) pa)) := Lib.hid ((HROW5.out.set 3 _).set 4 _)
      have HCH6 := Lib.hid ((HCH5.out.set HFK.out 3 (.string (D.extract pa (pa + t)))).set HFK.out 4 (.int .i64 (wErr o)))
      have HS6 := Lib.hid (HS5.out.aside (grown_set (grown_set (grown_refl w5 k) 3 (.string (D.extract pa (pa + t)))) 4 (.int .i64 (wErr o))) (Ne.symm hkg) HROW5.out (by decide))
      go_wp2_with fail
      refine (HER.out _).mono ?_
      rintro e w6 ⟨rfl, rfl⟩
      have hpe := extract_none D pa
      by_cases ho : o = 0
      · subst ho
        have HRR2 := HRR.out
        rw [if_neg (by decide), if_neg (by decide)] at HRR2
        by_cases ht : 0 < t
        · have hne := extract_some D (a := pa) (g := pa + t) (by omega) hle
          rw [if_pos ht] at HRR2
          simp only [Prod.mk.injEq] at HRR2
          have HFIN := Lib.hid HRR2
          have HC2 := Lib.hid (HCL.out (by decide) (by decide))
          clear HRR HRR2 HER HCL HROW5 HCH5 HS5 HOI
          generalize hd : D.extract pa (pa + t) = d at *
          have HD := Lib.hid hd
          clear hd
          go_wp2_with fail
          go_roundg 0
          case measure => unfold fuel; omega
          case rel => exact ⟨nn + 1, pa + t, c + 1, 0, 0, by go_num, by omega, hle, by rw [HD.out]; exact HROW6, HS6, HCH6, Lib.hid (.inr ⟨Nat.zero_le _, by omega, fun _ => by trivial, HFIN.out⟩)⟩
        · obtain rfl : t = 0 := by omega
          rw [if_neg ht] at HRR2
          rw [Nat.add_zero] at HS6 HROW6 HCH6 hle HCL
          rw [extract_none] at HCH6 HS6 HROW6
          by_cases hst : nn = z
          · subst hst
            rw [if_pos (by omega)] at HRR2
            simp only [Prod.mk.injEq] at HRR2
            have HFIN := Lib.hid HRR2
            have q2 : w5.cell? ⟨k, 2, none⟩ = some (.int .i64 (nn : Int)) := HROW5.out.cell 2
            have HROW7 : Hid (Row (((w5.setCell ⟨k, 3, none⟩ (.string ⟨#[]⟩)).setCell ⟨k, 4, none⟩ (.int .i64 (wErr 0))).setCell ⟨k, 4, none⟩ (.int .i64 13)) k 54 (winCells (some ⟨g, 0, none⟩) m nn ⟨#[]⟩ 13 pa)) := Lib.hid (HROW6.out.set 4 (.int .i64 13))
            have HCH7 := Lib.hid (HCH6.out.set HFK.out 4 (.int .i64 13))
            have HS7 := Lib.hid (HS6.out.aside (grown_set (grown_refl _ k) 4 (.int .i64 13)) (Ne.symm hkg) HROW6.out (by decide))
            clear HRR HRR2 HER HCL HROW5 HCH5 HS5 HOI HROW6 HCH6 HS6
            rw [Nat.add_zero, extract_none]
            go_wp2_with fail
            go_roundg 0
            case measure => unfold fuel; omega
            case rel => exact ⟨nn + 1, pa, c + 1, 0, 13, by go_num, by omega, hle, by rw [hpe]; exact HROW7, HS7, HCH7, Lib.hid (.inr ⟨Nat.zero_le _, by omega, fun _ => by trivial, HFIN.out⟩)⟩
          · rw [if_neg (by omega)] at HRR2
            have HFIN := Lib.hid HRR2
            have q2 : w5.cell? ⟨k, 2, none⟩ = some (.int .i64 (z : Int)) := HROW5.out.cell 2
            have hst2 : ((nn : Int) == (z : Int)) = false := by simp; omega
            have HC2 := Lib.hid (HCL.out (by decide) (by decide))
            clear HRR HRR2 HER HCL HROW5 HCH5 HS5 HOI
            rw [Nat.add_zero, extract_none]
            go_wp2_with fail
            go_roundg (fuel D S (c + 1))
            case measure => unfold fuel; omega
            case rel => exact ⟨nn + 1, pa, c + 1, 0, 0, by go_num, by omega, hle, by rw [hpe]; exact HROW6, HS6, HCH6, Lib.hid (.inl ⟨by trivial, by omega, by trivial, by trivial, by trivial, by trivial, by have := HC2.out; omega, HFIN.out⟩)⟩
      · have HFIN : Hid (wErr o ≠ 0 ∧ pa + t = pg ∧ c + 1 = pc ∧ o = po ∧ wErr o = pe) := Lib.hid (by
          have := HRR.out
          rcases HOI.out with h | h | h
          · exact absurd h ho
          · subst h
            rw [if_pos rfl] at this
            simp only [Prod.mk.injEq] at this
            exact ⟨by decide, this⟩
          · subst h
            rw [if_neg (by decide), if_pos rfl] at this
            simp only [Prod.mk.injEq] at this
            exact ⟨by decide, this⟩)
        have hb : (o == 0) = false := by simpa using ho
        clear HRR HER HCL HROW5 HCH5 HS5 HOI ho
        generalize wErr o = er at *
        generalize hd : D.extract pa (pa + t) = d at *
        have HD := Lib.hid hd
        clear hd
        go_wp2_with fail
        all_goals
          go_roundg 0
          case measure => unfold fuel; omega
          case rel => exact ⟨nn + 1, pa + t, c + 1, o, er, by go_num, by omega, hle, by rw [HD.out]; exact HROW6, HS6, HCH6, Lib.hid (.inr ⟨Nat.zero_le _, fun e => HFIN.out.1 e.2, fun _ => by trivial, HFIN.out.2⟩)⟩
    · subst h3 h4 h5 h6
      have HX := Lib.hid h2
      have HY := Lib.hid h2b
      clear h2 h2b HREL
      have q0 : wr.cell? ⟨k, 0, none⟩ = some (.pointer fp) := HROW.out.cell 0
      have f0 := HROW.out.frozen 0
      have HROW7 : Hid (Row (wr.setCell ⟨k, 0, none⟩ (.pointer none)) k 54 (winCells none m z (D.extract pa gg) e pa)) := Lib.hid (HROW.out.set 0 (.pointer none))
      have HCH7 := Lib.hid (HCH.out.set HFK.out 0 (.pointer none))
      have HS7 := Lib.hid (HSRC.out.aside (grown_set (grown_refl _ k) 0 (.pointer none)) (Ne.symm hkg) HROW.out (by decide))
      by_cases he : e = 0
      · subst he
        have hlt : pa < gg := by have := HX.out; omega
        have hne := extract_some D hlt htop
        have HFIN : Hid (WinAt wr k g F D S m z ⟨gg, pa, c, o, 0⟩) := Lib.hid ⟨HOK.out, ⟨hm1, hm2, hz1⟩, HF.out, hkg, HSRC.out, fp, HROW.out, HY.out⟩
        clear HX HY HROW7 HS7 HROW HSRC HCH7
        generalize D.extract pa gg = d at *
        go_wp2_with fail
        go_end0
        exact ⟨rfl, HFIN.out, HCH.out⟩
      · have hb : (e == 0) = false := by simpa using he
        have hb2 : (e != 0) = true := by simpa using he
        have HFIN : Hid (WinAt (wr.setCell ⟨k, 0, none⟩ (.pointer none)) k g F D S m z ⟨gg, pa, c, o, e⟩) := Lib.hid ⟨HOK.out, ⟨hm1, hm2, hz1⟩, HF.out, hkg, HS7.out, none, HROW7.out, fun h => absurd h he⟩
        by_cases hx : pa = gg
        · subst hx
          rw [extract_none] at q3
          clear HX HY HROW7 HS7 HROW HSRC HCH he
          go_wp2_with fail
          go_end0
          exact ⟨rfl, HFIN.out, HCH7.out⟩
        · have hne := extract_some D (a := pa) (g := gg) (by omega) htop
          clear HX HY HROW7 HS7 HROW HSRC HCH he
          generalize D.extract pa gg = d at *
          go_wp2_with fail
          go_end0
          exact ⟨rfl, HFIN.out, HCH7.out⟩
set_option maxHeartbeats 1000000 in
theorem winPeek_any {w : World} {k g : Nat} {F : Nat → Prop} {D : ByteArray} {S : List (Int × Int)} {m : Int} {z : Nat} {s : WS} (h : WinAt w k g F D S m z s) (hD : D.size ≤ 100000) (hS : S.length ≤ 100000) (hE : ∀ x ∈ S, InI x.1 ∧ InI x.2) :
    Calls Try.prog 18 #[.pointer (some ⟨k, 0, none⟩)] w fun e w' => e = .returned (.tuple #[.int .u8 ((s.peek D S m z).byte D), .int .i64 (s.peek D S m z).code]) ∧ WinAt w' k g F D S m z (s.peek D S m z) ∧ Chg F w w' := by
  have HFI := Lib.hid (fill_any h hD hS hE)
  clear h hE
  generalize s.peek D S m z = p at *
  go_enter Try.func18, Try.ntmps18
  go_wp2_with fail
  refine HFI.out.mono ?_
  rintro e w1 ⟨rfl, hw1, hc1⟩
  have HW := Lib.hid hw1
  have HC := Lib.hid hc1
  obtain ⟨hok, _, _, _, _, fp, hr, _⟩ := hw1
  have q3 : w1.cell? ⟨k, 3, none⟩ = some (.string (D.extract p.at_ p.g)) := hr.cell 3
  have q4 : w1.cell? ⟨k, 4, none⟩ = some (.int .i64 p.e) := hr.cell 4
  have hlow := hok.low
  have htop := hok.top
  clear hr hok hc1 HFI
  by_cases he : p.at_ = p.g
  · have HB := Lib.hid (WS.byte_off (D := D) he)
    have HCO := Lib.hid (WS.code_off he)
    rw [he, extract_none] at q3
    clear hlow htop
    go_wp2_with fail
    refine region_still (by kernel_rfl) (by kernel_rfl) ?_
    repeat (refine wpStill_step (fun K hK => ?_); go_simp; refine hK _ ?_; clear hK K)
    refine wpStill_nil ?_
    go_wp2
    go_ret2
    exact ⟨ret_two (by rw [HB.out]; rfl) (by rw [HCO.out]; rfl), WinAt.below HW.out (Below.refl _ _).drew, HC.out.drew⟩
  · have hlt : p.at_ < p.g := by omega
    have HB := Lib.hid (WS.byte_on (D := D) hlt)
    have HCO := Lib.hid (WS.code_on hlt)
    have hne := extract_some D hlt htop
    have hsz : (D.extract p.at_ p.g).size = p.g - p.at_ := by rw [ByteArray.size_extract]; omega
    have hx : bt (D.extract p.at_ p.g) 0 = bt D p.at_ := bt_extract_at D (by omega) htop
    have h0 : 0 < (D.extract p.at_ p.g).size := by omega
    have HX : Hid (((D.extract p.at_ p.g)[0]'h0).toNat = bt D p.at_) := Lib.hid (by rw [get_bt, hx])
    clear hx hsz
    generalize D.extract p.at_ p.g = d at *
    go_wp2_with fail
    go_ret2
    exact ⟨ret_two (by rw [HB.out]; exact congrArg _ HX.out) (by rw [HCO.out]; rfl), HW.out, HC.out⟩
set_option maxHeartbeats 1000000 in
theorem winNext_any {w : World} {k g : Nat} {F : Nat → Prop} {D : ByteArray} {S : List (Int × Int)} {m : Int} {z : Nat} {s : WS} (h : WinAt w k g F D S m z s) (hD : D.size ≤ 100000) (hS : S.length ≤ 100000) (hE : ∀ x ∈ S, InI x.1 ∧ InI x.2) :
    Calls Try.prog 15 #[.pointer (some ⟨k, 0, none⟩)] w fun e w' => e = .returned (.tuple #[.int .u8 ((s.peek D S m z).byte D), .int .i64 (s.peek D S m z).code]) ∧ WinAt w' k g F D S m z (s.peek D S m z).take ∧ Chg F w w' := by
  have HPE := Lib.hid (winPeek_any h hD hS hE)
  have HDN := Lib.hid (WS.peek_done h.2.1.1 h.1)
  clear h hE
  generalize s.peek D S m z = p at *
  go_enter Try.func15, Try.ntmps15
  go_wp2_with fail
  refine HPE.out.mono ?_
  rintro e w1 ⟨rfl, hw1, hc1⟩
  have HW := Lib.hid hw1
  have HC := Lib.hid hc1
  obtain ⟨hok, hmz, hF, hkg, hsrc, fp, hr, hfp⟩ := hw1
  have q3 : w1.cell? ⟨k, 3, none⟩ = some (.string (D.extract p.at_ p.g)) := hr.cell 3
  have q5 : w1.cell? ⟨k, 5, none⟩ = some (.int .i64 (p.at_ : Int)) := hr.cell 5
  have f3 := hr.frozen 3
  have f5 := hr.frozen 5
  have hlow := hok.low
  have htop := hok.top
  have HOK := Lib.hid (WS.take_ok hok)
  have HFP := Lib.hid hfp
  have HF := Lib.hid hF
  have HR := Lib.hid hr
  have HS := Lib.hid hsrc
  have HFK : Hid (F k) := Lib.hid ((hF k).2 (.inl rfl))
  clear hr hok hc1 HPE hfp hF hsrc
  have hbb := WS.byte_bd D p
  generalize hb : p.byte D = b at *
  by_cases he : p.at_ = p.g
  · have HT := Lib.hid (WS.take_same he)
    have HCO := Lib.hid (WS.code_off he)
    have hne : p.code ≠ 0 := by rw [HCO.out]; exact HDN.out he
    have hb2 : (p.code == 0) = false := by simpa using hne
    generalize hpc : p.code = pc at *
    go_wp2_with fail
    go_ret2
    exact ⟨ret_two (by rw [hb]; rfl) (by rw [hpc]; rfl), by rw [HT.out]; exact HW.out, HC.out⟩
  · have hlt : p.at_ < p.g := by omega
    have hco := WS.code_on hlt
    have hsz : (D.extract p.at_ p.g).size = p.g - p.at_ := by rw [ByteArray.size_extract]; omega
    have hx : (D.extract p.at_ p.g).extract 1 (D.extract p.at_ p.g).size = D.extract (p.at_ + 1) p.g := by
      rw [ByteArray.extract_extract, hsz]; congr 1; omega
    have h1 : 1 ≤ (D.extract p.at_ p.g).size := by omega
    have HT : Hid (p.take = ⟨p.g, p.at_ + 1, p.c, p.o, p.e⟩) := Lib.hid (by unfold WS.take; rw [if_pos hlt])
    rw [HT.out] at HOK
    rw [hco]
    have HROW : Hid (Row ((w1.setCell ⟨k, 3, none⟩ (.string (D.extract (p.at_ + 1) p.g))).setCell ⟨k, 5, none⟩ (.int .i64 ((p.at_ : Int) + 1))) k 54 (winCells fp m z (D.extract (p.at_ + 1) p.g) p.e (p.at_ + 1))) := Lib.hid ((HR.out.set 3 _).set 5 _)
    have HCH := Lib.hid ((HC.out.set HFK.out 3 (.string (D.extract (p.at_ + 1) p.g))).set HFK.out 5 (.int .i64 ((p.at_ : Int) + 1)))
    have HSS := Lib.hid (HS.out.aside (grown_set (grown_set (grown_refl w1 k) 3 (.string (D.extract (p.at_ + 1) p.g))) 5 (.int .i64 ((p.at_ : Int) + 1))) (Ne.symm hkg) HR.out (by decide))
    have HX := Lib.hid hx
    have HFIN : Hid (WinAt ((w1.setCell ⟨k, 3, none⟩ (.string (D.extract (p.at_ + 1) p.g))).setCell ⟨k, 5, none⟩ (.int .i64 ((p.at_ : Int) + 1))) k g F D S m z p.take) := Lib.hid (by rw [HT.out]; exact ⟨HOK.out, hmz, HF.out, hkg, HSS.out, fp, HROW.out, HFP.out⟩)
    clear hx HR HS HW HC hsz hco HROW HSS
    generalize D.extract (p.at_ + 1) p.g = d2 at *
    generalize D.extract p.at_ p.g = d at *
    go_wp2_with fail
    go_ret2
    rw [HX.out]
    exact ⟨ret_two (by rw [hb]; rfl) (by rw [WS.code_on hlt]; rfl), HFIN.out, HCH.out⟩
/-- The row of a window's block, and of the source's, as that of any that may hold no steps. -/
theorem SrcAt.chg {F : Nat → Prop} {w w' : World} {g : Nat} {D : ByteArray} {S : List (Int × Int)} {at_ calls : Nat} {over : Int} (h : SrcAt w g D S at_ calls over) (hc : Chg F w w') (hg : ¬ F g) (hF : ∀ i, F i → ∃ t L, Row w i t L ∧ t ≠ 39) : SrcAt w' g D S at_ calls over := by
  obtain ⟨h1, h2, oa, n, cap, rest, h3, h4⟩ := h
  refine ⟨h1, h2, oa, n, cap, rest, h3.chg hc hg, fun e => ⟨(h4 e).1, ?_⟩⟩
  obtain ⟨s1, s2, s3, s4⟩ := (h4 e).2
  refine ⟨s1, s2, s3, ?_⟩
  rcases s4 with s4 | ⟨gs, off, L', s5, s6, s7, s8⟩
  · exact .inl s4
  · refine .inr ⟨gs, off, L', s5, s6, s7.chg hc ?_, s8⟩
    intro f
    obtain ⟨t, L, hr, ht⟩ := hF gs f
    exact ht (Row.type hr s7)
theorem WinAt.rows {w : World} {k g : Nat} {F : Nat → Prop} {D : ByteArray} {S : List (Int × Int)} {m : Int} {z : Nat} {s : WS} (h : WinAt w k g F D S m z s) : ∀ i, F i → ∃ t L, Row w i t L ∧ t ≠ 39 := by
  obtain ⟨h1, h2, h3, h4, h5, fp, h6, h7⟩ := h
  intro i hi
  rcases (h3 i).1 hi with rfl | rfl
  · exact ⟨_, _, h6, by decide⟩
  · obtain ⟨L, hL⟩ := h5.row
    exact ⟨_, _, hL, by decide⟩
theorem winSpec : WinSpec WinAt where
  ok := fun h => ⟨h.1, h.2.1⟩
  src := fun h => h.2.2.2.2.1
  lt := fun h i hi => by
    obtain ⟨t, L, hr, _⟩ := WinAt.rows h i hi
    exact hr.lt
  below := fun h hb => WinAt.below h hb
  aside := fun h h' hd hc => by
    have hrows := WinAt.rows h'
    obtain ⟨h1, h2, h3, h4, h5, fp, h6, h7⟩ := h
    exact ⟨h1, h2, h3, h4, h5.chg hc (hd _ ((h3 _).2 (.inr rfl))) hrows, fp, h6.chg hc (hd _ ((h3 _).2 (.inl rfl))), h7⟩
  keep := fun h hb hr ht hf => by
    obtain ⟨h1, h2, h3, h4, h5, fp, h6, h7⟩ := h
    refine ⟨h1, h2, h3, h4, h5.aside hb (fun e => hf ((h3 _).2 (.inr e.symm))) hr ht, fp, h6.grown hb (fun e => ?_), h7⟩
    cases e; exact hf ((h3 _).2 (.inl rfl))
  new := fun size zeros g D S w h hs hz => winNew_any size zeros g D S w h hs hz
  next := fun h hD hS hE => winNext_any h hD hS hE
  peek := fun h hD hS hE => winPeek_any h hD hS hE
  at_ := fun h => winAt_at h
  held := fun h => winAt_held h
end Go.Proofs.Ytlaeoacaihooiaa
