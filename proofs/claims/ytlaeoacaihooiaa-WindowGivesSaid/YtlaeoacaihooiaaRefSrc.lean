/- What the reference's source gives for a call of Read. -/
import Derived.Test.YtlaeoacaihooiaaSrcCall
import Derived.Deep.CutRange
import Derived.Deep.QuietTactic
import Derived.BigQuiet
import Derived.WalkSpells
import Derived.WalkLawsBesides
import Derived.Laws.DeepStrings4
namespace Go.Proofs.Ytlaeoacaihooiaa
open Go.RowKit Go.PlainAid
set_option linter.unusedVariables false
def refCells (D : ByteArray) (oa : Option Addr) (n cap : Nat) (at_ calls : Nat) (over : Int) : List Value := [.string D, .slice oa n cap, .int .i64 (at_ : Int), .int .i64 (calls : Int), .int .i64 over]
theorem add_field (a : Addr) (i : Nat) : a.add (2 * i + 1) = ⟨(a.add (i * 2)).block, (a.add (i * 2)).off + 1, none⟩ := by
  unfold Addr.add
  rw [if_neg (by omega)]
  by_cases h : i * 2 = 0
  · rw [if_pos h]
    have : 2 * i + 1 = 1 := by omega
    rw [this]
  · rw [if_neg h]
    simp only [Addr.mk.injEq, true_and, and_true]
    omega
theorem slice_any (D : ByteArray) (a k : Nat) (h : a + k ≤ D.size) (W : World) : (Instr.slice 9 (.string D) (some (.int .i64 (a : Int))) (some (.int .i64 ((a : Int) + (k : Int)))) none).run Try.prog W = .ok (.string (D.extract a (a + k))) W := by
  rw [run_slice_string_if (P := Try.prog) W 9 D .i64 .i64 _ _ Try.underlying9, if_pos (by omega), if_pos (by omega), show ((a : Int) + (k : Int)).toNat = a + k from by omega, show (a : Int).toNat = a from by omega]
set_option maxHeartbeats 1000000 in
theorem refRead_over (g : Nat) (D : ByteArray) (oa : Option Addr) (m cap at_ calls : Nat) (over n : Int) (w : World) (h : Row w g 58 (refCells D oa m cap at_ calls over)) (ho : over ≠ 0) (hc : calls ≤ 1000000) :
    Calls Try.prog 25 #[.pointer (some ⟨g, 0, none⟩), .int .i64 n] w fun e w' => e = .returned (.tuple #[.string ⟨#[]⟩, .int .i64 over]) ∧ Row w' g 58 (refCells D oa m cap at_ (calls + 1) over) ∧ w.grownBy w' (some g) := by
  have c3 : w.cell? ⟨g, 3, none⟩ = some (.int .i64 (calls : Int)) := h.cell 3
  have c4 : w.cell? ⟨g, 4, none⟩ = some (.int .i64 over) := h.cell 4
  have f3 := h.frozen 3
  have HR := Lib.hid (h.set 3 (.int .i64 ((calls : Int) + 1)))
  have hb : (over != 0) = true := by simpa using ho
  clear h
  go_enter Try.func25, Try.ntmps25
  go_wp2
  refine region_still (by kernel_rfl) (by kernel_rfl) ?_
  repeat (refine wpStill_step (fun K hK => ?_); go_simp; refine hK _ ?_; clear hK K)
  refine wpStill_nil ?_
  go_wp2
  go_ret2
  exact ⟨rfl, HR.out, grown_drew (grown_set (grown_refl _ _) _ _)⟩
set_option maxRecDepth 100000 in
set_option maxHeartbeats 16000000 in
theorem refRead_on (g : Nat) (D : ByteArray) (S : List (Int × Int)) (oa : Option Addr) (cap at_ calls : Nat) (n : Int) (w : World) (h : Row w g 58 (refCells D oa S.length cap at_ calls 0)) (hca : ∀ w', w.grownBy w' (some g) → Came w' oa (pvs S)) (ha : at_ ≤ D.size) (hn : InI n) (hD : D.size ≤ 100000000) (hS : S.length ≤ 1000000) (hE : ∀ s ∈ S, InI s.1 ∧ InI s.2) (hc : calls ≤ 1000000) :
    Calls Try.prog 25 #[.pointer (some ⟨g, 0, none⟩), .int .i64 n] w fun e w' => e = .returned (.tuple #[.string (D.extract at_ (at_ + sTake D S at_ calls 0 n)), .int .i64 (sOver D S at_ calls 0 n)]) ∧ Row w' g 58 (refCells D oa S.length cap (at_ + sTake D S at_ calls 0 n) (calls + 1) (sOver D S at_ calls 0 n)) ∧ w.grownBy w' (some g) := by
  have c0 : w.cell? ⟨g, 0, none⟩ = some (.string D) := h.cell 0
  have c1 : w.cell? ⟨g, 1, none⟩ = some (.slice oa S.length cap) := h.cell 1
  have c2 : w.cell? ⟨g, 2, none⟩ = some (.int .i64 (at_ : Int)) := h.cell 2
  have c3 : w.cell? ⟨g, 3, none⟩ = some (.int .i64 (calls : Int)) := h.cell 3
  have c4 : w.cell? ⟨g, 4, none⟩ = some (.int .i64 0) := h.cell 4
  have f3 := h.frozen 3
  have HR := Lib.hid (h.set 3 (.int .i64 ((calls : Int) + 1)))
  have HG := Lib.hid (grown_set (grown_refl w g) 3 (.int .i64 ((calls : Int) + 1)))
  clear h
  obtain ⟨lf, hlf⟩ : ∃ lf : Nat, lf = D.size - at_ := ⟨_, rfl⟩
  have hsub : IntKind.i64.wrap ((D.size : Int) - (at_ : Int)) = (lf : Int) := by rw [IntWalk.i64_in _ (by omega)]; omega
  have HLF := Lib.hid hlf
  have hlf1 : lf ≤ 100000000 := by omega
  clear hlf
  have HTK : Hid (sTake D S at_ calls 0 n = (min (min n (sMost D S at_ calls)) (lf : Int)).toNat) := Lib.hid (by rw [HLF.out]; unfold sTake; rw [if_pos rfl])
  have HOV : Hid (sOver D S at_ calls 0 n = if sKind D S at_ calls = 2 then 2 else if sKind D S at_ calls = 1 ∧ at_ + sTake D S at_ calls 0 n = D.size then 1 else 0) := Lib.hid (by unfold sOver; rw [if_pos rfl])
  have hle := sTake_le D S at_ calls 0 n ha
  have HNI := Lib.hid (sMost_in D S at_ calls hE hD)
  have HM : Hid (sMost D S at_ calls = if h : calls < S.length then S[calls].1 else (lf : Int)) := Lib.hid (by rw [HLF.out]; rfl)
  have HK : Hid (sKind D S at_ calls = if h : calls < S.length then S[calls].2 else if at_ = D.size then 1 else 0) := Lib.hid rfl
  generalize sTake D S at_ calls 0 n = k at *
  generalize sOver D S at_ calls 0 n = ov at *
  generalize sMost D S at_ calls = N at *
  generalize sKind D S at_ calls = KD at *
  go_enter Try.func25, Try.ntmps25
  go_wp2
  refine region_still (by kernel_rfl) (by kernel_rfl) ?_
  repeat (refine wpStill_step (fun K hK => ?_); go_simp; refine hK _ ?_; clear hK K)
  refine wpStill_nil ?_
  have HR1 : Hid (Row (w.setCell ⟨g, 3, none⟩ (.int .i64 ((calls : Int) + 1))).drew g 58 (refCells D oa S.length cap at_ (calls + 1) 0)) := HR
  have HG1 := Lib.hid (grown_drew HG.out)
  clear c0 c1 c2 c3 c4 f3 HR HG
  generalize (w.setCell ⟨g, 3, none⟩ (.int .i64 ((calls : Int) + 1))).drew = w1 at *
  have c0 : w1.cell? ⟨g, 0, none⟩ = some (.string D) := HR1.out.cell 0
  have c1 : w1.cell? ⟨g, 1, none⟩ = some (.slice oa S.length cap) := HR1.out.cell 1
  have c2 : w1.cell? ⟨g, 2, none⟩ = some (.int .i64 (at_ : Int)) := HR1.out.cell 2
  have c4 : w1.cell? ⟨g, 4, none⟩ = some (.int .i64 0) := HR1.out.cell 4
  have hcm := hca w1 HG1.out
  clear hca
  clear hsub
  go_upto_if 49 with (fail)
  go_cut [8, 9] from 11 (fun kv mv wr => kv = .int .i64 KD ∧ mv = .int .i64 N ∧ wr = w1)
  case first =>
    by_cases hlt : calls < S.length
    · have hM := HM.out
      have hK := HK.out
      rw [dif_pos hlt] at hM hK
      have hp := pvs_get hlt
      obtain ⟨ad, rfl, q0⟩ := hcm _ _ hp.1
      obtain ⟨ad', e, q1⟩ := hcm _ _ hp.2
      cases e
      rw [← hM] at q0
      rw [← hK] at q1
      rw [Nat.mul_comm] at q0
      rw [add_field] at q1
      clear hM hK hp hcm
      go_wp2
      go_meet
      exact ⟨rfl, rfl, rfl⟩
    · have hM := HM.out
      have hK := HK.out
      rw [dif_neg hlt] at hM hK
      have hlf := HLF.out
      clear hcm
      by_cases hz : at_ = D.size
      · rw [if_pos hz] at hK
        obtain rfl : lf = 0 := by omega
        have hM2 := Lib.hid hM
        have hK2 := Lib.hid hK
        clear hM hK hlf hz
        go_wp2
        go_meet
        exact ⟨by rw [hK2.out], by rw [hM2.out], rfl⟩
      · rw [if_neg hz] at hK
        have hb : ((lf : Int) == 0) = false := by
          rw [beq_eq_false_iff_ne]; omega
        have hM2 := Lib.hid hM
        have hK2 := Lib.hid hK
        clear hM hK hlf hz
        go_wp2
        go_meet
        exact ⟨by rw [hK2.out], by rw [hM2.out], rfl⟩
  case rest =>
    obtain ⟨rfl, rfl, rfl⟩ := hcut
    clear hcm HM HK
    have hNI := HNI.out
    obtain ⟨hn0, hn1⟩ := hn
    obtain ⟨hN0, hN1⟩ := hNI
    have HE := Lib.hid hE
    clear hE
    go_upto_if 70 with (fail)
    go_cut [1] from 11 (fun nv wr => nv = .int .i64 (min n N) ∧ wr = wc)
    case first =>
      by_cases hgt : N < n
      · have e : Hid (min n N = N) := Lib.hid (by omega)
        go_wp2
        go_meet
        exact ⟨by rw [e.out], rfl⟩
      · have e : Hid (min n N = n) := Lib.hid (by omega)
        go_wp2
        go_meet
        exact ⟨by rw [e.out], rfl⟩
    case rest =>
    obtain ⟨rfl, rfl⟩ := hcut
    have hx0 : -9223372036854775808 ≤ min n N := by omega
    have hx1 : min n N ≤ 9223372036854775807 := by omega
    clear hn0 hn1 hN0 hN1 HNI
    generalize min n N = x at *
    go_upto_if 74 with (fail)
    go_cut [1] from 11 (fun nv wr => nv = .int .i64 (min x (lf : Int)) ∧ wr = wc)
    case first =>
      by_cases hgt : (lf : Int) < x
      · have e : Hid (min x (lf : Int) = lf) := Lib.hid (by omega)
        go_wp2
        go_meet
        exact ⟨by rw [e.out], rfl⟩
      · have e : Hid (min x (lf : Int) = x) := Lib.hid (by omega)
        go_wp2
        go_meet
        exact ⟨by rw [e.out], rfl⟩
    case rest =>
    obtain ⟨rfl, rfl⟩ := hcut
    have hy0 : -9223372036854775808 ≤ min x (lf : Int) := by omega
    have hy1 : min x (lf : Int) ≤ 100000000 := by omega
    clear hx0 hx1
    generalize min x (lf : Int) = y at *
    go_upto_if 77 with (fail)
    go_cut [1] from 11 (fun nv wr => nv = .int .i64 (k : Int) ∧ wr = wc)
    case first =>
      by_cases hgt : y < 0
      · have e : Hid (0 = (k : Int)) := Lib.hid (by have := HTK.out; omega)
        go_wp2
        go_meet
        exact ⟨by rw [← e.out], rfl⟩
      · have e : Hid (y = (k : Int)) := Lib.hid (by have := HTK.out; omega)
        go_wp2
        go_meet
        exact ⟨by rw [e.out], rfl⟩
    case rest =>
    obtain ⟨rfl, rfl⟩ := hcut
    clear HTK hy0 hy1
    have hsum : IntKind.i64.wrap ((at_ : Int) + (k : Int)) = ((at_ + k : Nat) : Int) := by rw [IntWalk.i64_in _ (by omega)]; omega
    have hsl : ∀ W : World, (Instr.slice 9 (.string D) (some (.int .i64 (at_ : Int))) (some (.int .i64 ((at_ : Int) + (k : Int)))) none).run Try.prog W = .ok (.string (D.extract at_ (at_ + k))) W := fun W => slice_any D at_ k hle W
    go_wp2_with fail
    refine region_still (by kernel_rfl) (by kernel_rfl) ?_
    repeat (refine wpStill_step (fun K hK => ?_); go_simp; refine hK _ ?_; clear hK K)
    refine wpStill_nil ?_
    have HG2 := Lib.hid (grown_drew HG1.out)
    have HR2 : Hid (Row wc.drew g 58 (refCells D oa S.length cap at_ (calls + 1) 0)) := HR1
    clear c0 c1 c2 c4 hsum hsl HR1 HG1 HE
    generalize hpt : D.extract at_ (at_ + k) = part at *
    have HPT := Lib.hid hpt
    clear hpt
    generalize wc.drew = w2 at *
    have HR3 := Lib.hid (HR2.out.set 2 (.int .i64 ((at_ : Int) + (k : Int))))
    have HG3 := Lib.hid (grown_set HG2.out 2 (.int .i64 ((at_ : Int) + (k : Int))))
    have c2 : w2.cell? ⟨g, 2, none⟩ = some (.int .i64 (at_ : Int)) := HR2.out.cell 2
    have f2 := HR2.out.frozen 2
    clear HR2 HG2
    go_upto_if 103 with (fail)
    have HR4 : Hid (Row (w2.setCell ⟨g, 2, none⟩ (.int .i64 ((at_ : Int) + (k : Int)))) g 58 (refCells D oa S.length cap (at_ + k) (calls + 1) 0)) := Lib.hid (by have := HR3.out; exact this)
    clear HR3 c2 f2
    generalize w2.setCell ⟨g, 2, none⟩ (.int .i64 ((at_ : Int) + (k : Int))) = w3 at *
    have c0 : w3.cell? ⟨g, 0, none⟩ = some (.string D) := HR4.out.cell 0
    have c2 : w3.cell? ⟨g, 2, none⟩ = some (.int .i64 ((at_ + k : Nat) : Int)) := HR4.out.cell 2
    have c4 : w3.cell? ⟨g, 4, none⟩ = some (.int .i64 0) := HR4.out.cell 4
    have f4 := HR4.out.frozen 4
    have hak : at_ + k ≤ 100000000 := by omega
    clear hle
    generalize hak2 : at_ + k = ak at *
    have HAK := Lib.hid hak2
    clear hak2
    by_cases h2 : KD = 2
    · subst h2
      obtain rfl : ov = 2 := by have := HOV.out; rw [if_pos rfl] at this; exact this
      have HRF := Lib.hid (HR4.out.set 4 (.int .i64 2))
      clear HOV
      go_wp2_with fail
      go_quiet (fail)
      go_wp2_with fail
      have HRX : Hid (Row (((w3.setCell ⟨g, 4, none⟩ (.int .i64 2)).drewN nq)) g 58 (refCells D oa S.length cap ak (calls + 1) 2)) := HRF
      have HGX : Hid (w.grownBy (((w3.setCell ⟨g, 4, none⟩ (.int .i64 2)).drewN nq)) (some g)) := Lib.hid (grown_drewN (grown_set HG3.out 4 (.int .i64 2)) nq)
      clear c0 c2 c4 f4 HR4
      generalize ((w3.setCell ⟨g, 4, none⟩ (.int .i64 2)).drewN nq) = w5 at *
      have c4 : w5.cell? ⟨g, 4, none⟩ = some (.int .i64 2) := HRX.out.cell 4
      refine region_still (by kernel_rfl) (by kernel_rfl) ?_
      repeat (refine wpStill_step (fun K hK => ?_); go_simp; refine hK _ ?_; clear hK K)
      refine wpStill_nil ?_
      go_wp2
      go_ret2
      exact ⟨by rw [HAK.out, HPT.out]; rfl, by rw [HAK.out]; exact HRX.out, grown_drew HGX.out⟩
    · have b2 : (KD == 2) = false := by simpa using h2
      by_cases h1 : KD = 1
      · subst h1
        by_cases e : ak = D.size
        · obtain rfl : ov = 1 := by have := HOV.out; rw [if_neg (by decide), if_pos ⟨rfl, e⟩] at this; exact this
          have be : ((ak : Int) == (D.size : Int)) = true := by rw [e]; simp
          have HE2 := Lib.hid e
          clear HOV b2 h2 e
          go_wp2_with fail
          go_quiet (fail)
          go_wp2_with fail
          have HRX : Hid (Row (((w3.drewN nq).setCell ⟨g, 4, none⟩ (.int .i64 1))) g 58 (refCells D oa S.length cap ak (calls + 1) 1)) := Lib.hid (Row.set (w := w3.drewN nq) HR4.out 4 (.int .i64 1))
          have HGX : Hid (w.grownBy (((w3.drewN nq).setCell ⟨g, 4, none⟩ (.int .i64 1))) (some g)) := Lib.hid (grown_set (grown_drewN HG3.out nq) 4 (.int .i64 1))
          clear c0 c2 c4 f4 HR4
          generalize ((w3.drewN nq).setCell ⟨g, 4, none⟩ (.int .i64 1)) = w5 at *
          have c4 : w5.cell? ⟨g, 4, none⟩ = some (.int .i64 1) := HRX.out.cell 4
          refine region_still (by kernel_rfl) (by kernel_rfl) ?_
          repeat (refine wpStill_step (fun K hK => ?_); go_simp; refine hK _ ?_; clear hK K)
          refine wpStill_nil ?_
          go_wp2
          go_ret2
          exact ⟨by rw [HAK.out, HPT.out]; rfl, by rw [HAK.out]; exact HRX.out, grown_drew HGX.out⟩
        · have be : ((ak : Int) == (D.size : Int)) = false := by rw [beq_eq_false_iff_ne]; omega
          have HO2 : Hid (ov = 0) := Lib.hid (by have := HOV.out; rw [if_neg (by decide), if_neg (fun q => e q.2)] at this; exact this)
          clear HOV b2 h2 e
          go_wp2_with fail
          go_quiet (fail)
          go_wp2_with fail
          have HRX : Hid (Row ((w3.drewN nq)) g 58 (refCells D oa S.length cap ak (calls + 1) 0)) := HR4
          have HGX : Hid (w.grownBy ((w3.drewN nq)) (some g)) := Lib.hid (grown_drewN HG3.out nq)
          clear c0 c2 c4 f4 HR4
          generalize (w3.drewN nq) = w5 at *
          have c4 : w5.cell? ⟨g, 4, none⟩ = some (.int .i64 0) := HRX.out.cell 4
          refine region_still (by kernel_rfl) (by kernel_rfl) ?_
          repeat (refine wpStill_step (fun K hK => ?_); go_simp; refine hK _ ?_; clear hK K)
          refine wpStill_nil ?_
          go_wp2
          go_ret2
          exact ⟨by rw [HAK.out, HPT.out, HO2.out]; rfl, by rw [HAK.out, HO2.out]; exact HRX.out, grown_drew HGX.out⟩
      · have b1 : (KD == 1) = false := by simpa using h1
        have HO2 : Hid (ov = 0) := Lib.hid (by have := HOV.out; rw [if_neg h2, if_neg (fun q => h1 q.1)] at this; exact this)
        clear HOV h2 h1
        go_wp2_with fail
        go_quiet (fail)
        go_wp2_with fail
        have HRX : Hid (Row ((w3.drewN nq)) g 58 (refCells D oa S.length cap ak (calls + 1) 0)) := HR4
        have HGX : Hid (w.grownBy ((w3.drewN nq)) (some g)) := Lib.hid (grown_drewN HG3.out nq)
        clear c0 c2 c4 f4 HR4
        generalize (w3.drewN nq) = w5 at *
        have c4 : w5.cell? ⟨g, 4, none⟩ = some (.int .i64 0) := HRX.out.cell 4
        refine region_still (by kernel_rfl) (by kernel_rfl) ?_
        repeat (refine wpStill_step (fun K hK => ?_); go_simp; refine hK _ ?_; clear hK K)
        refine wpStill_nil ?_
        go_wp2
        go_ret2
        exact ⟨by rw [HAK.out, HPT.out, HO2.out]; rfl, by rw [HAK.out, HO2.out]; exact HRX.out, grown_drew HGX.out⟩
theorem refRead_any (g : Nat) (D : ByteArray) (S : List (Int × Int)) (oa : Option Addr) (cap at_ calls : Nat) (over n : Int) (w : World) (h : Row w g 58 (refCells D oa S.length cap at_ calls over)) (hca : ∀ w', w.grownBy w' (some g) → Came w' oa (pvs S)) (ha : at_ ≤ D.size) (hn : InI n) (hD : D.size ≤ 100000000) (hS : S.length ≤ 1000000) (hE : ∀ s ∈ S, InI s.1 ∧ InI s.2) (hc : calls ≤ 1000000) :
    Calls Try.prog 25 #[.pointer (some ⟨g, 0, none⟩), .int .i64 n] w fun e w' => e = .returned (.tuple #[.string (D.extract at_ (at_ + sTake D S at_ calls over n)), .int .i64 (sOver D S at_ calls over n)]) ∧ Row w' g 58 (refCells D oa S.length cap (at_ + sTake D S at_ calls over n) (calls + 1) (sOver D S at_ calls over n)) ∧ w.grownBy w' (some g) := by
  by_cases ho : over = 0
  · subst ho
    exact refRead_on g D S oa cap at_ calls n w h hca ha hn hD hS hE hc
  · have e1 : sTake D S at_ calls over n = 0 := by unfold sTake; rw [if_neg ho]
    have e2 : sOver D S at_ calls over n = over := by unfold sOver; rw [if_neg ho]
    have e3 : D.extract at_ (at_ + 0) = (⟨#[]⟩ : ByteArray) := by apply empty_of; rw [ByteArray.size_extract]; omega
    rw [e1, e2, e3]
    exact refRead_over g D oa S.length cap at_ calls over n w h ho hc
end Go.Proofs.Ytlaeoacaihooiaa
