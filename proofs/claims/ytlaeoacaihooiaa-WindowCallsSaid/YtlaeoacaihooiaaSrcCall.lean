/- What a source's Read gives, the parts put together. -/
import Derived.Test.YtlaeoacaihooiaaSrcRead
namespace Go.Proofs.Ytlaeoacaihooiaa
open Go.RowKit Go.PlainAid
set_option linter.unusedVariables false
theorem extract_in (D : ByteArray) (a k : Nat) (h : a + k ≤ D.size) : (D.extract a D.size).extract 0 k = D.extract a (a + k) := by
  rw [ByteArray.extract_extract]; congr 1; omega
theorem extract_on (D : ByteArray) (a k : Nat) (h : a + k ≤ D.size) : (D.extract a D.size).extract k (D.extract a D.size).size = D.extract (a + k) D.size := by
  rw [ByteArray.extract_extract, ByteArray.size_extract]; congr 1; omega
theorem sMost_of (D : ByteArray) (S : List (Int × Int)) (at_ calls : Nat) (h : at_ ≤ D.size) : nsN (D.extract at_ D.size) (S.drop calls) = sMost D S at_ calls := by
  unfold sMost
  by_cases hc : calls < S.length
  · rw [dif_pos hc, List.drop_eq_getElem_cons hc]; rfl
  · rw [dif_neg hc, List.drop_of_length_le (by omega)]
    simp [nsN, ByteArray.size_extract]
theorem sKind_of (D : ByteArray) (S : List (Int × Int)) (at_ calls : Nat) (h : at_ ≤ D.size) : nsK (D.extract at_ D.size) (S.drop calls) = sKind D S at_ calls := by
  unfold sKind
  by_cases hc : calls < S.length
  · rw [dif_pos hc, List.drop_eq_getElem_cons hc]; rfl
  · rw [dif_neg hc, List.drop_of_length_le (by omega)]
    simp only [nsK, ByteArray.size_extract, Nat.min_self]
    by_cases e : at_ = D.size
    · rw [if_pos (by omega), if_pos e]
    · rw [if_neg (by omega), if_neg e]
theorem sMost_in (D : ByteArray) (S : List (Int × Int)) (at_ calls : Nat) (hE : ∀ s ∈ S, InI s.1 ∧ InI s.2) (hD : D.size ≤ 100000000) : InI (sMost D S at_ calls) := by
  unfold sMost
  split
  · exact (hE _ (List.getElem_mem _)).1
  · unfold InI; omega
theorem drop_tail {α : Type} (l : List α) (n : Nat) : (l.drop n).tail = l.drop (n + 1) := by rw [List.tail_drop]
set_option maxHeartbeats 1000000 in
theorem srcRead_over (g : Nat) (D : ByteArray) (S : List (Int × Int)) (at_ calls : Nat) (over n : Int) (w : World) (h : SrcAt w g D S at_ calls over) (ho : over ≠ 0) (hc : calls ≤ 1000000) :
    Calls Try.prog 29 #[.pointer (some ⟨g, 0, none⟩), .int .i64 n] w fun e w' => e = .returned (.tuple #[.string ⟨#[]⟩, .int .i64 over]) ∧ SrcAt w' g D S at_ (calls + 1) over ∧ w.grownBy w' (some g) := by
  obtain ⟨h1, h2, oa, m, cap, rest, h3, h4⟩ := h
  have c4 := h3.cell 4
  have f4 := h3.frozen 4
  have HA := Lib.hid (add_any g calls w c4 f4 (by omega) (by omega))
  have HR := Lib.hid (h3.set 4 (.int .i64 ((calls : Int) + 1)))
  have o2 : (w.setCell ⟨g, 4, none⟩ (.int .i64 ((calls : Int) + 1))).cell? ⟨g, 2, none⟩ = some (.int .i64 over) := HR.out.cell 2
  have hb : (over != 0) = true := by simpa using ho
  have HG := Lib.hid (grown_set (grown_refl w g) 4 (.int .i64 ((calls : Int) + 1)))
  clear h3 h4 c4 f4
  generalize hw : w.setCell ⟨g, 4, none⟩ (.int .i64 ((calls : Int) + 1)) = w1 at *
  have HW := Lib.hid hw
  clear hw
  go_enter Try.func29, Try.ntmps29
  go_wp2_with fail
  refine HA.out.mono ?_
  rintro e w2 ⟨rfl, e2⟩
  obtain rfl := e2
  go_wp2_with fail
  refine region_still (by kernel_rfl) (by kernel_rfl) ?_
  repeat (refine wpStill_step (fun K hK => ?_); go_simp; refine hK _ ?_; clear hK K)
  refine wpStill_nil ?_
  go_wp2
  go_ret2
  refine ⟨rfl, ⟨h1, h2, oa, m, cap, rest, ?_, fun e => absurd e ho⟩, grown_drew HG.out⟩
  exact HR.out
set_option maxHeartbeats 1000000 in
theorem srcRead_on (g : Nat) (D : ByteArray) (S : List (Int × Int)) (at_ calls : Nat) (n : Int) (w : World) (h : SrcAt w g D S at_ calls 0) (hn : InI n) (hD : D.size ≤ 100000000) (hS : S.length ≤ 1000000) (hE : ∀ s ∈ S, InI s.1 ∧ InI s.2) (hc : calls ≤ 1000000) :
    Calls Try.prog 29 #[.pointer (some ⟨g, 0, none⟩), .int .i64 n] w fun e w' => e = .returned (.tuple #[.string (D.extract at_ (at_ + sTake D S at_ calls 0 n)), .int .i64 (sOver D S at_ calls 0 n)]) ∧ SrcAt w' g D S (at_ + sTake D S at_ calls 0 n) (calls + 1) (sOver D S at_ calls 0 n) ∧ w.grownBy w' (some g) := by
  obtain ⟨h1, _, oa, m, cap, rest, h3, h4⟩ := h
  obtain ⟨hrest, hst⟩ := h4 rfl
  have hN := sMost_of D S at_ calls h1
  have hK := sKind_of D S at_ calls h1
  have hNI := sMost_in D S at_ calls hE hD
  rw [← hrest] at hN hK
  have hrs : rest.size = D.size - at_ := by rw [hrest, ByteArray.size_extract]; omega
  have c4 := h3.cell 4
  have f4 := h3.frozen 4
  have hgl := h3.lt
  have HA := Lib.hid (add_any g calls w c4 f4 (by omega) (by omega))
  have hm : m ≤ 1000000 := by obtain ⟨e, _⟩ := hst; rw [← e, List.length_drop]; omega
  have hr0 := h3.set 4 (.int .i64 ((calls : Int) + 1))
  have hg1 := grown_set (grown_refl w g) 4 (.int .i64 ((calls : Int) + 1))
  have hst1 := hst.grown hg1 (by intro k e; cases e; omega)
  generalize hw : w.setCell ⟨g, 4, none⟩ (.int .i64 ((calls : Int) + 1)) = w1 at *
  have o2 : w1.cell? ⟨g, 2, none⟩ = some (.int .i64 0) := hr0.cell 2
  have HNS := Lib.hid (nextStep_any g rest oa m cap 0 at_ (calls + 1) (S.drop calls) w1 hr0 hst1 (by omega) hm)
  rw [hN, hK, drop_tail] at HNS
  have HG1 := Lib.hid hg1
  have HW := Lib.hid hw
  clear h3 h4 c4 f4 hst hr0 hg1 hst1 hw hN hK
  have HRE := Lib.hid hrest
  have HRS := Lib.hid hrs
  have hrs' : rest.size ≤ 100000000 := by omega
  clear hrest hrs
  have hTK : sTake D S at_ calls 0 n = (min (min n (sMost D S at_ calls)) ((D.size - at_ : Nat) : Int)).toNat := by unfold sTake; rw [if_pos rfl]
  have hOV : sOver D S at_ calls 0 n = outK (D.extract (at_ + sTake D S at_ calls 0 n) D.size) (sKind D S at_ calls) := by
    have := sTake_le D S at_ calls 0 n h1
    unfold sOver outK
    rw [if_pos rfl, ByteArray.size_extract]
    by_cases e : at_ + sTake D S at_ calls 0 n = D.size
    · simp [e]
    · have e2 : ¬ D.size - (at_ + sTake D S at_ calls 0 n) = 0 := by omega
      simp [e, e2]
  generalize sMost D S at_ calls = N at *
  generalize sKind D S at_ calls = K at *
  have hle := sTake_le D S at_ calls 0 n h1
  generalize sTake D S at_ calls 0 n = k at *
  generalize sOver D S at_ calls 0 n = ov at *
  go_enter Try.func29, Try.ntmps29
  go_wp2_with fail
  refine HA.out.mono ?_
  rintro e w2 ⟨rfl, e2⟩
  obtain rfl := e2
  go_wp2_with fail
  refine HNS.out.mono ?_
  rintro e w3 ⟨rfl, ⟨ob, mb, cb, hr3, hst3⟩, hg3⟩
  have HG3 := Lib.hid (grown_trans HG1.out hg3)
  have HR3 := Lib.hid (hr3.alloc (.cells #[.int .i64 N, .int .i64 K] 39))
  have HST3 := Lib.hid (hst3.below ((Below.refl _ _).alloc (Nat.le_refl _) (.cells #[.int .i64 N, .int .i64 K] 39)))
  have HB3 := Lib.hid (Row.new w3 39 [.int .i64 N, .int .i64 K])
  have hgl3 : g < w3.heap.size := hr3.lt
  have hw3s := HG3.out.size
  have HT := Lib.hid (fun w' h => take_any g rest ob mb cb 0 at_ (calls + 1) (min n N) w' h (by unfold InI at *; omega) hrs' (by omega))
  clear hr3 hst3 hg3 HNS HA o2
  rw [HRS.out, ← hTK, ← HRS.out, HRE.out, extract_in D at_ k hle, extract_on D at_ k hle] at HT
  rw [HRE.out] at HR3
  have HTK := Lib.hid hTK
  have HOV := Lib.hid hOV
  clear hTK hOV
  go_wp2_with fail
  refine (HT.out _ HR3.out).mono ?_
  rintro e w4 ⟨rfl, hr4, hg4⟩
  have HG4 := Lib.hid (grown_trans (grown_alloc HG3.out _) hg4)
  have HST4 := Lib.hid (HST3.out.grown hg4 (by intro k e; cases e; omega))
  have hb4 := HB3.out.grown hg4 (by simp; omega)
  have k1 : w4.cell? ⟨w3.heap.size, 1, none⟩ = some (.int .i64 K) := hb4.cell 1
  have HOU := Lib.hid (fun w => outcome_any g (D.extract (at_ + k) D.size) ob mb cb 0 (at_ + k) (calls + 1) K w)
  rw [← HOV.out] at HOU
  have HR4 := Lib.hid hr4
  clear hr4 hg4 hb4 HR3 HST3 HB3 HG3 HT
  go_wp2_with fail
  refine (HOU.out _ HR4.out).mono ?_
  rintro e w5 ⟨rfl, rfl⟩
  have hov : ov = 0 ∨ ov = 1 ∨ ov = 2 := by
    have := HOV.out
    unfold outK at this
    split at this
    · omega
    · split at this <;> omega
  clear k1 HOU
  by_cases hz : ov = 0
  · subst hz
    go_wp2
    go_ret2
    exact ⟨rfl, ⟨hle, .inl rfl, ob, mb, cb, _, HR4.out, fun _ => ⟨rfl, HST4.out⟩⟩, HG4.out⟩
  · have hb : (ov != 0) = true := by simpa using hz
    have f0 := HR4.out.frozen 0
    have f1 := HR4.out.frozen 1
    have f2 := HR4.out.frozen 2
    have q0 : w4.cell? ⟨g, 0, none⟩ = some (.string (D.extract (at_ + k) D.size)) := HR4.out.cell 0
    have q1 : w4.cell? ⟨g, 1, none⟩ = some (.slice ob mb cb) := HR4.out.cell 1
    have q2 : w4.cell? ⟨g, 2, none⟩ = some (.int .i64 0) := HR4.out.cell 2
    have HRF := Lib.hid (((HR4.out.set 2 (.int .i64 ov)).set 0 (.string ⟨#[]⟩)).set 1 (.slice none 0 0))
    have HZ := Lib.hid hz
    clear hz
    go_wp2
    go_ret2
    exact ⟨rfl, ⟨hle, hov, none, 0, 0, _, HRF.out, fun e => absurd e HZ.out⟩, grown_set (grown_set (grown_set HG4.out _ _) _ _) _ _⟩
theorem srcRead_any (g : Nat) (D : ByteArray) (S : List (Int × Int)) (at_ calls : Nat) (over n : Int) (w : World) (h : SrcAt w g D S at_ calls over) (hn : InI n) (hD : D.size ≤ 100000000) (hS : S.length ≤ 1000000) (hE : ∀ s ∈ S, InI s.1 ∧ InI s.2) (hc : calls ≤ 1000000) :
    Calls Try.prog 29 #[.pointer (some ⟨g, 0, none⟩), .int .i64 n] w fun e w' => e = .returned (.tuple #[.string (D.extract at_ (at_ + sTake D S at_ calls over n)), .int .i64 (sOver D S at_ calls over n)]) ∧ SrcAt w' g D S (at_ + sTake D S at_ calls over n) (calls + 1) (sOver D S at_ calls over n) ∧ w.grownBy w' (some g) := by
  by_cases ho : over = 0
  · subst ho
    exact srcRead_on g D S at_ calls n w h hn hD hS hE hc
  · have e1 : sTake D S at_ calls over n = 0 := by unfold sTake; rw [if_neg ho]
    have e2 : sOver D S at_ calls over n = over := by unfold sOver; rw [if_neg ho]
    have e3 : D.extract at_ (at_ + 0) = (⟨#[]⟩ : ByteArray) := by apply empty_of; rw [ByteArray.size_extract]; omega
    rw [e1, e2, e3]
    exact srcRead_over g D S at_ calls over n w h ho hc
end Go.Proofs.Ytlaeoacaihooiaa
