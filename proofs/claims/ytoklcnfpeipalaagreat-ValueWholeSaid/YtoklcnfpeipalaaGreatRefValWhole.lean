/- What layer 15's reference tells of a whole text. Of every text of at most 400000 bytes, and every depth. -/
import Derived.Test.YtoklcnfpeipalaaGreatRefVal
import Derived.Test.YtoklcnfpeipalaaGreatE4
namespace Go.Proofs.YtoklcnfpeipalaaGreat
open Go.RowKit Go.PlainAid
set_option linter.unusedVariables false
set_option maxRecDepth 100000 in
set_option maxHeartbeats 8000000 in
theorem refValWhole_any (b : ByteArray) (depth : Int) (hs : b.size ≤ 400000) (hd : -9223372036854775808 ≤ depth ∧ depth ≤ 9223372036854775807) (w : World) :
    Calls Tryz.prog 8 #[.string b, .int .i64 depth] w fun e w' => e = .returned (.tuple #[.int .i64 (valW b depth).1, .int .i64 (valW b depth).2]) ∧ Below w.heap.size w w' := by
  obtain ⟨L, E, P, hw⟩ : ∃ L e p, evW b depth = (L, e, p) := ⟨_, _, _, rfl⟩
  have hm : b.size ≤ maxLen := by unfold maxLen; omega
  have hln := evW_len b depth
  rw [hw] at hln
  have hln : L.length ≤ b.size := hln
  have HBd := Lib.hid (VS.bounds (evW_fits hm hw))
  have HC := Lib.hid (fun w => refEvWhole_is b depth (by omega) hd hw w)
  obtain ⟨⟨v1, v2⟩, _⟩ := v_bad (evW_fits hm hw)
  by_cases h0 : 0 ≤ vF L
  · obtain ⟨i, hi⟩ := Int.eq_ofNat_of_zero_le h0
    have HV : Hid (vF L = (i : Int)) := Lib.hid hi
    have hil : i < L.length := by omega
    have HA : Hid ((valW b depth).1 = 7 ∧ (valW b depth).2 = L[i].at_) := Lib.hid (by
      rw [valW_bad hw h0, hi, Int.toNat_natCast, atOf_some (List.getElem?_eq_getElem hil)]
      exact ⟨rfl, rfl⟩)
    clear hw v1 v2 h0 hi hd
    go_enter Tryz.func8, Tryz.ntmps8
    go_wp2_with fail
    refine (HC.out _).mono ?_
    rintro r w4 ⟨o2, n2, c2, rfl, he2, hn2, hb⟩
    subst hn2
    have hal : Below w4.heap.size w4 (w4.alloc (.cells (tdC (.slice o2 L.length c2) E (P : Int)).toArray 33)) := (Below.refl _ _).alloc (Nat.le_refl _) _
    have HE := Lib.hid (he2.below hal)
    have hB := hb.trans (hal.mono hb.size)
    have HT : Hid (Row (w4.alloc (.cells (tdC (.slice o2 L.length c2) E (P : Int)).toArray 33)) w4.heap.size 33 (tdC (.slice o2 L.length c2) E (P : Int))) := Lib.hid (Row.new w4 33 (tdC (.slice o2 L.length c2) E (P : Int)))
    have hX : w4.alloc (.cells (tdC (.slice o2 L.length c2) E (P : Int)).toArray 33) = w4.alloc (.cells #[.slice o2 L.length c2, .int .i64 E, .int .i64 (P : Int)] 33) := rfl
    have HX := Lib.hid hX
    clear hb he2 hal hX
    go_upto_region 2 with (fail)
    rw [← HX.out]
    clear HX
    generalize w4.alloc (.cells (tdC (.slice o2 L.length c2) E (P : Int)).toArray 33) = X at *
    generalize w4.heap.size = k4 at *
    obtain ⟨q0, q1, q2, _, _, _⟩ := told_facts HT.out
    have HF := Lib.hid (refFirst_any HE.out (by omega) HBd.out)
    rw [HV.out] at HF
    go_wp2_with fail
    refine HF.out.mono ?_
    rintro r w5 ⟨rfl, hb⟩
    obtain ⟨q0, q1, q2, _, _, _⟩ := told_facts (HT.out.below hb HT.out.lt)
    have hE5 := HE.out.below hb
    have hB5 := hB.trans (hb.mono hB.size)
    obtain ⟨g1, c1, hv, hc1⟩ : ∃ g c, Value.slice o2 L.length c2 = .slice (some ⟨g, 0, none⟩) L.length c ∧ L.length ≤ c := by
      rcases hE5.shape with ⟨_, hh⟩ | ⟨g, c, h1, h2, _⟩
      · rw [hh] at hil; simp at hil
      · exact ⟨g, c, h1, h2⟩
    injection hv with e1 _ e3
    subst e1 e3
    obtain ⟨⟨x0, x1, x2, x3, x4, x5, x6⟩, he⟩ : ∃ e, L[i] = e := ⟨_, rfl⟩
    obtain ⟨y0, y1, y2, y3, y4, y5, y6⟩ := hE5.evAt i hil he
    rw [he] at HA
    have hlt2 : (i : Int) < (L.length : Int) := by omega
    have hc2 : i < c2 := by omega
    clear hb hE5 hB HF HE HT HC he
    go_wp2_with fail
    go_quiet (fail)
    go_wp2
    go_returns
    exact ⟨rets2 (congrArg (Value.int .i64) HA.out.1.symm) (congrArg (Value.int .i64) HA.out.2.symm), hB5.trans (draws_below' _ _ hB5.size)⟩
  · have HV : Hid (vF L = -1) := Lib.hid (by omega)
    have HA : Hid ((valW b depth).1 = E ∧ (valW b depth).2 = (P : Int)) := Lib.hid (by rw [valW_good hw (by omega)]; exact ⟨rfl, rfl⟩)
    clear hw v1 v2 h0 hd
    go_enter Tryz.func8, Tryz.ntmps8
    go_wp2_with fail
    refine (HC.out _).mono ?_
    rintro r w4 ⟨o2, n2, c2, rfl, he2, hn2, hb⟩
    subst hn2
    have hal : Below w4.heap.size w4 (w4.alloc (.cells (tdC (.slice o2 L.length c2) E (P : Int)).toArray 33)) := (Below.refl _ _).alloc (Nat.le_refl _) _
    have HE := Lib.hid (he2.below hal)
    have hB := hb.trans (hal.mono hb.size)
    have HT : Hid (Row (w4.alloc (.cells (tdC (.slice o2 L.length c2) E (P : Int)).toArray 33)) w4.heap.size 33 (tdC (.slice o2 L.length c2) E (P : Int))) := Lib.hid (Row.new w4 33 (tdC (.slice o2 L.length c2) E (P : Int)))
    have hX : w4.alloc (.cells (tdC (.slice o2 L.length c2) E (P : Int)).toArray 33) = w4.alloc (.cells #[.slice o2 L.length c2, .int .i64 E, .int .i64 (P : Int)] 33) := rfl
    have HX := Lib.hid hX
    clear hb he2 hal hX
    go_upto_region 2 with (fail)
    rw [← HX.out]
    clear HX
    generalize w4.alloc (.cells (tdC (.slice o2 L.length c2) E (P : Int)).toArray 33) = X at *
    generalize w4.heap.size = k4 at *
    obtain ⟨q0, q1, q2, _, _, _⟩ := told_facts HT.out
    have HF := Lib.hid (refFirst_any HE.out (by omega) HBd.out)
    rw [HV.out] at HF
    go_wp2_with fail
    refine HF.out.mono ?_
    rintro r w5 ⟨rfl, hb⟩
    obtain ⟨q0, q1, q2, _, _, _⟩ := told_facts (HT.out.below hb HT.out.lt)
    have hB5 := hB.trans (hb.mono hB.size)
    clear hb hB HF HE HT HC
    go_wp2_with fail
    go_quiet (fail)
    go_wp2
    go_returns
    exact ⟨rets2 (congrArg (Value.int .i64) HA.out.1.symm) (congrArg (Value.int .i64) HA.out.2.symm), hB5.trans (draws_below' _ _ hB5.size)⟩
end Go.Proofs.YtoklcnfpeipalaaGreat
