/- What the landed code's Put and Get of heads give. -/
import Derived.Test.YtkokjeakpecndaaIdentAll
import Derived.Test.YtkokjeakpecndaaLenCode
import Derived.Test.YtkokjeakpecndaaRefHead
namespace Go.Proofs.Ytkokjeakpecndaa
open Go.RowKit Go.PlainAid
set_option linter.unusedVariables false
theorem lenGet_at (b : ByteArray) (at_ : Int) (hb : b.size ≤ maxLen) (ha : -9223372036854775808 ≤ at_ ∧ at_ ≤ 9223372036854775807) {v n e : Int} (h : lgAt b at_ = (v, n, e)) (w : World) :
    Calls Try.prog 21 #[.string b, .int .i64 at_] w fun r w' => r = .returned (.tuple #[.int .i64 v, .int .i64 n, .int .i64 e]) ∧ Below w.heap.size w w' := by
  have := lenGet_any b at_ hb ha w
  rw [h] at this
  exact this
set_option maxHeartbeats 1600000 in
theorem headPut_all (c t : Int) (k : Bool) (n : Int) (hn : -9223372036854775808 ≤ n ∧ n ≤ 9223372036854775807) (w : World) :
    Calls Try.prog 9 #[.agg #[.int .i64 c, .int .i64 t, .bool k, .int .i64 n]] w fun e w' => e = .returned (.tuple #[.string (hpS c t k n), .int .i64 (hpE c t n)]) ∧ Below w.heap.size w w' := by
  have HX0 := Lib.hid (Row.new w 23 (hdC c t k n))
  have hB0 : Below w.heap.size w (w.alloc (.cells (hdC c t k n).toArray 23)) := (Below.refl _ _).alloc (Nat.le_refl _) _
  have H0 := Lib.hid (identPut_all c t k n)
  have H1 := Lib.hid (lenPut_all n hn)
  have hl0 := putS_le c t k
  have hl1 := lpS_le n
  by_cases h1 : idOk c t = true
  · rw [putE_ok.2 h1] at H0
    by_cases h2 : lenOk n = true
    · rw [lpE_ok.2 h2] at H1
      have HF := Lib.hid (hpS_join (k := k) h1 h2)
      have HE := Lib.hid (hpE_ok.2 (hdOk_iff.2 ⟨h1, h2⟩))
      generalize putS c t k = a at *
      generalize lpS n = b at *
      clear h1 h2 hn
      go_enter Try.func9, Try.ntmps9
      go_wp2_with fail
      refine (H0.out _).mono ?_
      rintro e w1 ⟨rfl, hb⟩
      have hB1 := hB0.trans (hb.mono hB0.size)
      have HX1 := Lib.hid (HX0.out.below hb HX0.out.lt)
      obtain ⟨k0, k1, k2, k3, _, _, _, _⟩ := head_facts HX1.out
      clear hb hB0 HX0
      go_wp2_with fail
      refine (H1.out _).mono ?_
      rintro e w2 ⟨rfl, hb⟩
      have hB2 := hB1.trans (hb.mono hB1.size)
      clear hb hB1 HX1 k0 k1 k2 k3
      go_wp2
      go_returns
      exact ⟨rets2 (congrArg _ HF.out) (congrArg _ HE.out.symm), hB2⟩
    · rw [lpE_bad h2] at H1
      have hno : ¬ hdOk c t n = true := by rw [hdOk_iff]; exact fun h => h2 h.2
      have HF := Lib.hid (hpS_bad (k := k) hno)
      have HE := Lib.hid (hpE_bad hno)
      generalize putS c t k = a at *
      generalize lpS n = b at *
      clear h1 h2 hn hno
      go_enter Try.func9, Try.ntmps9
      go_wp2_with fail
      refine (H0.out _).mono ?_
      rintro e w1 ⟨rfl, hb⟩
      have hB1 := hB0.trans (hb.mono hB0.size)
      have HX1 := Lib.hid (HX0.out.below hb HX0.out.lt)
      obtain ⟨k0, k1, k2, k3, _, _, _, _⟩ := head_facts HX1.out
      clear hb hB0 HX0
      go_wp2_with fail
      refine (H1.out _).mono ?_
      rintro e w2 ⟨rfl, hb⟩
      have hB2 := hB1.trans (hb.mono hB1.size)
      clear hb hB1 HX1 k0 k1 k2 k3
      go_wp2
      go_returns
      exact ⟨rets2 (congrArg _ HF.out.symm) (congrArg _ HE.out.symm), hB2⟩
  · rw [putE_bad h1] at H0
    have hno : ¬ hdOk c t n = true := by rw [hdOk_iff]; exact fun h => h1 h.1
    have HF := Lib.hid (hpS_bad (k := k) hno)
    have HE := Lib.hid (hpE_bad hno)
    generalize putS c t k = a at *
    clear h1 hn hno
    go_enter Try.func9, Try.ntmps9
    go_wp2_with fail
    refine (H0.out _).mono ?_
    rintro e w1 ⟨rfl, hb⟩
    have hB1 := hB0.trans (hb.mono hB0.size)
    clear hb hB0 HX0
    go_wp2
    go_returns
    exact ⟨rets2 (congrArg _ HF.out.symm) (congrArg _ HE.out.symm), hB1⟩
set_option maxHeartbeats 1600000 in
theorem headGet_any (b : ByteArray) (at_ : Int) (hb : b.size ≤ maxLen) (ha : -9223372036854775808 ≤ at_ ∧ at_ ≤ 9223372036854775807) (w : World) :
    Calls Try.prog 12 #[.string b, .int .i64 at_] w fun e w' => e = .returned (hgV (hgAt b at_)) ∧ Below w.heap.size w w' := by
  have h9 := hb9_of hb
  have HZ := Lib.hid (Row.new w 23 (hdC 0 0 false 0))
  have hB0 : Below w.heap.size w (w.alloc (.cells (hdC 0 0 false 0).toArray 23)) := (Below.refl _ _).alloc (Nat.le_refl _) _
  rcases hgAt_cases b at_ ha hb with ⟨n, e, hg, he, hr⟩ | ⟨c, t, k, n, m, e, hg, n0, n1, hl, he, hr⟩ | ⟨c, t, k, n, v, m, hg, n0, n1, hl, hr⟩
  · have H0 := Lib.hid (identGet_is b at_ hb hg)
    have HA := Lib.hid (show hgV (hgAt b at_) = .tuple #[hdV 0 0 false 0, .int .i64 n, .int .i64 e] by rw [hr]; rfl)
    have heq : (e != 0) = true := by simpa using he
    clear hg he hr
    go_enter Try.func12, Try.ntmps12
    go_wp2_with fail
    refine (H0.out _).mono ?_
    rintro e w1 ⟨rfl, hb⟩
    have hB1 := hB0.trans (hb.mono (by simp))
    have HZ1 := Lib.hid (HZ.out.below hb HZ.out.lt)
    obtain ⟨k0, k1, k2, k3, f0, f1, f2, f3⟩ := head_facts HZ1.out
    have hlt := HZ1.out.lt
    clear hb hB0 HZ
    go_wp2
    exact bodyPost_ret (results_cell_two Try.results12 _ (ad := ⟨w.heap.size, 0, none⟩) rfl rfl rfl (head_load ((head_set HZ1.out 0 0 false 0).alloc _))) rfl ⟨by rw [HA.out]; rfl, (head_below hB1 (Nat.le_refl _) 0 0 false 0).alloc (by rw [size_set4]; exact hB1.size) _⟩
  · have H0 := Lib.hid (identGet_is b at_ hb hg)
    have H1 := Lib.hid (fun w => lenGet_at b n hb ⟨by omega, by omega⟩ hl w)
    have HA := Lib.hid (show hgV (hgAt b at_) = .tuple #[hdV 0 0 false 0, .int .i64 m, .int .i64 e] by rw [hr]; rfl)
    have heq : (e != 0) = true := by simpa using he
    clear hg he hr hl
    go_enter Try.func12, Try.ntmps12
    go_wp2_with fail
    refine (H0.out _).mono ?_
    rintro e w1 ⟨rfl, hb⟩
    have hB1 := hB0.trans (hb.mono (by simp))
    have hs1 : w.heap.size + 1 ≤ w1.heap.size := by have := hb.size; simpa using this
    have HZ1 := Lib.hid ((HZ.out.below hb HZ.out.lt).alloc (.cells (hdC c t k 0).toArray 23))
    have HY1 := Lib.hid (Row.new w1 23 (hdC c t k 0))
    have hB1 := hB1.alloc hB1.size (.cells (hdC c t k 0).toArray 23)
    clear hb hB0 HZ
    go_wp2_with fail
    refine (H1.out _).mono ?_
    rintro e w2 ⟨rfl, hb⟩
    have hB2 := hB1.trans (hb.mono hB1.size)
    have HZ2 := Lib.hid (HZ1.out.below hb HZ1.out.lt)
    have HY2 := Lib.hid (HY1.out.below hb HY1.out.lt)
    obtain ⟨k0, k1, k2, k3, f0, f1, f2, f3⟩ := head_facts HZ2.out
    obtain ⟨j0, j1, j2, j3, q0, q1, q2, q3⟩ := head_facts HY2.out
    have hB1s : w.heap.size ≤ w1.heap.size := by omega
    have hne : ¬ w.heap.size = w1.heap.size := by omega
    have hne2 : ¬ w1.heap.size = w.heap.size := by omega
    clear hb hB1 HZ1 HY1
    go_wp2
    exact bodyPost_ret (results_cell_two Try.results12 _ (ad := ⟨w.heap.size, 0, none⟩) rfl rfl rfl (head_load (head_set (HZ2.out.far (p := ⟨w1.heap.size, 3, none⟩) hne (.int .i64 0)) 0 0 false 0))) rfl ⟨by rw [HA.out]; rfl, head_below (hB2.setCell (p := ⟨w1.heap.size, 3, none⟩) hB1s (.int .i64 0)) (Nat.le_refl _) 0 0 false 0⟩
  · have H0 := Lib.hid (identGet_is b at_ hb hg)
    have H1 := Lib.hid (fun w => lenGet_at b n hb ⟨by omega, by omega⟩ hl w)
    have HA := Lib.hid (show hgV (hgAt b at_) = .tuple #[hdV c t k v, .int .i64 m, .int .i64 0] by rw [hr]; rfl)
    clear hg hr hl
    go_enter Try.func12, Try.ntmps12
    go_wp2_with fail
    refine (H0.out _).mono ?_
    rintro e w1 ⟨rfl, hb⟩
    have hB1 := hB0.trans (hb.mono (by simp))
    have hs1 : w.heap.size + 1 ≤ w1.heap.size := by have := hb.size; simpa using this
    have HZ1 := Lib.hid ((HZ.out.below hb HZ.out.lt).alloc (.cells (hdC c t k 0).toArray 23))
    have HY1 := Lib.hid (Row.new w1 23 (hdC c t k 0))
    have hB1 := hB1.alloc hB1.size (.cells (hdC c t k 0).toArray 23)
    clear hb hB0 HZ
    go_wp2_with fail
    refine (H1.out _).mono ?_
    rintro e w2 ⟨rfl, hb⟩
    have hB2 := hB1.trans (hb.mono hB1.size)
    have HZ2 := Lib.hid (HZ1.out.below hb HZ1.out.lt)
    have HY2 := Lib.hid (HY1.out.below hb HY1.out.lt)
    obtain ⟨k0, k1, k2, k3, f0, f1, f2, f3⟩ := head_facts HZ2.out
    obtain ⟨j0, j1, j2, j3, q0, q1, q2, q3⟩ := head_facts HY2.out
    have hB1s : w.heap.size ≤ w1.heap.size := by omega
    have hne : ¬ w.heap.size = w1.heap.size := by omega
    have hne2 : ¬ w1.heap.size = w.heap.size := by omega
    clear hb hB1 HZ1 HY1
    go_wp2
    exact bodyPost_ret (results_cell_two Try.results12 _ (ad := ⟨w.heap.size, 0, none⟩) rfl rfl rfl (head_load (head_set (HZ2.out.far (p := ⟨w1.heap.size, 3, none⟩) hne (.int .i64 v)) c t k v))) rfl ⟨by rw [HA.out]; rfl, head_below (hB2.setCell (p := ⟨w1.heap.size, 3, none⟩) hB1s (.int .i64 v)) (Nat.le_refl _) c t k v⟩
end Go.Proofs.Ytkokjeakpecndaa
