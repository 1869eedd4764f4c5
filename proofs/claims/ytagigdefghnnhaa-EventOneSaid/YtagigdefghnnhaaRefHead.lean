/- What the reference's Put and Get of heads give. -/
import Derived.Test.YtagigdefghnnhaaIdentLaw
import Derived.Test.YtagigdefghnnhaaLenLaw
import Derived.Test.YtagigdefghnnhaaHead
import Derived.Test.YtagigdefghnnhaaHeadMem
namespace Go.Proofs.Ytagigdefghnnhaa
open Go.RowKit Go.PlainAid
set_option linter.unusedVariables false
/-- What Put answers. -/
def hpS (c t : Int) (k : Bool) (n : Int) : ByteArray := if hdOk c t n = true then strOfNums (hdPut c t k n) else ⟨#[]⟩
def hpE (c t n : Int) : Int := if hdOk c t n = true then 0 else 1
theorem hpS_ok {c t : Int} {k : Bool} {n : Int} (h : hdOk c t n = true) : hpS c t k n = strOfNums (hdPut c t k n) := by rw [hpS, if_pos h]
theorem hpS_bad {c t : Int} {k : Bool} {n : Int} (h : ¬ hdOk c t n = true) : hpS c t k n = ⟨#[]⟩ := by rw [hpS, if_neg h]
theorem hpE_ok {c t n : Int} : hpE c t n = 0 ↔ hdOk c t n = true := by unfold hpE; split <;> simp_all
theorem hpE_bad {c t n : Int} (h : ¬ hdOk c t n = true) : hpE c t n = 1 := by unfold hpE; rw [if_neg h]
theorem putE_bad {c t : Int} (h : ¬ idOk c t = true) : putE c t = 1 := by unfold putE; rw [if_neg h]
theorem lpE_bad {n : Int} (h : ¬ lenOk n = true) : lpE n = 1 := by unfold lpE; rw [if_neg h]
theorem hpS_join {c t : Int} {k : Bool} {n : Int} (h1 : idOk c t = true) (h2 : lenOk n = true) : putS c t k ++ lpS n = hpS c t k n := by
  rw [hpS_ok (hdOk_iff.2 ⟨h1, h2⟩), putS_ok h1, lpS_ok h2, ← strOfNums_append]; rfl
set_option maxHeartbeats 1600000 in
theorem refHeadPut_all (c t : Int) (k : Bool) (n : Int) (hn : -9223372036854775808 ≤ n ∧ n ≤ 9223372036854775807) (w : World) :
    Calls Try.prog 21 #[.agg #[.int .i64 c, .int .i64 t, .bool k, .int .i64 n]] w fun e w' => e = .returned (.tuple #[.string (hpS c t k n), .int .i64 (hpE c t n)]) ∧ Below w.heap.size w w' := by
  have HX0 := Lib.hid (Row.new w 40 (hdC c t k n))
  have hB0 : Below w.heap.size w (w.alloc (.cells (hdC c t k n).toArray 40)) := (Below.refl _ _).alloc (Nat.le_refl _) _
  have H0 := Lib.hid (refIdPut_all c t k n)
  have H1 := Lib.hid (refLenPut_all n hn)
  have hl0 := putS_le c t k
  have hl1 := lpS_le n
  by_cases h1 : idOk c t = true
  · rw [putE_ok.2 h1] at H0
    by_cases h2 : lenOk n = true
    · rw [lpE_ok.2 h2] at H1
      have HF := Lib.hid (hpS_join (k := k) h1 h2)
      have HE := Lib.hid (hpE_ok.2 (hdOk_iff.2 ⟨h1, h2⟩))
      generalize putS c t k = a at *
      generalize lpS n = b at *
      clear h1 h2 hn
      go_enter Try.func21, Try.ntmps21
      go_wp2_with fail
      refine (H0.out _).mono ?_
      rintro e w1 ⟨rfl, hb⟩
      have hB1 := hB0.trans (hb.mono hB0.size)
      have HX1 := Lib.hid (HX0.out.below hb HX0.out.lt)
      obtain ⟨k0, k1, k2, k3, _, _, _, _⟩ := head_facts HX1.out
      clear hb hB0 HX0
      go_wp2_with fail
      refine (H1.out _).mono ?_
      rintro e w2 ⟨rfl, hb⟩
      have hB2 := hB1.trans (hb.mono hB1.size)
      clear hb hB1 HX1 k0 k1 k2 k3
      go_wp2
      go_returns
      exact ⟨rets2 (congrArg _ HF.out) (congrArg _ HE.out.symm), hB2⟩
    · rw [lpE_bad h2] at H1
      have hno : ¬ hdOk c t n = true := by rw [hdOk_iff]; exact fun h => h2 h.2
      have HF := Lib.hid (hpS_bad (k := k) hno)
      have HE := Lib.hid (hpE_bad hno)
      generalize putS c t k = a at *
      generalize lpS n = b at *
      clear h1 h2 hn hno
      go_enter Try.func21, Try.ntmps21
      go_wp2_with fail
      refine (H0.out _).mono ?_
      rintro e w1 ⟨rfl, hb⟩
      have hB1 := hB0.trans (hb.mono hB0.size)
      have HX1 := Lib.hid (HX0.out.below hb HX0.out.lt)
      obtain ⟨k0, k1, k2, k3, _, _, _, _⟩ := head_facts HX1.out
      clear hb hB0 HX0
      go_wp2_with fail
      refine (H1.out _).mono ?_
      rintro e w2 ⟨rfl, hb⟩
      have hB2 := hB1.trans (hb.mono hB1.size)
      clear hb hB1 HX1 k0 k1 k2 k3
      go_wp2
      go_returns
      exact ⟨rets2 (congrArg _ HF.out.symm) (congrArg _ HE.out.symm), hB2⟩
  · rw [putE_bad h1] at H0
    have hno : ¬ hdOk c t n = true := by rw [hdOk_iff]; exact fun h => h1 h.1
    have HF := Lib.hid (hpS_bad (k := k) hno)
    have HE := Lib.hid (hpE_bad hno)
    generalize putS c t k = a at *
    clear h1 hn hno
    go_enter Try.func21, Try.ntmps21
    go_wp2_with fail
    refine (H0.out _).mono ?_
    rintro e w1 ⟨rfl, hb⟩
    have hB1 := hB0.trans (hb.mono hB0.size)
    clear hb hB0 HX0
    go_wp2
    go_returns
    exact ⟨rets2 (congrArg _ HF.out.symm) (congrArg _ HE.out.symm), hB1⟩
/-- What Get tells at a place: class, tag, form, length, the place, the error. -/
def hgAt (b : ByteArray) (at_ : Int) : Int × Int × Bool × Int × Int × Int :=
  if at_ < 0 ∨ (b.size : Int) < at_ then (0, 0, false, 0, 0, 1)
  else ((hdGet ((bl b).drop at_.toNat)).1, (hdGet ((bl b).drop at_.toNat)).2.1, (hdGet ((bl b).drop at_.toNat)).2.2.1, (hdGet ((bl b).drop at_.toNat)).2.2.2.1, at_ + (hdGet ((bl b).drop at_.toNat)).2.2.2.2.1, (hdGet ((bl b).drop at_.toNat)).2.2.2.2.2)
theorem hgAt_in (b : ByteArray) (i : Nat) (hi : i ≤ b.size) {c t : Int} {k : Bool} {v : Int} {n : Nat} {e : Int} (h : hdGet ((bl b).drop i) = (c, t, k, v, n, e)) : hgAt b (i : Int) = (c, t, k, v, (i : Int) + n, e) := by
  unfold hgAt
  rw [if_neg (by omega), Int.toNat_natCast, h]
theorem hgAt_out (b : ByteArray) (at_ : Int) (h : at_ < 0 ∨ (b.size : Int) < at_) : hgAt b at_ = (0, 0, false, 0, 0, 1) := by
  unfold hgAt; rw [if_pos h]
def hgV (g : Int × Int × Bool × Int × Int × Int) : Value := .tuple #[.agg #[.int .i64 g.1, .int .i64 g.2.1, .bool g.2.2.1, .int .i64 g.2.2.2.1], .int .i64 g.2.2.2.2.1, .int .i64 g.2.2.2.2.2]
/-- The two steps that a head is got by. -/
theorem hgAt_cases (b : ByteArray) (at_ : Int) (ha : -9223372036854775808 ≤ at_ ∧ at_ ≤ 9223372036854775807) (hb : b.size ≤ maxLen) :
    (∃ n e, gAt b at_ = (0, 0, false, n, e) ∧ e ≠ 0 ∧ hgAt b at_ = (0, 0, false, 0, n, e)) ∨
    (∃ c t k n m e, gAt b at_ = (c, t, k, n, 0) ∧ 0 ≤ n ∧ n ≤ b.size ∧ lgAt b n = (0, m, e) ∧ e ≠ 0 ∧ hgAt b at_ = (0, 0, false, 0, m, e)) ∨
    (∃ c t k n v m, gAt b at_ = (c, t, k, n, 0) ∧ 0 ≤ n ∧ n ≤ b.size ∧ lgAt b n = (v, m, 0) ∧ hgAt b at_ = (c, t, k, v, m, 0)) := by
  by_cases h : at_ < 0 ∨ (b.size : Int) < at_
  · left
    refine ⟨0, 1, ?_, by decide, hgAt_out b at_ h⟩
    unfold gAt; rw [if_pos h]
  · obtain ⟨i, rfl⟩ := Int.eq_ofNat_of_zero_le (show 0 ≤ at_ by omega)
    have hi : i ≤ b.size := by omega
    have hle := idGet_le ((bl b).drop i)
    rw [List.length_drop, bl_length] at hle
    rcases hdGet_cases ((bl b).drop i) with ⟨c, t, k, n, e, h1, he⟩ | ⟨c, t, k, n, v, m, e, h1, h2, he⟩ | ⟨c, t, k, n, v, m, h1, h2⟩
    · left
      obtain ⟨z1, z2, z3⟩ := idGet_bad ((bl b).drop i) (by rw [h1]; exact he)
      rw [h1] at z1 z2 z3
      simp only at z1 z2 z3
      subst z1 z2 z3
      exact ⟨(i : Int) + n, e, gAt_in b i hi h1, he, hgAt_in b i hi (hdGet_id h1 he)⟩
    · right; left
      rw [h1] at hle
      simp only at hle
      have z := lenGet_bad (((bl b).drop i).drop n) (by rw [h2]; exact he)
      rw [h2] at z
      simp only at z
      subst z
      rw [List.drop_drop] at h2
      have e2 := lgAt_in b (i + n) (by omega) h2
      rw [show ((i + n : Nat) : Int) = (i : Int) + n by omega, show (i : Int) + (n : Int) + (m : Int) = (i : Int) + ((n + m : Nat) : Int) by omega] at e2
      exact ⟨c, t, k, (i : Int) + n, _, e, gAt_in b i hi h1, by omega, by omega, e2, he, hgAt_in b i hi (hdGet_len h1 (by rw [List.drop_drop]; exact h2) he)⟩
    · right; right
      rw [h1] at hle
      simp only at hle
      rw [List.drop_drop] at h2
      have e2 := lgAt_in b (i + n) (by omega) h2
      rw [show ((i + n : Nat) : Int) = (i : Int) + n by omega, show (i : Int) + (n : Int) + (m : Int) = (i : Int) + ((n + m : Nat) : Int) by omega] at e2
      exact ⟨c, t, k, (i : Int) + n, v, _, gAt_in b i hi h1, by omega, by omega, e2, hgAt_in b i hi (hdGet_ok h1 (by rw [List.drop_drop]; exact h2))⟩
theorem hb9_of {b : ByteArray} (h : b.size ≤ maxLen) : (b.size : Int) ≤ 9223372036854775807 := by unfold maxLen at h; omega
set_option maxHeartbeats 1600000 in
theorem refHeadGet_any (b : ByteArray) (at_ : Int) (hb : b.size ≤ maxLen) (ha : -9223372036854775808 ≤ at_ ∧ at_ ≤ 9223372036854775807) (w : World) :
    Calls Try.prog 37 #[.string b, .int .i64 at_] w fun e w' => e = .returned (hgV (hgAt b at_)) ∧ Below w.heap.size w w' := by
  have h9 := hb9_of hb
  have HZ := Lib.hid (Row.new w 40 (hdC 0 0 false 0))
  have hB0 : Below w.heap.size w (w.alloc (.cells (hdC 0 0 false 0).toArray 40)) := (Below.refl _ _).alloc (Nat.le_refl _) _
  rcases hgAt_cases b at_ ha hb with ⟨n, e, hg, he, hr⟩ | ⟨c, t, k, n, m, e, hg, n0, n1, hl, he, hr⟩ | ⟨c, t, k, n, v, m, hg, n0, n1, hl, hr⟩
  · have H0 := Lib.hid (refIdGet_is b at_ hb hg)
    have HA := Lib.hid (show hgV (hgAt b at_) = .tuple #[hdV 0 0 false 0, .int .i64 n, .int .i64 e] by rw [hr]; rfl)
    have heq : (e != 0) = true := by simpa using he
    clear hg he hr
    go_enter Try.func37, Try.ntmps37
    go_wp2_with fail
    refine (H0.out _).mono ?_
    rintro e w1 ⟨rfl, hb⟩
    have hB1 := hB0.trans (hb.mono (by simp))
    have HZ1 := Lib.hid (HZ.out.below hb HZ.out.lt)
    obtain ⟨k0, k1, k2, k3, f0, f1, f2, f3⟩ := head_facts HZ1.out
    have hlt := HZ1.out.lt
    clear hb hB0 HZ
    go_wp2
    exact bodyPost_ret (results_cell_two Try.results37 _ (ad := ⟨w.heap.size, 0, none⟩) rfl rfl rfl (head_load ((head_set HZ1.out 0 0 false 0).alloc _))) rfl ⟨by rw [HA.out]; rfl, (head_below hB1 (Nat.le_refl _) 0 0 false 0).alloc (by rw [size_set4]; exact hB1.size) _⟩
  · have H0 := Lib.hid (refIdGet_is b at_ hb hg)
    have H1 := Lib.hid (fun w => refLenGet_any b n hb ⟨by omega, by omega⟩ w)
    rw [hl] at H1
    have HA := Lib.hid (show hgV (hgAt b at_) = .tuple #[hdV 0 0 false 0, .int .i64 m, .int .i64 e] by rw [hr]; rfl)
    have heq : (e != 0) = true := by simpa using he
    clear hg he hr hl
    go_enter Try.func37, Try.ntmps37
    go_wp2_with fail
    refine (H0.out _).mono ?_
    rintro e w1 ⟨rfl, hb⟩
    have hB1 := hB0.trans (hb.mono (by simp))
    have HZ1 := Lib.hid ((HZ.out.below hb HZ.out.lt).alloc (.cells (hdC c t k 0).toArray 40))
    have hB1 := hB1.alloc hB1.size (.cells (hdC c t k 0).toArray 40)
    clear hb hB0 HZ
    go_wp2_with fail
    refine (H1.out _).mono ?_
    rintro e w2 ⟨rfl, hb⟩
    have hB2 := hB1.trans (hb.mono hB1.size)
    have HZ2 := Lib.hid (HZ1.out.below hb HZ1.out.lt)
    obtain ⟨k0, k1, k2, k3, f0, f1, f2, f3⟩ := head_facts HZ2.out
    have hlt := HZ2.out.lt
    clear hb hB1 HZ1
    go_wp2
    exact bodyPost_ret (results_cell_two Try.results37 _ (ad := ⟨w.heap.size, 0, none⟩) rfl rfl rfl (head_load (head_set HZ2.out 0 0 false 0))) rfl ⟨by rw [HA.out]; rfl, head_below hB2 (Nat.le_refl _) 0 0 false 0⟩
  · have H0 := Lib.hid (refIdGet_is b at_ hb hg)
    have H1 := Lib.hid (fun w => refLenGet_any b n hb ⟨by omega, by omega⟩ w)
    rw [hl] at H1
    have HA := Lib.hid (show hgV (hgAt b at_) = .tuple #[hdV c t k v, .int .i64 m, .int .i64 0] by rw [hr]; rfl)
    clear hg hr hl
    go_enter Try.func37, Try.ntmps37
    go_wp2_with fail
    refine (H0.out _).mono ?_
    rintro e w1 ⟨rfl, hb⟩
    have hB1 := hB0.trans (hb.mono (by simp))
    have hs1 : w.heap.size + 1 ≤ w1.heap.size := by have := hb.size; simpa using this
    have HZ1 := Lib.hid ((HZ.out.below hb HZ.out.lt).alloc (.cells (hdC c t k 0).toArray 40))
    have HY1 := Lib.hid (Row.new w1 40 (hdC c t k 0))
    have hB1 := hB1.alloc hB1.size (.cells (hdC c t k 0).toArray 40)
    clear hb hB0 HZ
    go_wp2_with fail
    refine (H1.out _).mono ?_
    rintro e w2 ⟨rfl, hb⟩
    have hB2 := hB1.trans (hb.mono hB1.size)
    have HZ2 := Lib.hid (HZ1.out.below hb HZ1.out.lt)
    have HY2 := Lib.hid (HY1.out.below hb HY1.out.lt)
    obtain ⟨k0, k1, k2, k3, f0, f1, f2, f3⟩ := head_facts HZ2.out
    obtain ⟨j0, j1, j2, j3, q0, q1, q2, q3⟩ := head_facts HY2.out
    have hB1s : w.heap.size ≤ w1.heap.size := by omega
    have hne : ¬ w.heap.size = w1.heap.size := by omega
    have hne2 : ¬ w1.heap.size = w.heap.size := by omega
    clear hb hB1 HZ1 HY1
    go_wp2
    exact bodyPost_ret (results_cell_two Try.results37 _ (ad := ⟨w.heap.size, 0, none⟩) rfl rfl rfl (head_load (head_set (HZ2.out.far (p := ⟨w1.heap.size, 3, none⟩) hne (.int .i64 v)) c t k v))) rfl ⟨by rw [HA.out]; rfl, head_below (hB2.setCell (p := ⟨w1.heap.size, 3, none⟩) hB1s (.int .i64 v)) (Nat.le_refl _) c t k v⟩
end Go.Proofs.Ytagigdefghnnhaa
