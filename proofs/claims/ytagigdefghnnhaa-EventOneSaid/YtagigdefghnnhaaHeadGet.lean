/- What the landed code's Get of heads gives. -/
import Derived.Test.YtagigdefghnnhaaIdentGot
import Derived.Test.YtagigdefghnnhaaLenGot
import Derived.Test.YtagigdefghnnhaaRefHead
namespace Go.Proofs.Ytagigdefghnnhaa
open Go.RowKit Go.PlainAid
set_option linter.unusedVariables false
theorem lenGet_at (b : ByteArray) (at_ : Int) (hb : b.size ≤ maxLen) (ha : -9223372036854775808 ≤ at_ ∧ at_ ≤ 9223372036854775807) {v n e : Int} (h : lgAt b at_ = (v, n, e)) (w : World) :
    Calls Try.prog 50 #[.string b, .int .i64 at_] w fun r w' => r = .returned (.tuple #[.int .i64 v, .int .i64 n, .int .i64 e]) ∧ Below w.heap.size w w' := by
  have := lenGet_any b at_ hb ha w
  rw [h] at this
  exact this
set_option maxHeartbeats 1600000 in
theorem headGet_any (b : ByteArray) (at_ : Int) (hb : b.size ≤ maxLen) (ha : -9223372036854775808 ≤ at_ ∧ at_ ≤ 9223372036854775807) (w : World) :
    Calls Try.prog 44 #[.string b, .int .i64 at_] w fun e w' => e = .returned (hgV (hgAt b at_)) ∧ Below w.heap.size w w' := by
  have h9 := hb9_of hb
  have HZ := Lib.hid (Row.new w 40 (hdC 0 0 false 0))
  have hB0 : Below w.heap.size w (w.alloc (.cells (hdC 0 0 false 0).toArray 40)) := (Below.refl _ _).alloc (Nat.le_refl _) _
  rcases hgAt_cases b at_ ha hb with ⟨n, e, hg, he, hr⟩ | ⟨c, t, k, n, m, e, hg, n0, n1, hl, he, hr⟩ | ⟨c, t, k, n, v, m, hg, n0, n1, hl, hr⟩
  · have H0 := Lib.hid (identGet_is b at_ hb hg)
    have HA := Lib.hid (show hgV (hgAt b at_) = .tuple #[hdV 0 0 false 0, .int .i64 n, .int .i64 e] by rw [hr]; rfl)
    have heq : (e != 0) = true := by simpa using he
    clear hg he hr
    go_enter Try.func44, Try.ntmps44
    go_wp2_with fail
    refine (H0.out _).mono ?_
    rintro e w1 ⟨rfl, hb⟩
    have hB1 := hB0.trans (hb.mono (by simp))
    have HZ1 := Lib.hid (HZ.out.below hb HZ.out.lt)
    obtain ⟨k0, k1, k2, k3, f0, f1, f2, f3⟩ := head_facts HZ1.out
    have hlt := HZ1.out.lt
    clear hb hB0 HZ
    go_wp2
    exact bodyPost_ret (results_cell_two Try.results44 _ (ad := ⟨w.heap.size, 0, none⟩) rfl rfl rfl (head_load ((head_set HZ1.out 0 0 false 0).alloc _))) rfl ⟨by rw [HA.out]; rfl, (head_below hB1 (Nat.le_refl _) 0 0 false 0).alloc (by rw [size_set4]; exact hB1.size) _⟩
  · have H0 := Lib.hid (identGet_is b at_ hb hg)
    have H1 := Lib.hid (fun w => lenGet_at b n hb ⟨by omega, by omega⟩ hl w)
    have HA := Lib.hid (show hgV (hgAt b at_) = .tuple #[hdV 0 0 false 0, .int .i64 m, .int .i64 e] by rw [hr]; rfl)
    have heq : (e != 0) = true := by simpa using he
    clear hg he hr hl
    go_enter Try.func44, Try.ntmps44
    go_wp2_with fail
    refine (H0.out _).mono ?_
    rintro e w1 ⟨rfl, hb⟩
    have hB1 := hB0.trans (hb.mono (by simp))
    have hs1 : w.heap.size + 1 ≤ w1.heap.size := by have := hb.size; simpa using this
    have HZ1 := Lib.hid ((HZ.out.below hb HZ.out.lt).alloc (.cells (hdC c t k 0).toArray 40))
    have HY1 := Lib.hid (Row.new w1 40 (hdC c t k 0))
    have hB1 := hB1.alloc hB1.size (.cells (hdC c t k 0).toArray 40)
    clear hb hB0 HZ
    go_wp2_with fail
    refine (H1.out _).mono ?_
    rintro e w2 ⟨rfl, hb⟩
    have hB2 := hB1.trans (hb.mono hB1.size)
    have HZ2 := Lib.hid (HZ1.out.below hb HZ1.out.lt)
    have HY2 := Lib.hid (HY1.out.below hb HY1.out.lt)
    obtain ⟨k0, k1, k2, k3, f0, f1, f2, f3⟩ := head_facts HZ2.out
    obtain ⟨j0, j1, j2, j3, q0, q1, q2, q3⟩ := head_facts HY2.out
    have hB1s : w.heap.size ≤ w1.heap.size := by omega
    have hne : ¬ w.heap.size = w1.heap.size := by omega
    have hne2 : ¬ w1.heap.size = w.heap.size := by omega
    clear hb hB1 HZ1 HY1
    go_wp2
    exact bodyPost_ret (results_cell_two Try.results44 _ (ad := ⟨w.heap.size, 0, none⟩) rfl rfl rfl (head_load (head_set (HZ2.out.far (p := ⟨w1.heap.size, 3, none⟩) hne (.int .i64 0)) 0 0 false 0))) rfl ⟨by rw [HA.out]; rfl, head_below (hB2.setCell (p := ⟨w1.heap.size, 3, none⟩) hB1s (.int .i64 0)) (Nat.le_refl _) 0 0 false 0⟩
  · have H0 := Lib.hid (identGet_is b at_ hb hg)
    have H1 := Lib.hid (fun w => lenGet_at b n hb ⟨by omega, by omega⟩ hl w)
    have HA := Lib.hid (show hgV (hgAt b at_) = .tuple #[hdV c t k v, .int .i64 m, .int .i64 0] by rw [hr]; rfl)
    clear hg hr hl
    go_enter Try.func44, Try.ntmps44
    go_wp2_with fail
    refine (H0.out _).mono ?_
    rintro e w1 ⟨rfl, hb⟩
    have hB1 := hB0.trans (hb.mono (by simp))
    have hs1 : w.heap.size + 1 ≤ w1.heap.size := by have := hb.size; simpa using this
    have HZ1 := Lib.hid ((HZ.out.below hb HZ.out.lt).alloc (.cells (hdC c t k 0).toArray 40))
    have HY1 := Lib.hid (Row.new w1 40 (hdC c t k 0))
    have hB1 := hB1.alloc hB1.size (.cells (hdC c t k 0).toArray 40)
    clear hb hB0 HZ
    go_wp2_with fail
    refine (H1.out _).mono ?_
    rintro e w2 ⟨rfl, hb⟩
    have hB2 := hB1.trans (hb.mono hB1.size)
    have HZ2 := Lib.hid (HZ1.out.below hb HZ1.out.lt)
    have HY2 := Lib.hid (HY1.out.below hb HY1.out.lt)
    obtain ⟨k0, k1, k2, k3, f0, f1, f2, f3⟩ := head_facts HZ2.out
    obtain ⟨j0, j1, j2, j3, q0, q1, q2, q3⟩ := head_facts HY2.out
    have hB1s : w.heap.size ≤ w1.heap.size := by omega
    have hne : ¬ w.heap.size = w1.heap.size := by omega
    have hne2 : ¬ w1.heap.size = w.heap.size := by omega
    clear hb hB1 HZ1 HY1
    go_wp2
    exact bodyPost_ret (results_cell_two Try.results44 _ (ad := ⟨w.heap.size, 0, none⟩) rfl rfl rfl (head_load (head_set (HZ2.out.far (p := ⟨w1.heap.size, 3, none⟩) hne (.int .i64 v)) c t k v))) rfl ⟨by rw [HA.out]; rfl, head_below (hB2.setCell (p := ⟨w1.heap.size, 3, none⟩) hB1s (.int .i64 v)) (Nat.le_refl _) c t k v⟩
theorem str_join (l : List Int) (b : Int) : strOfNums l ++ strOfNums [b] = strOfNums (l ++ [b]) := (strOfNums_append l [b]).symm
/-- What Get tells of the bytes that came, with one more. -/
theorem came_get {l : List Int} {b : Int} (hl : IsB l) (h0 : 0 ≤ b) (h1 : b ≤ 255) {c t : Int} {k : Bool} {v : Int} {n : Nat} {e : Int} (h : hdGet (l ++ [b]) = (c, t, k, v, n, e)) : hgAt (strOfNums (l ++ [b])) 0 = (c, t, k, v, (n : Int), e) := by
  have := hgAt_in (strOfNums (l ++ [b])) 0 (Nat.zero_le _) (c := c) (t := t) (k := k) (v := v) (n := n) (e := e) (by rw [bl_str (hl.append (IsB.cons h0 h1 IsB.nil)), List.drop_zero]; exact h)
  simpa using this
theorem headGet_at (b : ByteArray) (at_ : Int) (hb : b.size ≤ maxLen) (ha : -9223372036854775808 ≤ at_ ∧ at_ ≤ 9223372036854775807) {c t : Int} {k : Bool} {v n e : Int} (h : hgAt b at_ = (c, t, k, v, n, e)) (w : World) :
    Calls Try.prog 44 #[.string b, .int .i64 at_] w fun r w' => r = .returned (.tuple #[.agg #[.int .i64 c, .int .i64 t, .bool k, .int .i64 v], .int .i64 n, .int .i64 e]) ∧ Below w.heap.size w w' := by
  have := headGet_any b at_ hb ha w
  rw [h] at this
  exact this
end Go.Proofs.Ytagigdefghnnhaa
