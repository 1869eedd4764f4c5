/- What the reference's Whole of layer 9 gives. -/
import Derived.Test.YtagigdefghnnhaaRefOpen
namespace Go.Proofs.Ytagigdefghnnhaa
open Go.RowKit Go.PlainAid
set_option linter.unusedVariables false
/-- How many can be open. -/
def evMost (depth : Int) : Nat := (max 0 (min depth 64)).toNat
theorem evMost_le (d : Int) : evMost d ≤ 64 := by unfold evMost; omega
/-- What a text brings about, of a depth. -/
def evW (b : ByteArray) (depth : Int) : List Ev × Int × Nat := evWhole (evMost depth) (bl b)
set_option maxRecDepth 100000 in
set_option maxHeartbeats 4000000 in
theorem refEvWhole_any (b : ByteArray) (depth : Int) (hs : b.size ≤ 1000000) (hd : -9223372036854775808 ≤ depth ∧ depth ≤ 9223372036854775807) (w : World) :
    Calls Try.prog 14 #[.string b, .int .i64 depth] w fun r w' => ∃ v', r = .returned (tdV v' (evW b depth).2.1 ((evW b depth).2.2 : Int)) ∧ Evs w' w.heap.size v' (evW b depth).1 ∧ Below w.heap.size w w' := by
  have HW := Lib.hid (whole_is (bl b) (bl_isB b) (evMost depth))
  obtain ⟨m, hm⟩ : ∃ m, evMost depth = m := ⟨_, rfl⟩
  have hm64 : m ≤ 64 := hm ▸ evMost_le depth
  have HC := Lib.hid (fun (w' : World) (hw : w.heap.size ≤ w'.heap.size) => refElem_any b hs m 0 (-1) 0 (m : Int) w.heap.size (.slice none 0 0) [] w' (Evs.nil _ _) hw (Nat.zero_le _) (by simp; omega) (.inl rfl) (by decide) (by decide) (by omega) (by omega))
  unfold evW
  rw [hm] at HW ⊢
  rw [bl_length] at HW
  obtain ⟨l, e, a, hel⟩ : ∃ l e a, elemP (bl b) m 0 (-1) = ⟨l, e, a⟩ := ⟨_, _, _, rfl⟩
  rw [hel] at HW HC
  have HZ := Lib.hid (Row.new w 29 (tdC (.slice none 0 0) 0 0))
  have HB0 : Hid (Below w.heap.size w (w.alloc (.cells (tdC (.slice none 0 0) 0 0).toArray 29))) := Lib.hid ((Below.refl _ _).alloc (Nat.le_refl _) _)
  clear hel
  obtain ⟨d0, d1⟩ := hd
  have hdw : (depth < 0 ∧ (0 : Int) = m) ∨ (0 ≤ depth ∧ 64 < depth ∧ (64 : Int) = m) ∨ (0 ≤ depth ∧ depth ≤ 64 ∧ depth = (m : Int)) := by unfold evMost at hm; omega
  rw [HW.out]
  obtain ⟨R, hR⟩ : ∃ R, (if e = 0 ∧ a < b.size then 6 else e : Int) = R := ⟨_, rfl⟩
  have hR2 : (if (⟨l, e, a⟩ : Told).e = 0 ∧ (⟨l, e, a⟩ : Told).at_ < b.size then 6 else (⟨l, e, a⟩ : Told).e : Int) = R := hR
  rw [hR2]
  have HR := Lib.hid hR
  clear HW hm hR hR2
  rcases hdw with ⟨g1, gm⟩ | ⟨g1, g2, gm⟩ | ⟨g1, g2, gm⟩
  all_goals
    rw [← gm] at HC
    clear gm
    go_enter Try.func14, Try.ntmps14
    go_wp2_with fail
    refine (HC.out _ (by simp)).mono ?_
    rintro r w1 ⟨v1, rfl, he1, hb1⟩
    have HZ1 := Lib.hid (HZ.out.below hb1 HZ.out.lt)
    have HB1 := Lib.hid (HB0.out.trans (hb1.mono HB0.out.size))
    have HE1 := Lib.hid (show Evs w1 w.heap.size v1 l from he1)
    obtain ⟨o1, m1, c1, rfl⟩ := he1.shaped
    obtain ⟨k0, k1, k2, f0, f1, f2⟩ := told_facts HZ1.out
    have hlt := HZ1.out.lt
    clear he1 hb1 HZ HB0 HC
    simp only [tdV]
    by_cases h6 : e = 0 ∧ a < b.size
    · have hRe : R = 6 := by rw [← HR.out, if_pos h6]
      subst hRe
      obtain ⟨he, ha⟩ := h6
      subst he
      have ha2 : (a : Int) < (b.size : Int) := by omega
      clear HR ha
      have HRf := Lib.hid ((told_set HZ1.out (.slice o1 m1 c1) 6 (a : Int)).alloc (.cells (tdC (.slice o1 m1 c1) 6 (a : Int)).toArray 29))
      have HBf := Lib.hid ((told_below HB1.out (Nat.le_refl _) (.slice o1 m1 c1) 6 (a : Int)).alloc (by rw [size_set3]; exact HB1.out.size) (.cells (tdC (.slice o1 m1 c1) 6 (a : Int)).toArray 29))
      have HEf := Lib.hid ((HE1.out.told HZ1.out (.slice o1 m1 c1) (.int .i64 6) (.int .i64 (a : Int))).below ((Below.refl _ _).alloc (Nat.le_refl _) (.cells (tdC (.slice o1 m1 c1) 6 (a : Int)).toArray 29)))
      clear HE1 HB1
      go_wp2
      exact bodyPost_ret (results_cell Try.results14 _ (ad := ⟨w.heap.size, 0, none⟩) rfl (told_load HRf.out)) rfl ⟨_, rfl, HEf.out, HBf.out⟩
    · have hRe : R = e := by rw [← HR.out, if_neg h6]
      subst hRe
      have hw6 : ¬ R = 0 ∨ (R = 0 ∧ ¬ (a : Int) < (b.size : Int)) := by omega
      clear HR h6
      rcases hw6 with q | ⟨q, q2⟩
      · have hq : (R == 0) = false := by simpa using q
        clear q
        have HRf := Lib.hid ((told_set HZ1.out (.slice o1 m1 c1) R (a : Int)).alloc (.cells (tdC (.slice o1 m1 c1) R (a : Int)).toArray 29))
        have HBf := Lib.hid ((told_below HB1.out (Nat.le_refl _) (.slice o1 m1 c1) R (a : Int)).alloc (by rw [size_set3]; exact HB1.out.size) (.cells (tdC (.slice o1 m1 c1) R (a : Int)).toArray 29))
        have HEf := Lib.hid ((HE1.out.told HZ1.out (.slice o1 m1 c1) (.int .i64 R) (.int .i64 (a : Int))).below ((Below.refl _ _).alloc (Nat.le_refl _) (.cells (tdC (.slice o1 m1 c1) R (a : Int)).toArray 29)))
        clear HE1 HB1
        go_wp2
        exact bodyPost_ret (results_cell Try.results14 _ (ad := ⟨w.heap.size, 0, none⟩) rfl (told_load HRf.out)) rfl ⟨_, rfl, HEf.out, HBf.out⟩
      · subst q
        have HRf := Lib.hid ((told_set HZ1.out (.slice o1 m1 c1) 0 (a : Int)).alloc (.cells (tdC (.slice o1 m1 c1) 0 (a : Int)).toArray 29))
        have HBf := Lib.hid ((told_below HB1.out (Nat.le_refl _) (.slice o1 m1 c1) 0 (a : Int)).alloc (by rw [size_set3]; exact HB1.out.size) (.cells (tdC (.slice o1 m1 c1) 0 (a : Int)).toArray 29))
        have HEf := Lib.hid ((HE1.out.told HZ1.out (.slice o1 m1 c1) (.int .i64 0) (.int .i64 (a : Int))).below ((Below.refl _ _).alloc (Nat.le_refl _) (.cells (tdC (.slice o1 m1 c1) 0 (a : Int)).toArray 29)))
        clear HE1 HB1
        go_wp2
        exact bodyPost_ret (results_cell Try.results14 _ (ad := ⟨w.heap.size, 0, none⟩) rfl (told_load HRf.out)) rfl ⟨_, rfl, HEf.out, HBf.out⟩
end Go.Proofs.Ytagigdefghnnhaa
