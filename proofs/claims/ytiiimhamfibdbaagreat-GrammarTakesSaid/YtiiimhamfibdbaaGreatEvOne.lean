/- Layer 9: the events of one primitive element, and of one around it. In plain words. -/
import Derived.Test.YtiiimhamfibdbaaGreatE4
import Derived.Deep.CutRange
namespace Go.Proofs.YtiiimhamfibdbaaGreat
open Go.RowKit Go.PlainAid
set_option linter.unusedVariables false
theorem start_head {c t : Int} {f : Bool} {n : Int} (h : hdOk c t n = true) (r : List Int) (i : Nat) (e : Int) (he : e = -1 ∨ ((i + (hdPut c t f n).length : Nat) : Int) ≤ e) :
  startL [] (hdPut c t f n ++ r) i e = ((c, t, f, n), i + (hdPut c t f n).length - 1, 0) := by
 obtain ⟨P, hP⟩ : ∃ P, hdPut c t f n = P := ⟨_, rfl⟩
 have hput : hdGet P = (c, t, f, n, P.length, 0) := by have := hdGet_put (k := f) h []; rw [List.append_nil, hP] at this; exact this
 have hcut : ∀ j, j < P.length → (hdGet (P.take j)).2.2.2.2.2 = 2 := by intro j hj; have := hdGet_cut (k := f) h j (by rw [hP]; exact hj); rw [hP] at this; rw [this]
 have h2 : 2 ≤ P.length := by have := (hdPut_length (k := f) h).1; rw [hP] at this; exact this
 rw [hP] at he ⊢
 have hall : ∀ k j, P.length - j = k → j < P.length → startL (P.take j) (P.drop j ++ r) (i + j) e = ((c, t, f, n), i + P.length - 1, 0) := by
  intro k
  induction k with
  |zero => intro j h1 h3; omega
  |succ k ih =>
   intro j h1 h3
   have hd : P.drop j = P[j] :: P.drop (j + 1) := List.drop_eq_getElem_cons h3
   have ht : P.take j ++ [P[j]] = P.take (j + 1) := (List.take_succ_eq_append_getElem h3).symm
   rw [hd, List.cons_append, startL, if_neg (by omega), ht]
   by_cases hl : j + 1 = P.length
   ·rw [hl, List.take_length, hput]
    simp only [if_true]
    congr 2
    omega
   ·rw [if_neg (by rw [hcut (j + 1) (by omega)]; decide), if_neg (by rw [hcut (j + 1) (by omega)]; decide)]
    exact ih (j + 1) (by omega) (by omega)
 have := hall P.length 0 (by omega) (by omega)
 simpa using this
theorem hpS_small (c t : Int) (k : Bool) (n : Int) : (hpS c t k n).size ≤ 14 := by
 unfold hpS
 split
 ·rename_i h; rw [strOfNums_size]; exact (hdPut_length h).2
 ·exact Nat.zero_le _
set_option maxHeartbeats 1600000 in
theorem refElement_any (c t : Int) (k : Bool) (n0 : Int) (b : ByteArray) (hb : b.size ≤ 100000) (w : World) :
  Calls Tryz.prog 47 #[.agg #[.int .i64 c, .int .i64 t, .bool k, .int .i64 n0], .string b] w fun e w' => e = .returned (.string (hpS c t k (b.size : Int) ++ b)) ∧ Below w.heap.size w w' := by
 have HP := Lib.hid (fun w => refHeadPut_all c t k (b.size : Int) ⟨by omega, by omega⟩ w)
 have hsz := hpS_small c t k (b.size : Int)
 have HX0 := Lib.hid (Row.new w 32 (hdC c t k n0))
 have hB0 : Below w.heap.size w (w.alloc (.cells (hdC c t k n0).toArray 32)) := (Below.refl _ _).alloc (Nat.le_refl _) _
 have HX1 : Hid (Row ((w.alloc (.cells (hdC c t k n0).toArray 32)).setCell ⟨w.heap.size, 3, none⟩ (.int .i64 (b.size : Int))) w.heap.size 32 (hdC c t k (b.size : Int))) := Lib.hid (HX0.out.set 3 (.int .i64 (b.size : Int)))
 have HB1 : Hid (Below w.heap.size w ((w.alloc (.cells (hdC c t k n0).toArray 32)).setCell ⟨w.heap.size, 3, none⟩ (.int .i64 (b.size : Int)))) := Lib.hid (hB0.setCell (p := ⟨w.heap.size, 3, none⟩) (Nat.le_refl _) _)
 clear hB0
 go_enter Tryz.func47, Tryz.ntmps47
 go_upto_region 1 with fail
 have hX : w.alloc (.cells #[.int .i64 c, .int .i64 t, .bool k, .int .i64 n0] 32) = w.alloc (.cells (hdC c t k n0).toArray 32) := rfl
 rw [hX]
 clear hX
 generalize w.alloc (.cells (hdC c t k n0).toArray 32) = X at *
 obtain ⟨k0, k1, k2, k3, f0, f1, f2, f3⟩ := head_facts HX0.out
 have hlt := HX0.out.lt
 clear HX0
 go_upto_region 2 with fail
 clear k0 k1 k2 k3 f0 f1 f2 f3 hlt
 generalize X.setCell ⟨w.heap.size, 3, none⟩ (.int .i64 (b.size : Int)) = Y at *
 obtain ⟨k0, k1, k2, k3, f0, f1, f2, f3⟩ := head_facts HX1.out
 go_wp2_with fail
 refine (HP.out _).mono ?_
 rintro r w2 ⟨rfl, hb2⟩
 have HB2 := Lib.hid (HB1.out.trans (hb2.mono HB1.out.size))
 clear hb2 HB1 HX1 k0 k1 k2 k3 f0 f1 f2 f3 HP
 go_wp2
 go_returns
 exact ⟨rfl, HB2.out⟩
end Go.Proofs.YtiiimhamfibdbaaGreat
