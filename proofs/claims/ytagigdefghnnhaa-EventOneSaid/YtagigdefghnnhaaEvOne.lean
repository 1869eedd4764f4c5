/- Layer 9: the events of one primitive element, and of one around it. In plain words. -/
import Derived.Test.YtagigdefghnnhaaEvOn
import Derived.Deep.CutRange
namespace Go.Proofs.Ytagigdefghnnhaa
open Go.RowKit Go.PlainAid
set_option linter.unusedVariables false
/-- A head at a place, all of which fits. -/
theorem start_head {c t : Int} {f : Bool} {n : Int} (h : hdOk c t n = true) (r : List Int) (i : Nat) (e : Int) (he : e = -1 ∨ ((i + (hdPut c t f n).length : Nat) : Int) ≤ e) :
    startL [] (hdPut c t f n ++ r) i e = ((c, t, f, n), i + (hdPut c t f n).length - 1, 0) := by
  obtain ⟨P, hP⟩ : ∃ P, hdPut c t f n = P := ⟨_, rfl⟩
  have hput : hdGet P = (c, t, f, n, P.length, 0) := by have := hdGet_put (k := f) h []; rw [List.append_nil, hP] at this; exact this
  have hcut : ∀ j, j < P.length → (hdGet (P.take j)).2.2.2.2.2 = 2 := by intro j hj; have := hdGet_cut (k := f) h j (by rw [hP]; exact hj); rw [hP] at this; rw [this]
  have h2 : 2 ≤ P.length := by have := (hdPut_length (k := f) h).1; rw [hP] at this; exact this
  rw [hP] at he ⊢
  have hall : ∀ k j, P.length - j = k → j < P.length → startL (P.take j) (P.drop j ++ r) (i + j) e = ((c, t, f, n), i + P.length - 1, 0) := by
    intro k
    induction k with
    | zero => intro j h1 h3; omega
    | succ k ih =>
      intro j h1 h3
      have hd : P.drop j = P[j] :: P.drop (j + 1) := List.drop_eq_getElem_cons h3
      have ht : P.take j ++ [P[j]] = P.take (j + 1) := (List.take_succ_eq_append_getElem h3).symm
      rw [hd, List.cons_append, startL, if_neg (by omega), ht]
      by_cases hl : j + 1 = P.length
      · rw [hl, List.take_length, hput]
        simp only [if_true]
        congr 2
        omega
      · rw [if_neg (by rw [hcut (j + 1) (by omega)]; decide), if_neg (by rw [hcut (j + 1) (by omega)]; decide)]
        exact ih (j + 1) (by omega) (by omega)
  have := hall P.length 0 (by omega) (by omega)
  simpa using this
/-- The events of a primitive element whose head's last byte stands at a place. -/
def primL (p : Nat) (t : Int) (C : List Int) : List Ev := evLeaf p 0 t false (C.length : Int) :: (bytesE C (p + 1) ++ [evEnd (p + C.length)])
theorem prim_elem {t : Int} {C : List Int} (h : hdOk 0 t (C.length : Int) = true) (A r : List Int) (d : Nat) (e : Int) (he : e = -1 ∨ ((A.length + (hdPut 0 t false (C.length : Int)).length + C.length : Nat) : Int) ≤ e) :
    elemP (A ++ (hdPut 0 t false (C.length : Int) ++ C ++ r)) d A.length e = ⟨primL (A.length + (hdPut 0 t false (C.length : Int)).length - 1) t C, 0, A.length + (hdPut 0 t false (C.length : Int)).length + C.length⟩ := by
  have h2 := (hdPut_length (k := false) h).1
  have hs : startL [] ((A ++ (hdPut 0 t false (C.length : Int) ++ C ++ r)).drop A.length) A.length e = ((0, t, false, (C.length : Int)), A.length + (hdPut 0 t false (C.length : Int)).length - 1, 0) := by
    rw [List.drop_left, List.append_assoc]
    exact start_head h (C ++ r) A.length e (by rcases he with h | h; exact .inl h; right; omega)
  generalize hH : hdPut 0 t false (C.length : Int) = H at *
  have hp1 : A.length + H.length - 1 + 1 = A.length + H.length := by omega
  rw [elemP_leaf d hs (by rw [hp1]; omega), hp1]
  have hdr : (A ++ (H ++ C ++ r)).drop (A.length + H.length) = C ++ r := by
    rw [List.append_assoc H C r, ← List.append_assoc A H, ← List.length_append, List.drop_left]
  have hlp : leafP (A ++ (H ++ C ++ r)) (A.length + H.length) (C.length : Int) = ⟨bytesE C (A.length + H.length) ++ [evEnd (A.length + H.length + C.length - 1)], 0, A.length + H.length + C.length⟩ := by
    unfold leafP
    by_cases h0 : (C.length : Int) = 0
    · have hC : C = [] := List.eq_nil_of_length_eq_zero (by omega)
      subst hC
      rw [if_pos h0]; rfl
    · rw [if_neg h0, hdr, if_neg (by rw [List.length_append]; omega), Int.toNat_natCast, List.take_left]
  rw [hlp]
  unfold primL
  rw [hp1, show A.length + H.length + C.length - 1 = A.length + H.length - 1 + C.length by omega]
def shiftE (k : Nat) (e : Ev) : Ev := { e with at_ := e.at_ + k }
theorem bytesE_shift (k : Nat) (C : List Int) : ∀ i, bytesE C (i + k) = (bytesE C i).map (shiftE k) := by
  induction C with
  | nil => intro i; rfl
  | cons x r ih =>
    intro i
    rw [bytesE, bytesE, List.map_cons, show i + k + 1 = i + 1 + k by omega, ih]
    congr 1
theorem primL_shift (p k : Nat) (t : Int) (C : List Int) : primL (p + k) t C = (primL p t C).map (shiftE k) := by
  unfold primL
  rw [List.map_cons, List.map_append, show p + k + 1 = p + 1 + k by omega, bytesE_shift, show p + k + C.length = p + C.length + k by omega]
  congr 1
theorem bytesE_length (C : List Int) : ∀ i, (bytesE C i).length = C.length := by
  induction C with
  | nil => intro i; rfl
  | cons x r ih => intro i; rw [bytesE, List.length_cons, ih]; rfl
theorem primL_length (p : Nat) (t : Int) (C : List Int) : (primL p t C).length = C.length + 2 := by
  unfold primL
  rw [List.length_cons, List.length_append, bytesE_length]
  rfl
/-- One primitive element. -/
theorem one_prim {t : Int} {C : List Int} (hC : IsB C) (h : hdOk 0 t (C.length : Int) = true) (d : Nat) :
    evWhole d (hdPut 0 t false (C.length : Int) ++ C) = (primL ((hdPut 0 t false (C.length : Int)).length - 1) t C, 0, ((hdPut 0 t false (C.length : Int)) ++ C).length) := by
  have hb : IsB (hdPut 0 t false (C.length : Int) ++ C) := (hdPut_isB h).append hC
  have he := prim_elem h [] [] d (-1) (.inl rfl)
  rw [List.nil_append, List.append_nil, List.length_nil, Nat.zero_add] at he
  rw [whole_is _ hb d, he]
  simp only
  rw [if_neg (by rw [List.length_append]; omega), List.length_append]
/-- One around it. -/
theorem one_around {t : Int} {C : List Int} (hC : IsB C) (h : hdOk 0 t (C.length : Int) = true) {m : Nat} (hm : (hdPut 0 t false (C.length : Int) ++ C).length = m) (h2 : hdOk 0 16 (m : Int) = true) (d : Nat) :
    (evWhole (d + 1) (hdPut 0 16 true (m : Int) ++ (hdPut 0 t false (C.length : Int) ++ C))).2.1 = 0 ∧
    (evWhole (d + 1) (hdPut 0 16 true (m : Int) ++ (hdPut 0 t false (C.length : Int) ++ C))).1 =
      evEnter ((hdPut 0 16 true (m : Int)).length - 1) 0 16 true m :: (primL ((hdPut 0 t false (C.length : Int)).length - 1) t C).map (shiftE (hdPut 0 16 true (m : Int)).length) ++ [evExit ((hdPut 0 16 true (m : Int)).length + m - 1)] := by
  have hb : IsB (hdPut 0 16 true (m : Int) ++ (hdPut 0 t false (C.length : Int) ++ C)) := (hdPut_isB h2).append ((hdPut_isB h).append hC)
  have hs := start_head (f := true) h2 (hdPut 0 t false (C.length : Int) ++ C) 0 (-1) (.inl rfl)
  have hl2 := (hdPut_length (k := true) h2).1
  have hl1 := (hdPut_length (k := false) h).1
  have hel := prim_elem h (hdPut 0 16 true (m : Int)) [] d (((hdPut 0 16 true (m : Int)).length : Int) + m) (.inr (by rw [← hm, List.length_append]; omega))
  rw [List.append_nil] at hel
  generalize hQ : hdPut 0 16 true (m : Int) = Q at *
  generalize hH : hdPut 0 t false (C.length : Int) = H at *
  rw [Nat.zero_add] at hs
  have hq1 : Q.length - 1 + 1 = Q.length := by omega
  have hmm : H.length + C.length = m := by rw [← hm, List.length_append]
  have hop := elemP_open (b := Q ++ (H ++ C)) (i := 0) (e := -1) d (by rw [List.drop_zero]; exact hs) (by rw [hq1]; omega)
  rw [hq1] at hop
  have hloop : loopP (fun i => elemP (Q ++ (H ++ C)) d i ((Q.length : Int) + m)) ((Q ++ (H ++ C)).length + 1) ⟨[evEnter (Q.length - 1) 0 16 true m], 0, Q.length⟩ ((Q.length : Int) + m) = ⟨[evEnter (Q.length - 1) 0 16 true m] ++ primL (Q.length + H.length - 1) t C, 0, Q.length + H.length + C.length⟩ := by
    rw [loopP, if_pos (by show (Q.length : Int) < _; omega)]
    simp only [hel]
    rw [if_neg (by simp)]
    obtain ⟨z, hz⟩ : ∃ z, (Q ++ (H ++ C)).length = z + 1 := ⟨Q.length - 1 + (H ++ C).length, by rw [List.length_append]; omega⟩
    rw [hz, loopP, if_neg (by show ¬ ((Q.length + H.length + C.length : Nat) : Int) < _; omega)]
  rw [hloop] at hop
  simp only at hop
  rw [if_neg (by simp)] at hop
  rw [whole_is _ hb (d + 1), hop]
  simp only
  have hpr : primL (Q.length + H.length - 1) t C = (primL (H.length - 1) t C).map (shiftE Q.length) := by
    rw [← primL_shift]; congr 1; omega
  rw [if_neg (by rw [List.length_append, List.length_append]; omega)]
  refine ⟨rfl, ?_⟩
  rw [hpr, show Q.length + H.length + C.length - 1 = Q.length + m - 1 by omega]
  simp
theorem bytesE_at (C : List Int) : ∀ (i : Nat) (e : Ev), e ∈ bytesE C i → (i : Int) ≤ e.at_ ∧ e.at_ < ((i + C.length : Nat) : Int) := by
  induction C with
  | nil => intro i e he; cases he
  | cons x r ih =>
    intro i e he
    rw [bytesE] at he
    rcases List.mem_cons.1 he with rfl | he
    · exact ⟨Int.le_refl _, by show (i : Int) < _; rw [List.length_cons]; omega⟩
    · have := ih (i + 1) e he
      rw [List.length_cons]
      omega
theorem primL_at (p : Nat) (t : Int) (C : List Int) (e : Ev) (he : e ∈ primL p t C) : 0 ≤ e.at_ ∧ e.at_ ≤ ((p + C.length : Nat) : Int) := by
  unfold primL at he
  rcases List.mem_cons.1 he with rfl | he
  · exact ⟨by show 0 ≤ (p : Int); omega, by show (p : Int) ≤ _; omega⟩
  · rcases List.mem_append.1 he with he | he
    · have := bytesE_at C _ e he
      omega
    · obtain rfl := List.mem_singleton.1 he
      exact ⟨by show 0 ≤ ((p + C.length : Nat) : Int); omega, Int.le_refl _⟩
theorem hpS_small (c t : Int) (k : Bool) (n : Int) : (hpS c t k n).size ≤ 14 := by
  unfold hpS
  split
  · rename_i h; rw [strOfNums_size]; exact (hdPut_length h).2
  · exact Nat.zero_le _
set_option maxHeartbeats 1600000 in
/-- The reference's bytes of an element. -/
theorem refElement_any (c t : Int) (k : Bool) (n0 : Int) (b : ByteArray) (hb : b.size ≤ 100000) (w : World) :
    Calls Try.prog 22 #[.agg #[.int .i64 c, .int .i64 t, .bool k, .int .i64 n0], .string b] w fun e w' => e = .returned (.string (hpS c t k (b.size : Int) ++ b)) ∧ Below w.heap.size w w' := by
  have HP := Lib.hid (fun w => refHeadPut_all c t k (b.size : Int) ⟨by omega, by omega⟩ w)
  have hsz := hpS_small c t k (b.size : Int)
  have HX0 := Lib.hid (Row.new w 40 (hdC c t k n0))
  have hB0 : Below w.heap.size w (w.alloc (.cells (hdC c t k n0).toArray 40)) := (Below.refl _ _).alloc (Nat.le_refl _) _
  have HX1 : Hid (Row ((w.alloc (.cells (hdC c t k n0).toArray 40)).setCell ⟨w.heap.size, 3, none⟩ (.int .i64 (b.size : Int))) w.heap.size 40 (hdC c t k (b.size : Int))) := Lib.hid (HX0.out.set 3 (.int .i64 (b.size : Int)))
  have HB1 : Hid (Below w.heap.size w ((w.alloc (.cells (hdC c t k n0).toArray 40)).setCell ⟨w.heap.size, 3, none⟩ (.int .i64 (b.size : Int)))) := Lib.hid (hB0.setCell (p := ⟨w.heap.size, 3, none⟩) (Nat.le_refl _) _)
  clear hB0
  go_enter Try.func22, Try.ntmps22
  go_upto_region 1 with fail
  have hX : w.alloc (.cells #[.int .i64 c, .int .i64 t, .bool k, .int .i64 n0] 40) = w.alloc (.cells (hdC c t k n0).toArray 40) := rfl
  rw [hX]
  clear hX
  generalize w.alloc (.cells (hdC c t k n0).toArray 40) = X at *
  obtain ⟨k0, k1, k2, k3, f0, f1, f2, f3⟩ := head_facts HX0.out
  have hlt := HX0.out.lt
  clear HX0
  go_upto_region 2 with fail
  clear k0 k1 k2 k3 f0 f1 f2 f3 hlt
  generalize X.setCell ⟨w.heap.size, 3, none⟩ (.int .i64 (b.size : Int)) = Y at *
  obtain ⟨k0, k1, k2, k3, f0, f1, f2, f3⟩ := head_facts HX1.out
  go_wp2_with fail
  refine (HP.out _).mono ?_
  rintro r w2 ⟨rfl, hb2⟩
  have HB2 := Lib.hid (HB1.out.trans (hb2.mono HB1.out.size))
  clear hb2 HB1 HX1 k0 k1 k2 k3 f0 f1 f2 f3 HP
  go_wp2
  go_returns
  exact ⟨rfl, HB2.out⟩
end Go.Proofs.Ytagigdefghnnhaa
