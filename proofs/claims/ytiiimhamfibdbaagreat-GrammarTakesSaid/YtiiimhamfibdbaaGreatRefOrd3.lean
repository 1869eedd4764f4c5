/- What layer 16's reference gives of elements that are to be sorted: each behind all that don't come behind it. Of at most 1000 elements of at most 100000 bytes each. -/
import Derived.Test.YtiiimhamfibdbaaGreatRefOrd2
namespace Go.Proofs.YtiiimhamfibdbaaGreat
open Go.RowKit Go.PlainAid
set_option linter.unusedVariables false
def kO (out : List ByteArray) (x : ByteArray) : Nat → Nat
 |0 => 0
 |k + 1 => if 0 < cmpL (bl (out.getD k ⟨#[]⟩)) (bl x) then kO out x k else k + 1
theorem kO_le (out : List ByteArray) (x : ByteArray) : ∀ k, kO out x k ≤ k := by
 intro k
 induction k with
 |zero => exact Nat.le_refl _
 |succ k ih => rw [kO]; split <;> omega
def insP (out : List ByteArray) (x : ByteArray) : List ByteArray := out.take (kO out x out.length) ++ x :: out.drop (kO out x out.length)
def sortS (l : List ByteArray) : List ByteArray := l.foldl insP []
theorem insP_len (out : List ByteArray) (x : ByteArray) : (insP out x).length = out.length + 1 := by
 have := kO_le out x out.length
 unfold insP
 rw [List.length_append, List.length_cons, List.length_take, List.length_drop]; omega
theorem sortS_snoc (l : List ByteArray) (x : ByteArray) : sortS (l ++ [x]) = insP (sortS l) x := by unfold sortS; rw [List.foldl_append]; rfl
theorem fold_len (l : List ByteArray) : ∀ acc, (l.foldl insP acc).length = acc.length + l.length := by
 induction l with
 |nil => intro acc; rfl
 |cons x l ih => intro acc; rw [List.foldl_cons, ih, insP_len, List.length_cons]; omega
theorem sortS_len (l : List ByteArray) : (sortS l).length = l.length := by unfold sortS; rw [fold_len]; simp
theorem insP_mem {out : List ByteArray} {x y : ByteArray} : y ∈ insP out x ↔ y ∈ out ∨ y = x := by
 unfold insP
 rw [List.mem_append, List.mem_cons]
 have : y ∈ out ↔ y ∈ out.take (kO out x out.length) ∨ y ∈ out.drop (kO out x out.length) := by rw [← List.mem_append, List.take_append_drop]
 rw [this]
 constructor
 ·rintro (h | h | h)
  ·exact .inl (.inl h)
  ·exact .inr h
  ·exact .inl (.inr h)
 ·rintro ((h | h) | h)
  ·exact .inl h
  ·exact .inr (.inr h)
  ·exact .inr (.inl h)
theorem fold_mem (l : List ByteArray) (y : ByteArray) : ∀ acc, y ∈ l.foldl insP acc ↔ y ∈ acc ∨ y ∈ l := by
 induction l with
 |nil => intro acc; simp
 |cons x l ih =>
  intro acc
  rw [List.foldl_cons, ih, insP_mem, List.mem_cons]
  constructor
  ·rintro ((h | h) | h)
   ·exact .inl h
   ·exact .inr (.inl h)
   ·exact .inr (.inr h)
  ·rintro (h | h | h)
   ·exact .inl (.inl h)
   ·exact .inl (.inr h)
   ·exact .inr h
theorem sortS_mem (l : List ByteArray) (y : ByteArray) : y ∈ sortS l ↔ y ∈ l := by unfold sortS; rw [fold_mem]; simp
theorem addr_at (g k j : Nat) : (⟨g, k, none⟩ : Addr).add j = ⟨g, k + j, none⟩ := by unfold Addr.add; split <;> simp_all
theorem sl_drop {w : World} {v : Value} {out : List ByteArray} {g : Nat} (h : Sl w 9 v (svs out) g) (k : Nat) : Came w (some ⟨g, k, none⟩) (svs (out.drop k)) := by
 intro j u hj
 refine ⟨_, rfl, ?_⟩
 have hj' := (List.getElem?_eq_some_iff.1 hj).1
 rw [svs_length, List.length_drop] at hj'
 rw [svs_get (by rw [List.length_drop]; omega), List.getElem_drop] at hj
 rw [addr_at, h.cell (by rw [svs_length]; omega)]
 rw [← hj]
 simp [svs]
set_option maxRecDepth 100000 in
set_option maxHeartbeats 16000000 in
theorem refSortS_any (o : Option Addr) (c : Nat) (l : List ByteArray) (hl : l.length ≤ c) (hc : c ≤ maxLen) (hn : l.length ≤ 1000) (w : World) (h : Came w o (svs l)) (hs : ∀ x ∈ l, x.size ≤ 100000) :
    Calls Tryz.prog 66 #[.slice o l.length c] w fun e w' => ∃ v g, e = .returned v ∧ Sl w' 9 v (svs (sortS l)) g ∧ w.heap.size ≤ g ∧ Below w.heap.size w w' := by
  have HC := Lib.hid h
  have HS := Lib.hid hs
  clear h hs
  go_enter Tryz.func66, Tryz.ntmps66
  go_upto_region 2 with (fail)
  have hX : w.alloc (.cells #[] 9) = w.alloc (.cells (svs []).toArray 9) := rfl
  have HB0 : Hid (Below w.heap.size w (w.alloc (.cells (svs []).toArray 9))) := Lib.hid ((Below.refl _ _).alloc (Nat.le_refl _) _)
  have HS0 : Hid (Sl (w.alloc (.cells (svs []).toArray 9)) 9 (.slice (some ⟨w.heap.size, 0, none⟩) 0 0) (svs []) w.heap.size) := Lib.hid (sl_new_strs w [] (Nat.zero_le _))
  rw [hX]
  clear hX
  generalize w.alloc (.cells (svs []).toArray 9) = W0 at *
  go_wp2_with fail
  go_loopg [3, 4] l.length (fun gk sv iv wr => ∃ (i g : Nat), iv = .int .i64 (i : Int) ∧ i ≤ l.length ∧ l.length - i ≤ gk ∧ Hid (Sl wr 9 sv (svs (sortS (l.take i))) g) ∧ w.heap.size ≤ g ∧ Hid (Below w.heap.size w wr))
  case atStart => exact ⟨0, w.heap.size, rfl, by omega, by omega, by rw [List.take_zero]; exact HS0, Nat.le_refl _, HB0⟩
  case round =>
    obtain ⟨i, g, rfl, hi, hgk, HO, hg, HB⟩ := hrel
    by_cases hlt : i < l.length
    · have hlt2 : (i : Int) < (l.length : Int) := by omega
      have hT : Hid (sortS (l.take (i + 1)) = insP (sortS (l.take i)) l[i]) := Lib.hid (by rw [List.take_succ_eq_append_getElem hlt, sortS_snoc])
      have hol : (sortS (l.take i)).length = i := by rw [sortS_len, List.length_take]; omega
      have HOm : Hid (∀ x ∈ sortS (l.take i), x.size ≤ 100000) := Lib.hid (fun x hx => HS.out x (List.mem_of_mem_take ((sortS_mem _ x).1 hx)))
      have hxs : l[i].size ≤ 100000 := HS.out _ (List.getElem_mem hlt)
      obtain ⟨ad, rfl, hx⟩ := came_str (HC.out.below HB.out) hlt
      have hci : i < c := by omega
      obtain ⟨W1, rfl⟩ : ∃ W1, W1 = wr := ⟨_, rfl⟩
      generalize hxl : l[i] = x at *
      have HXl := Lib.hid hxl
      clear hxl
      generalize sortS (l.take i) = out at *
      obtain ⟨co, rfl, hco, hcm⟩ := HO.out.open (n := i) (by rw [svs_length]; exact hol)
      go_wp2_with fail
      go_loopg [5] i (fun gk2 kv wr2 => ∃ (k n : Nat), kv = .int .i64 (k : Int) ∧ k ≤ i ∧ k ≤ gk2 ∧ Hid (wr2 = W1.drewN n) ∧ Hid (kO out x i = kO out x k))
      case atStart => exact ⟨i, 0, rfl, by omega, by omega, Lib.hid rfl, Lib.hid rfl⟩
      case round =>
        obtain ⟨k, n, rfl, hk, hgk2, HW, HK⟩ := hrel
        cases k with
        | zero =>
          have HKz : Hid (kO out x i = 0) := HK
          go_wp2_with fail
          go_quiet (fail)
          have HO2 : Hid (Sl (wr.drewN nq) 9 (.slice (some ⟨g, 0, none⟩) i co) (svs out) g) := Lib.hid (by rw [HW.out]; exact (HO.out.drewN n).drewN nq)
          have HB2 : Hid (Below w.heap.size w (wr.drewN nq)) := Lib.hid (by
            rw [HW.out, World.drewN_drewN]
            have h := HB.out
            exact ⟨h.os, h.tape, h.output, h.size, h.block⟩)
          have hx2 : (wr.drewN nq).cell? (ad.add i) = some (.string x) := by rw [HW.out]; exact hx
          clear HO HB hx HW
          generalize wr.drewN nq = W2 at *
          have hgW := HO2.out.lt
          have hwW : w.heap.size ≤ W2.heap.size := HB2.out.size
          have HDr := Lib.hid ((sl_drop HO2.out 0).below (w' := W2.alloc (.cells #[] 9)) ((Below.refl _ _).alloc (Nat.le_refl _) _))
          have HEm : Hid (Sl (W2.alloc (.cells #[] 9)) 9 (.slice (some ⟨W2.heap.size, 0, none⟩) 0 0) (svs []) W2.heap.size) := Lib.hid (sl_new_strs W2 [] (Nat.zero_le _))
          have hdl : (out.drop 0).length = i - 0 := by rw [List.length_drop, hol]
          go_wp2_with (at_builtin; refine wpList_append_strs rfl (.tmp 33) (.tmp 36) rfl (l := []) (g := W2.heap.size) rfl HEm.out (some ⟨g, 0, none⟩) (i - 0) (co - 0) (out.drop 0) rfl hdl HDr.out (by rw [hdl, List.length_nil]; omega) ?_)
          intro v3 w3 g3 hs3 hg3 hgr3
          have hs3 : Sl w3 9 v3 (svs (out.drop 0)) g3 := by first | exact hs3 | simpa using hs3
          have hdl3 : (svs (out.drop 0)).length = i - 0 := by rw [svs_length]; exact hdl
          obtain ⟨c3, rfl, hc3, hcm3⟩ := hs3.open hdl3
          have hg3W : W2.heap.size ≤ g3 := by
            rcases hg3 with rfl | rfl
            · exact Nat.le_refl _
            · simp
          have hgg3 : g ≠ g3 := by omega
          have HO3 : Hid (Sl w3 9 (.slice (some ⟨g, 0, none⟩) i co) (svs out) g) := Lib.hid ((HO2.out.alloc _).grown hgr3 (by intro e; first | (injection e with e; omega) | injection e))
          have HB3 : Hid (Below w.heap.size w w3) := Lib.hid ((HB2.out.alloc hwW _).grown hgr3 (by simp; omega) (by intro q hq; injection hq with hq; omega))
          have HS3 := Lib.hid hs3
          have hx3 : w3.cell? (ad.add i) = some (.string x) := by
            obtain ⟨a9, h9, h10⟩ := came_str (HC.out.below HB3.out) hlt
            rw [HXl.out] at h10
            injection h9 with h9
            rw [h9]; exact h10
          have hw3 : w.heap.size ≤ w3.heap.size := HB3.out.size
          have hgl3 := HO3.out.lt
          have hg3l := HS3.out.lt
          have HF3 : Hid (Sl w3 9 (.slice (some ⟨g, 0, none⟩) 0 co) (svs (out.take 0)) g) := Lib.hid (by
            have h1 := HO3.out.front (k := 0) (by rw [svs_length]; omega)
            have h2 : (svs out).take 0 = svs (out.take 0) := by simp [svs]
            rw [h2] at h1; first | exact h1 | (rw [hcc] at h1; exact h1))
          have htl : (out.take 0).length = 0 := by rw [List.length_take]; omega
          clear hs3 hgr3 hg3 HO2 HB2 hx2 HDr HEm HO3
          have hkc : 0 ≤ co := by omega
          have hfb : (out.take 0).length + 1 ≤ 1000000000000 := by omega
          have hfb2 : (out.take 0 ++ [x]).length + (out.drop 0).length ≤ 1000000000000 := by rw [List.length_append, List.length_singleton, htl, hdl]; omega
          have HIns : Hid (sortS (l.take (i + 1)) = (out.take 0 ++ [x]) ++ out.drop 0) := Lib.hid (by
            rw [hT.out]
            unfold insP
            rw [hol, HKz.out, List.append_assoc]; rfl)
          have hone : ∀ X : World, Came (X.alloc (.cells #[.string x] 9)) (some ⟨X.heap.size, 0, none⟩) (svs [x]) := fun X => Came.sl (sl_new_strs X [x] (by show 1 ≤ maxLen; unfold maxLen; omega))
          have HOne := Lib.hid hone
          have HDL := Lib.hid hdl
          have hwg : w.heap.size ≤ g := hg
          have hnn : (0 : Int) ≤ 0 := by omega
          have hkci : 0 ≤ (co : Int) := by omega
          have HFX : Hid (Sl (w3.alloc (.cells #[.string x] 9)) 9 (.slice (some ⟨g, 0, none⟩) 0 co) (svs (out.take 0)) g) := Lib.hid (HF3.out.alloc _)
          have HSX : Hid (Sl (w3.alloc (.cells #[.string x] 9)) 9 (.slice (some ⟨g3, 0, none⟩) (i - 0) c3) (svs (out.drop 0)) g3) := Lib.hid (HS3.out.alloc _)
          have HBX : Hid (Below w.heap.size w (w3.alloc (.cells #[.string x] 9))) := Lib.hid (HB3.out.alloc hw3 _)
          have hX : w.heap.size ≤ (w3.alloc (.cells #[.string x] 9)).heap.size := HBX.out.size
          have hX3 : g3 < (w3.alloc (.cells #[.string x] 9)).heap.size := HSX.out.lt
          clear hone hol hdl hdl3 hs3
          go_wp2_with fail
          go_region_law (first
            | (refine step_append_strs rfl (.tmp 40) (.tmp 45) rfl (l := out.take 0) (g := g) rfl (by first | exact HFX.out.drew | exact HFX.out) (some ⟨w3.heap.size, 0, none⟩) 1 1 [x] rfl rfl (by first | exact (HOne.out _).drew | exact HOne.out _) hfb ?_
               intro v6 w6 g6 hs6 hg6 hgr6
               have h36 : Sl w6 9 (.slice (some ⟨g3, 0, none⟩) (i - 0) c3) (svs (out.drop 0)) g3 := Sl.grown (by first | exact HSX.out.drew | exact HSX.out) hgr6 (by intro e; first | (injection e with e; omega) | injection e)
               have hb6 : Below w.heap.size w w6 := Below.grown (by first | exact HBX.out.drew | exact HBX.out) hgr6 hX (by intro q hq; injection hq with hq; omega)
               have hg6n : g6 ≠ g3 := by
                 rcases hg6 with h | h
                 · omega
                 · have h : g6 = (w3.alloc (.cells #[.string x] 9)).heap.size := h
                   omega
               have hg6w : w.heap.size ≤ g6 := by
                 rcases hg6 with h | h
                 · omega
                 · have h : g6 = (w3.alloc (.cells #[.string x] 9)).heap.size := h
                   omega
               clear hgr6 hg6)
            | (refine step_append_strs rfl (.tmp 46) (.tmp 47) rfl (l := out.take 0 ++ [x]) (g := g6) rfl (by first | exact hs6.drew | exact hs6) (some ⟨g3, 0, none⟩) _ _ (out.drop 0) rfl (by first | (rw [HDL.out]; omega) | rw [HDL.out]) (by first | exact (Came.sl h36).drew | exact Came.sl h36) hfb2 ?_
               intro v8 w8 g8 hs8 hg8 hgr8
               have hb8 : Below w.heap.size w w8 := Below.grown (by first | exact hb6.drew | exact hb6) hgr8 hb6.size (by intro q hq; injection hq with hq; omega)
               have hg8w : w.heap.size ≤ g8 := by
                 have hz := hb6.size
                 rcases hg8 with h | h
                 · omega
                 · rw [h]; exact hz))
          all_goals
            have HS9 : Hid (Sl w8 9 v8 (svs (sortS (l.take (i + 1)))) g8) := Lib.hid (by rw [HIns.out]; exact hs8)
            have HB9 := Lib.hid hb8
            clear hs8 hb8 hgr8 hg8 HIns HFX HSX HBX
            go_wp2
            go_roundg (l.length - (i + 1))
            case measure => omega
            case rel => exact ⟨i + 1, g8, by simp, by omega, by omega, HS9, hg8w, HB9⟩

        | succ m =>
          have hm : m < out.length := by omega
          have hmi : (m : Int) < (i : Int) := by omega
          have hcm2 : wr.cell? ⟨g, m, none⟩ = some (.string out[m]) := by
            rw [HW.out]
            have h1 := (HO.out.drewN n).cell (i := m) (by rw [svs_length]; exact hm)
            have h2 : (svs out)[m]'(by rw [svs_length]; exact hm) = .string out[m] := by simp [svs]
            rw [h2] at h1; exact h1
          have hxq : wr.cell? (ad.add i) = some (.string x) := by rw [HW.out]; exact hx
          have hym : out[m].size ≤ 100000 := HOm.out _ (List.getElem_mem hm)
          have HQ := Lib.hid (refCompare_any out[m] x (by omega) (by omega))
          have hkm : kO out x (m + 1) = if 0 < cmpL (bl out[m]) (bl x) then kO out x m else m + 1 := by
            rw [kO, List.getD_eq_getElem?_getD, List.getElem?_eq_getElem hm]; rfl
          have HKm := Lib.hid (HK.out.trans hkm)
          clear hkm HK
          generalize out[m] = y at *
          generalize cmpL (bl y) (bl x) = C at *
          by_cases hC : 0 < C
          · rw [if_pos hC] at HKm
            go_wp2_with fail
            go_quiet ((go_at_call 88; exact Calls.quiet_of_same (HQ.out _)))
            go_wp2
            go_roundg m
            case measure => omega
            case rel => exact ⟨m, n + nq, by simp, by omega, by omega, Lib.hid (by rw [HW.out, World.drewN_drewN]), HKm⟩
          · rw [if_neg hC] at HKm
            go_wp2_with fail
            go_quiet ((go_at_call 88; exact Calls.quiet_of_same (HQ.out _)))
            have HO2 : Hid (Sl (wr.drewN nq) 9 (.slice (some ⟨g, 0, none⟩) i co) (svs out) g) := Lib.hid (by rw [HW.out]; exact (HO.out.drewN n).drewN nq)
            have HB2 : Hid (Below w.heap.size w (wr.drewN nq)) := Lib.hid (by
              rw [HW.out, World.drewN_drewN]
              have h := HB.out
              exact ⟨h.os, h.tape, h.output, h.size, h.block⟩)
            have hx2 : (wr.drewN nq).cell? (ad.add i) = some (.string x) := by rw [HW.out]; exact hx
            clear HO HB hx HW HQ hcm2
            generalize wr.drewN nq = W2 at *
            have hgW := HO2.out.lt
            have hwW : w.heap.size ≤ W2.heap.size := HB2.out.size
            have HDr := Lib.hid ((sl_drop HO2.out (m + 1)).below (w' := W2.alloc (.cells #[] 9)) ((Below.refl _ _).alloc (Nat.le_refl _) _))
            have HEm : Hid (Sl (W2.alloc (.cells #[] 9)) 9 (.slice (some ⟨W2.heap.size, 0, none⟩) 0 0) (svs []) W2.heap.size) := Lib.hid (sl_new_strs W2 [] (Nat.zero_le _))
            have hdl : (out.drop (m + 1)).length = i - (m + 1) := by rw [List.length_drop, hol]
            by_cases hcc : co = (m + 1)
            · have HNil : Hid (out.drop (m + 1) = []) := Lib.hid (List.drop_eq_nil_of_le (by omega))
              go_wp2_with (at_builtin; refine wpList_append_strs rfl (.tmp 33) (.tmp 36) rfl (l := []) (g := W2.heap.size) rfl HEm.out (some ⟨g, 0, none⟩) (i - (m + 1)) 0 (out.drop (m + 1)) rfl hdl (by rw [HNil.out]; exact Came.nil _ _) (by rw [hdl, List.length_nil]; omega) ?_)
              intro v3 w3 g3 hs3 hg3 hgr3
              have hs3 : Sl w3 9 v3 (svs (out.drop (m + 1))) g3 := by first | exact hs3 | simpa using hs3
              have hdl3 : (svs (out.drop (m + 1))).length = i - (m + 1) := by rw [svs_length]; exact hdl
              obtain ⟨c3, rfl, hc3, hcm3⟩ := hs3.open hdl3
              have hg3W : W2.heap.size ≤ g3 := by
                rcases hg3 with rfl | rfl
                · exact Nat.le_refl _
                · simp
              have hgg3 : g ≠ g3 := by omega
              have HO3 : Hid (Sl w3 9 (.slice (some ⟨g, 0, none⟩) i co) (svs out) g) := Lib.hid ((HO2.out.alloc _).grown hgr3 (by intro e; first | (injection e with e; omega) | injection e))
              have HB3 : Hid (Below w.heap.size w w3) := Lib.hid ((HB2.out.alloc hwW _).grown hgr3 (by simp; omega) (by intro q hq; injection hq with hq; omega))
              have HS3 := Lib.hid hs3
              have hx3 : w3.cell? (ad.add i) = some (.string x) := by
                obtain ⟨a9, h9, h10⟩ := came_str (HC.out.below HB3.out) hlt
                rw [HXl.out] at h10
                injection h9 with h9
                rw [h9]; exact h10
              have hw3 : w.heap.size ≤ w3.heap.size := HB3.out.size
              have hgl3 := HO3.out.lt
              have hg3l := HS3.out.lt
              have HF3 : Hid (Sl w3 9 (.slice (some ⟨g, 0, none⟩) (m + 1) (m + 1)) (svs (out.take (m + 1))) g) := Lib.hid (by
                have h1 := HO3.out.front (k := (m + 1)) (by rw [svs_length]; omega)
                have h2 : (svs out).take (m + 1) = svs (out.take (m + 1)) := by simp [svs]
                rw [h2] at h1; first | exact h1 | (rw [hcc] at h1; exact h1))
              have htl : (out.take (m + 1)).length = (m + 1) := by rw [List.length_take]; omega
              clear hs3 hgr3 hg3 HO2 HB2 hx2 HDr HEm HO3
              have hkc : (m + 1) ≤ (m + 1) := by omega
              have hfb : (out.take (m + 1)).length + 1 ≤ 1000000000000 := by omega
              have hfb2 : (out.take (m + 1) ++ [x]).length + (out.drop (m + 1)).length ≤ 1000000000000 := by rw [List.length_append, List.length_singleton, htl, hdl]; omega
              have HIns : Hid (sortS (l.take (i + 1)) = (out.take (m + 1) ++ [x]) ++ out.drop (m + 1)) := Lib.hid (by
                rw [hT.out]
                unfold insP
                rw [hol, HKm.out, List.append_assoc]; rfl)
              have hone : ∀ X : World, Came (X.alloc (.cells #[.string x] 9)) (some ⟨X.heap.size, 0, none⟩) (svs [x]) := fun X => Came.sl (sl_new_strs X [x] (by show 1 ≤ maxLen; unfold maxLen; omega))
              have HOne := Lib.hid hone
              have HDL := Lib.hid hdl
              have hwg : w.heap.size ≤ g := hg
              have hnn : (0 : Int) ≤ (m : Int) + 1 := by omega
              have hkci : (m : Int) + 1 ≤ (co : Int) := by omega
              have HFX : Hid (Sl (w3.alloc (.cells #[.string x] 9)) 9 (.slice (some ⟨g, 0, none⟩) (m + 1) (m + 1)) (svs (out.take (m + 1))) g) := Lib.hid (HF3.out.alloc _)
              have HSX : Hid (Sl (w3.alloc (.cells #[.string x] 9)) 9 (.slice (some ⟨g3, 0, none⟩) (i - (m + 1)) c3) (svs (out.drop (m + 1))) g3) := Lib.hid (HS3.out.alloc _)
              have HBX : Hid (Below w.heap.size w (w3.alloc (.cells #[.string x] 9))) := Lib.hid (HB3.out.alloc hw3 _)
              have hX : w.heap.size ≤ (w3.alloc (.cells #[.string x] 9)).heap.size := HBX.out.size
              have hX3 : g3 < (w3.alloc (.cells #[.string x] 9)).heap.size := HSX.out.lt
              clear hone hol hdl hdl3 hs3
              go_wp2_with fail
              go_region_law (first
                | (refine step_append_strs rfl (.tmp 40) (.tmp 45) rfl (l := out.take (m + 1)) (g := g) rfl (by first | exact HFX.out.drew | exact HFX.out) (some ⟨w3.heap.size, 0, none⟩) 1 1 [x] rfl rfl (by first | exact (HOne.out _).drew | exact HOne.out _) hfb ?_
                   intro v6 w6 g6 hs6 hg6 hgr6
                   have h36 : Sl w6 9 (.slice (some ⟨g3, 0, none⟩) (i - (m + 1)) c3) (svs (out.drop (m + 1))) g3 := Sl.grown (by first | exact HSX.out.drew | exact HSX.out) hgr6 (by intro e; first | (injection e with e; omega) | injection e)
                   have hb6 : Below w.heap.size w w6 := Below.grown (by first | exact HBX.out.drew | exact HBX.out) hgr6 hX (by intro q hq; injection hq with hq; omega)
                   have hg6n : g6 ≠ g3 := by
                     rcases hg6 with h | h
                     · omega
                     · have h : g6 = (w3.alloc (.cells #[.string x] 9)).heap.size := h
                       omega
                   have hg6w : w.heap.size ≤ g6 := by
                     rcases hg6 with h | h
                     · omega
                     · have h : g6 = (w3.alloc (.cells #[.string x] 9)).heap.size := h
                       omega
                   clear hgr6 hg6)
                | (refine step_append_strs rfl (.tmp 46) (.tmp 47) rfl (l := out.take (m + 1) ++ [x]) (g := g6) rfl (by first | exact hs6.drew | exact hs6) (some ⟨g3, 0, none⟩) _ _ (out.drop (m + 1)) rfl (by first | (rw [HDL.out]; omega) | rw [HDL.out]) (by first | exact (Came.sl h36).drew | exact Came.sl h36) hfb2 ?_
                   intro v8 w8 g8 hs8 hg8 hgr8
                   have hb8 : Below w.heap.size w w8 := Below.grown (by first | exact hb6.drew | exact hb6) hgr8 hb6.size (by intro q hq; injection hq with hq; omega)
                   have hg8w : w.heap.size ≤ g8 := by
                     have hz := hb6.size
                     rcases hg8 with h | h
                     · omega
                     · rw [h]; exact hz))
              all_goals
                have HS9 : Hid (Sl w8 9 v8 (svs (sortS (l.take (i + 1)))) g8) := Lib.hid (by rw [HIns.out]; exact hs8)
                have HB9 := Lib.hid hb8
                clear hs8 hb8 hgr8 hg8 HIns HFX HSX HBX
                go_wp2
                go_roundg (l.length - (i + 1))
                case measure => omega
                case rel => exact ⟨i + 1, g8, by simp, by omega, by omega, HS9, hg8w, HB9⟩

            · by_cases hic : i = (m + 1)
              · have HNil : Hid (out.drop (m + 1) = []) := Lib.hid (List.drop_eq_nil_of_le (by omega))
                have hz9 : i - (m + 1) = 0 := by omega
                clear hic
                go_wp2_with (at_builtin; refine wpList_append_strs rfl (.tmp 33) (.tmp 36) rfl (l := []) (g := W2.heap.size) rfl HEm.out (some ⟨g, (m + 1), none⟩) 0 (co - (m + 1)) (out.drop (m + 1)) rfl (by rw [hdl]; omega) (by rw [HNil.out]; exact Came.nil _ _) (by rw [hdl, List.length_nil]; omega) ?_)
                intro v3 w3 g3 hs3 hg3 hgr3
                have hs3 : Sl w3 9 v3 (svs (out.drop (m + 1))) g3 := by first | exact hs3 | simpa using hs3
                have hdl3 : (svs (out.drop (m + 1))).length = i - (m + 1) := by rw [svs_length]; exact hdl
                obtain ⟨c3, rfl, hc3, hcm3⟩ := hs3.open hdl3
                have hg3W : W2.heap.size ≤ g3 := by
                  rcases hg3 with rfl | rfl
                  · exact Nat.le_refl _
                  · simp
                have hgg3 : g ≠ g3 := by omega
                have HO3 : Hid (Sl w3 9 (.slice (some ⟨g, 0, none⟩) i co) (svs out) g) := Lib.hid ((HO2.out.alloc _).grown hgr3 (by intro e; first | (injection e with e; omega) | injection e))
                have HB3 : Hid (Below w.heap.size w w3) := Lib.hid ((HB2.out.alloc hwW _).grown hgr3 (by simp; omega) (by intro q hq; injection hq with hq; omega))
                have HS3 := Lib.hid hs3
                have hx3 : w3.cell? (ad.add i) = some (.string x) := by
                  obtain ⟨a9, h9, h10⟩ := came_str (HC.out.below HB3.out) hlt
                  rw [HXl.out] at h10
                  injection h9 with h9
                  rw [h9]; exact h10
                have hw3 : w.heap.size ≤ w3.heap.size := HB3.out.size
                have hgl3 := HO3.out.lt
                have hg3l := HS3.out.lt
                have HF3 : Hid (Sl w3 9 (.slice (some ⟨g, 0, none⟩) (m + 1) co) (svs (out.take (m + 1))) g) := Lib.hid (by
                  have h1 := HO3.out.front (k := (m + 1)) (by rw [svs_length]; omega)
                  have h2 : (svs out).take (m + 1) = svs (out.take (m + 1)) := by simp [svs]
                  rw [h2] at h1; first | exact h1 | (rw [hcc] at h1; exact h1))
                have htl : (out.take (m + 1)).length = (m + 1) := by rw [List.length_take]; omega
                clear hs3 hgr3 hg3 HO2 HB2 hx2 HDr HEm HO3
                have hkc : (m + 1) ≤ co := by omega
                have hfb : (out.take (m + 1)).length + 1 ≤ 1000000000000 := by omega
                have hfb2 : (out.take (m + 1) ++ [x]).length + (out.drop (m + 1)).length ≤ 1000000000000 := by rw [List.length_append, List.length_singleton, htl, hdl]; omega
                have HIns : Hid (sortS (l.take (i + 1)) = (out.take (m + 1) ++ [x]) ++ out.drop (m + 1)) := Lib.hid (by
                  rw [hT.out]
                  unfold insP
                  rw [hol, HKm.out, List.append_assoc]; rfl)
                have hone : ∀ X : World, Came (X.alloc (.cells #[.string x] 9)) (some ⟨X.heap.size, 0, none⟩) (svs [x]) := fun X => Came.sl (sl_new_strs X [x] (by show 1 ≤ maxLen; unfold maxLen; omega))
                have HOne := Lib.hid hone
                have HDL := Lib.hid hdl
                have hwg : w.heap.size ≤ g := hg
                have hnn : (0 : Int) ≤ (m : Int) + 1 := by omega
                have hkci : (m : Int) + 1 ≤ (co : Int) := by omega
                have HFX : Hid (Sl (w3.alloc (.cells #[.string x] 9)) 9 (.slice (some ⟨g, 0, none⟩) (m + 1) co) (svs (out.take (m + 1))) g) := Lib.hid (HF3.out.alloc _)
                have HSX : Hid (Sl (w3.alloc (.cells #[.string x] 9)) 9 (.slice (some ⟨g3, 0, none⟩) (i - (m + 1)) c3) (svs (out.drop (m + 1))) g3) := Lib.hid (HS3.out.alloc _)
                have HBX : Hid (Below w.heap.size w (w3.alloc (.cells #[.string x] 9))) := Lib.hid (HB3.out.alloc hw3 _)
                have hX : w.heap.size ≤ (w3.alloc (.cells #[.string x] 9)).heap.size := HBX.out.size
                have hX3 : g3 < (w3.alloc (.cells #[.string x] 9)).heap.size := HSX.out.lt
                clear hone hol hdl hdl3 hs3
                go_wp2_with fail
                go_region_law (first
                  | (refine step_append_strs rfl (.tmp 40) (.tmp 45) rfl (l := out.take (m + 1)) (g := g) rfl (by first | exact HFX.out.drew | exact HFX.out) (some ⟨w3.heap.size, 0, none⟩) 1 1 [x] rfl rfl (by first | exact (HOne.out _).drew | exact HOne.out _) hfb ?_
                     intro v6 w6 g6 hs6 hg6 hgr6
                     have h36 : Sl w6 9 (.slice (some ⟨g3, 0, none⟩) (i - (m + 1)) c3) (svs (out.drop (m + 1))) g3 := Sl.grown (by first | exact HSX.out.drew | exact HSX.out) hgr6 (by intro e; first | (injection e with e; omega) | injection e)
                     have hb6 : Below w.heap.size w w6 := Below.grown (by first | exact HBX.out.drew | exact HBX.out) hgr6 hX (by intro q hq; injection hq with hq; omega)
                     have hg6n : g6 ≠ g3 := by
                       rcases hg6 with h | h
                       · omega
                       · have h : g6 = (w3.alloc (.cells #[.string x] 9)).heap.size := h
                         omega
                     have hg6w : w.heap.size ≤ g6 := by
                       rcases hg6 with h | h
                       · omega
                       · have h : g6 = (w3.alloc (.cells #[.string x] 9)).heap.size := h
                         omega
                     clear hgr6 hg6)
                  | (refine step_append_strs rfl (.tmp 46) (.tmp 47) rfl (l := out.take (m + 1) ++ [x]) (g := g6) rfl (by first | exact hs6.drew | exact hs6) (some ⟨g3, 0, none⟩) _ _ (out.drop (m + 1)) rfl (by first | (rw [HDL.out]; omega) | rw [HDL.out]) (by first | exact (Came.sl h36).drew | exact Came.sl h36) hfb2 ?_
                     intro v8 w8 g8 hs8 hg8 hgr8
                     have hb8 : Below w.heap.size w w8 := Below.grown (by first | exact hb6.drew | exact hb6) hgr8 hb6.size (by intro q hq; injection hq with hq; omega)
                     have hg8w : w.heap.size ≤ g8 := by
                       have hz := hb6.size
                       rcases hg8 with h | h
                       · omega
                       · rw [h]; exact hz))
                all_goals
                  have HS9 : Hid (Sl w8 9 v8 (svs (sortS (l.take (i + 1)))) g8) := Lib.hid (by rw [HIns.out]; exact hs8)
                  have HB9 := Lib.hid hb8
                  clear hs8 hb8 hgr8 hg8 HIns HFX HSX HBX
                  go_wp2
                  go_roundg (l.length - (i + 1))
                  case measure => omega
                  case rel => exact ⟨i + 1, g8, by simp, by omega, by omega, HS9, hg8w, HB9⟩

              · have hic2 : ¬ i - (m + 1) = 0 := by omega
                go_wp2_with (at_builtin; refine wpList_append_strs rfl (.tmp 33) (.tmp 36) rfl (l := []) (g := W2.heap.size) rfl HEm.out (some ⟨g, (m + 1), none⟩) (i - (m + 1)) (co - (m + 1)) (out.drop (m + 1)) rfl hdl HDr.out (by rw [hdl, List.length_nil]; omega) ?_)
                intro v3 w3 g3 hs3 hg3 hgr3
                have hs3 : Sl w3 9 v3 (svs (out.drop (m + 1))) g3 := by first | exact hs3 | simpa using hs3
                have hdl3 : (svs (out.drop (m + 1))).length = i - (m + 1) := by rw [svs_length]; exact hdl
                obtain ⟨c3, rfl, hc3, hcm3⟩ := hs3.open hdl3
                have hg3W : W2.heap.size ≤ g3 := by
                  rcases hg3 with rfl | rfl
                  · exact Nat.le_refl _
                  · simp
                have hgg3 : g ≠ g3 := by omega
                have HO3 : Hid (Sl w3 9 (.slice (some ⟨g, 0, none⟩) i co) (svs out) g) := Lib.hid ((HO2.out.alloc _).grown hgr3 (by intro e; first | (injection e with e; omega) | injection e))
                have HB3 : Hid (Below w.heap.size w w3) := Lib.hid ((HB2.out.alloc hwW _).grown hgr3 (by simp; omega) (by intro q hq; injection hq with hq; omega))
                have HS3 := Lib.hid hs3
                have hx3 : w3.cell? (ad.add i) = some (.string x) := by
                  obtain ⟨a9, h9, h10⟩ := came_str (HC.out.below HB3.out) hlt
                  rw [HXl.out] at h10
                  injection h9 with h9
                  rw [h9]; exact h10
                have hw3 : w.heap.size ≤ w3.heap.size := HB3.out.size
                have hgl3 := HO3.out.lt
                have hg3l := HS3.out.lt
                have HF3 : Hid (Sl w3 9 (.slice (some ⟨g, 0, none⟩) (m + 1) co) (svs (out.take (m + 1))) g) := Lib.hid (by
                  have h1 := HO3.out.front (k := (m + 1)) (by rw [svs_length]; omega)
                  have h2 : (svs out).take (m + 1) = svs (out.take (m + 1)) := by simp [svs]
                  rw [h2] at h1; first | exact h1 | (rw [hcc] at h1; exact h1))
                have htl : (out.take (m + 1)).length = (m + 1) := by rw [List.length_take]; omega
                clear hs3 hgr3 hg3 HO2 HB2 hx2 HDr HEm HO3
                have hkc : (m + 1) ≤ co := by omega
                have hfb : (out.take (m + 1)).length + 1 ≤ 1000000000000 := by omega
                have hfb2 : (out.take (m + 1) ++ [x]).length + (out.drop (m + 1)).length ≤ 1000000000000 := by rw [List.length_append, List.length_singleton, htl, hdl]; omega
                have HIns : Hid (sortS (l.take (i + 1)) = (out.take (m + 1) ++ [x]) ++ out.drop (m + 1)) := Lib.hid (by
                  rw [hT.out]
                  unfold insP
                  rw [hol, HKm.out, List.append_assoc]; rfl)
                have hone : ∀ X : World, Came (X.alloc (.cells #[.string x] 9)) (some ⟨X.heap.size, 0, none⟩) (svs [x]) := fun X => Came.sl (sl_new_strs X [x] (by show 1 ≤ maxLen; unfold maxLen; omega))
                have HOne := Lib.hid hone
                have HDL := Lib.hid hdl
                have hwg : w.heap.size ≤ g := hg
                have hnn : (0 : Int) ≤ (m : Int) + 1 := by omega
                have hkci : (m : Int) + 1 ≤ (co : Int) := by omega
                have HFX : Hid (Sl (w3.alloc (.cells #[.string x] 9)) 9 (.slice (some ⟨g, 0, none⟩) (m + 1) co) (svs (out.take (m + 1))) g) := Lib.hid (HF3.out.alloc _)
                have HSX : Hid (Sl (w3.alloc (.cells #[.string x] 9)) 9 (.slice (some ⟨g3, 0, none⟩) (i - (m + 1)) c3) (svs (out.drop (m + 1))) g3) := Lib.hid (HS3.out.alloc _)
                have HBX : Hid (Below w.heap.size w (w3.alloc (.cells #[.string x] 9))) := Lib.hid (HB3.out.alloc hw3 _)
                have hX : w.heap.size ≤ (w3.alloc (.cells #[.string x] 9)).heap.size := HBX.out.size
                have hX3 : g3 < (w3.alloc (.cells #[.string x] 9)).heap.size := HSX.out.lt
                clear hone hol hdl hdl3 hs3
                go_wp2_with fail
                go_region_law (first
                  | (refine step_append_strs rfl (.tmp 40) (.tmp 45) rfl (l := out.take (m + 1)) (g := g) rfl (by first | exact HFX.out.drew | exact HFX.out) (some ⟨w3.heap.size, 0, none⟩) 1 1 [x] rfl rfl (by first | exact (HOne.out _).drew | exact HOne.out _) hfb ?_
                     intro v6 w6 g6 hs6 hg6 hgr6
                     have h36 : Sl w6 9 (.slice (some ⟨g3, 0, none⟩) (i - (m + 1)) c3) (svs (out.drop (m + 1))) g3 := Sl.grown (by first | exact HSX.out.drew | exact HSX.out) hgr6 (by intro e; first | (injection e with e; omega) | injection e)
                     have hb6 : Below w.heap.size w w6 := Below.grown (by first | exact HBX.out.drew | exact HBX.out) hgr6 hX (by intro q hq; injection hq with hq; omega)
                     have hg6n : g6 ≠ g3 := by
                       rcases hg6 with h | h
                       · omega
                       · have h : g6 = (w3.alloc (.cells #[.string x] 9)).heap.size := h
                         omega
                     have hg6w : w.heap.size ≤ g6 := by
                       rcases hg6 with h | h
                       · omega
                       · have h : g6 = (w3.alloc (.cells #[.string x] 9)).heap.size := h
                         omega
                     clear hgr6 hg6)
                  | (refine step_append_strs rfl (.tmp 46) (.tmp 47) rfl (l := out.take (m + 1) ++ [x]) (g := g6) rfl (by first | exact hs6.drew | exact hs6) (some ⟨g3, 0, none⟩) _ _ (out.drop (m + 1)) rfl (by first | (rw [HDL.out]; omega) | rw [HDL.out]) (by first | exact (Came.sl h36).drew | exact Came.sl h36) hfb2 ?_
                     intro v8 w8 g8 hs8 hg8 hgr8
                     have hb8 : Below w.heap.size w w8 := Below.grown (by first | exact hb6.drew | exact hb6) hgr8 hb6.size (by intro q hq; injection hq with hq; omega)
                     have hg8w : w.heap.size ≤ g8 := by
                       have hz := hb6.size
                       rcases hg8 with h | h
                       · omega
                       · rw [h]; exact hz))
                all_goals
                  have HS9 : Hid (Sl w8 9 v8 (svs (sortS (l.take (i + 1)))) g8) := Lib.hid (by rw [HIns.out]; exact hs8)
                  have HB9 := Lib.hid hb8
                  clear hs8 hb8 hgr8 hg8 HIns HFX HSX HBX
                  go_wp2
                  go_roundg (l.length - (i + 1))
                  case measure => omega
                  case rel => exact ⟨i + 1, g8, by simp, by omega, by omega, HS9, hg8w, HB9⟩

    · have hlt2 : ¬ (i : Int) < (l.length : Int) := by omega
      obtain rfl : i = l.length := by omega
      have hBf := HB.out
      have hO := HO.out
      rw [List.take_length] at hO
      clear HC HS HO HB HS0 HB0
      go_wp2
      go_returns
      exact ⟨_, rfl, g, hO, hg, hBf⟩
end Go.Proofs.YtiiimhamfibdbaaGreat
