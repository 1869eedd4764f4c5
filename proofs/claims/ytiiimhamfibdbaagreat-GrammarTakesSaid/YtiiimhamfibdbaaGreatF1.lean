/- Elements as trees: a row of elements, each primitive with its content or constructed with a row of its own; their bytes, the events that they bring about, and that a text of them is told so. It holds of lists alone, under no condition on the program. -/
import Derived.Test.YtiiimhamfibdbaaGreatEvOne
import Derived.Test.YtiiimhamfibdbaaGreatV1
import Derived.Test.YtiiimhamfibdbaaGreatRefOrd3
import Derived.Test.YtiiimhamfibdbaaGreatWhenPut
import Derived.Test.YtiiimhamfibdbaaGreatO1
import Derived.Test.YtiiimhamfibdbaaGreatM1
namespace Go.Proofs.YtiiimhamfibdbaaGreat
open Go.RowKit Go.PlainAid
set_option linter.unusedVariables false
inductive Fo where
 |nil : Fo
 |leaf (c t : Int) (C : List Int) (r : Fo) : Fo
 |node (c t : Int) (k r : Fo) : Fo
def Fo.enc : Fo → List Int
 |.nil => []
 |.leaf c t C r => hdPut c t false (C.length : Int) ++ C ++ r.enc
 |.node c t k r => hdPut c t true (k.enc.length : Int) ++ k.enc ++ r.enc
def Fo.evs : Fo → Nat → List Ev
 |.nil, _ => []
 |.leaf c t C r, p =>
  evLeaf (p + (hdPut c t false (C.length : Int)).length - 1) c t false (C.length : Int) :: (bytesE C (p + (hdPut c t false (C.length : Int)).length) ++
   evEnd (p + (hdPut c t false (C.length : Int)).length + C.length - 1) :: r.evs (p + (hdPut c t false (C.length : Int)).length + C.length))
 |.node c t k r, p =>
  evEnter (p + (hdPut c t true (k.enc.length : Int)).length - 1) c t true (k.enc.length : Int) :: (k.evs (p + (hdPut c t true (k.enc.length : Int)).length) ++
   evExit (p + (hdPut c t true (k.enc.length : Int)).length + k.enc.length - 1) :: r.evs (p + (hdPut c t true (k.enc.length : Int)).length + k.enc.length))
def Fo.depth : Fo → Nat
 |.nil => 0
 |.leaf _ _ _ r => r.depth
 |.node _ _ k r => max (k.depth + 1) r.depth
def Fo.count : Fo → Nat
 |.nil => 0
 |.leaf _ _ _ r => r.count + 1
 |.node _ _ _ r => r.count + 1
def Fo.Ok : Fo → Prop
 |.nil => True
 |.leaf c t C r => hdOk c t (C.length : Int) = true ∧ IsB C ∧ r.Ok
 |.node c t k r => hdOk c t (k.enc.length : Int) = true ∧ k.Ok ∧ r.Ok
def Fo.app : Fo → Fo → Fo
 |.nil, s => s
 |.leaf c t C r, s => .leaf c t C (r.app s)
 |.node c t k r, s => .node c t k (r.app s)
theorem Fo.enc_app (f s : Fo) : (f.app s).enc = f.enc ++ s.enc := by
 induction f with
 |nil => rfl
 |leaf c t C r ih => show _ ++ _ ++ (r.app s).enc = _; rw [ih]; simp [Fo.enc]
 |node c t k r _ ih => show _ ++ _ ++ (r.app s).enc = _; rw [ih]; simp [Fo.enc]
theorem Fo.depth_app (f s : Fo) : (f.app s).depth = max f.depth s.depth := by
 induction f with
 |nil => show s.depth = max 0 s.depth; omega
 |leaf c t C r ih => exact ih
 |node c t l r _ ih => show max _ (r.app s).depth = max (max _ _) _; rw [ih]; omega
theorem Fo.evs_app (f s : Fo) : ∀ p, (f.app s).evs p = f.evs p ++ s.evs (p + f.enc.length) := by
 induction f with
 |nil => intro p; rfl
 |leaf c t C r ih =>
  intro p
  show _ :: (_ ++ _ :: (r.app s).evs _) = (_ :: (_ ++ _ :: r.evs _)) ++ _
  rw [ih]
  simp [Fo.enc, Nat.add_assoc]
 |node c t l r _ ih =>
  intro p
  show _ :: (_ ++ _ :: (r.app s).evs _) = (_ :: (_ ++ _ :: r.evs _)) ++ _
  rw [ih]
  simp [Fo.enc, Nat.add_assoc]
theorem Fo.isB {f : Fo} (h : f.Ok) : IsB f.enc := by
 induction f with
 |nil => exact IsB.nil
 |leaf c t C r ih => exact ((hdPut_isB h.1).append h.2.1).append (ih h.2.2)
 |node c t k r ihk ih => exact ((hdPut_isB h.1).append (ihk h.2.1)).append (ih h.2.2)
theorem Fo.len_count (f : Fo) (h : f.Ok) : 2 * f.count ≤ f.enc.length := by
 induction f with
 |nil => exact Nat.le_refl _
 |leaf c t C r ih =>
  have := ih h.2.2
  have h2 := (hdPut_length (k := false) h.1).1
  show 2 * (r.count + 1) ≤ (hdPut c t false (C.length : Int) ++ C ++ r.enc).length
  rw [List.length_append, List.length_append]; omega
 |node c t k r ihk ih =>
  have := ih h.2.2
  have h2 := (hdPut_length (k := true) h.1).1
  show 2 * (r.count + 1) ≤ (hdPut c t true (k.enc.length : Int) ++ k.enc ++ r.enc).length
  rw [List.length_append, List.length_append]; omega
theorem leaf_elem {c t : Int} {C : List Int} (h : hdOk c t (C.length : Int) = true) (A r : List Int) (d : Nat) (e : Int) (he : e = -1 ∨ ((A.length + (hdPut c t false (C.length : Int)).length + C.length : Nat) : Int) ≤ e) :
  elemP (A ++ (hdPut c t false (C.length : Int) ++ C ++ r)) d A.length e = ⟨(Fo.leaf c t C .nil).evs A.length, 0, A.length + (hdPut c t false (C.length : Int)).length + C.length⟩ := by
 have h2 := (hdPut_length (k := false) h).1
 have hs : startL [] ((A ++ (hdPut c t false (C.length : Int) ++ C ++ r)).drop A.length) A.length e = ((c, t, false, (C.length : Int)), A.length + (hdPut c t false (C.length : Int)).length - 1, 0) := by
  rw [List.drop_left, List.append_assoc]
  exact start_head h (C ++ r) A.length e (by rcases he with h | h; exact .inl h; right; omega)
 unfold Fo.evs Fo.evs
 generalize hH : hdPut c t false (C.length : Int) = H at *
 have hp1 : A.length + H.length - 1 + 1 = A.length + H.length := by omega
 rw [elemP_leaf d hs (by rw [hp1]; omega), hp1]
 have hdr : (A ++ (H ++ C ++ r)).drop (A.length + H.length) = C ++ r := by
  rw [List.append_assoc H C r, ← List.append_assoc A H, ← List.length_append, List.drop_left]
 have hlp : leafP (A ++ (H ++ C ++ r)) (A.length + H.length) (C.length : Int) = ⟨bytesE C (A.length + H.length) ++ [evEnd (A.length + H.length + C.length - 1)], 0, A.length + H.length + C.length⟩ := by
  unfold leafP
  by_cases h0 : (C.length : Int) = 0
  ·have hC : C = [] := List.eq_nil_of_length_eq_zero (by omega)
   subst hC
   rw [if_pos h0]; rfl
  ·rw [if_neg h0, hdr, if_neg (by rw [List.length_append]; omega), Int.toNat_natCast, List.take_left]
 rw [hlp]
theorem node_elem {c t : Int} {K : List Int} {E : List Ev} (h : hdOk c t (K.length : Int) = true) (A r : List Int) (d : Nat) (e : Int) (he : e = -1 ∨ ((A.length + (hdPut c t true (K.length : Int)).length + K.length : Nat) : Int) ≤ e)
  (hk : ∀ acc g, (A ++ (hdPut c t true (K.length : Int) ++ K ++ r)).length + 1 ≤ g → loopP (fun i => elemP (A ++ (hdPut c t true (K.length : Int) ++ K ++ r)) d i ((A.length + (hdPut c t true (K.length : Int)).length + K.length : Nat) : Int)) g ⟨acc, 0, A.length + (hdPut c t true (K.length : Int)).length⟩ ((A.length + (hdPut c t true (K.length : Int)).length + K.length : Nat) : Int) = ⟨acc ++ E, 0, A.length + (hdPut c t true (K.length : Int)).length + K.length⟩) :
  elemP (A ++ (hdPut c t true (K.length : Int) ++ K ++ r)) (d + 1) A.length e = ⟨evEnter (A.length + (hdPut c t true (K.length : Int)).length - 1) c t true (K.length : Int) :: (E ++ [evExit (A.length + (hdPut c t true (K.length : Int)).length + K.length - 1)]), 0, A.length + (hdPut c t true (K.length : Int)).length + K.length⟩ := by
 have h2 := (hdPut_length (k := true) h).1
 have hs : startL [] ((A ++ (hdPut c t true (K.length : Int) ++ K ++ r)).drop A.length) A.length e = ((c, t, true, (K.length : Int)), A.length + (hdPut c t true (K.length : Int)).length - 1, 0) := by
  rw [List.drop_left, List.append_assoc]
  exact start_head h (K ++ r) A.length e (by rcases he with h | h; exact .inl h; right; omega)
 generalize hH : hdPut c t true (K.length : Int) = H at *
 have hp1 : A.length + H.length - 1 + 1 = A.length + H.length := by omega
 rw [elemP_open d hs (by rw [hp1]; omega), hp1, show ((A.length + H.length : Nat) : Int) + (K.length : Int) = ((A.length + H.length + K.length : Nat) : Int) by omega, hk _ _ (Nat.le_refl _), if_neg (fun h => h rfl)]
 simp
theorem Fo.loop (f : Fo) : ∀ (A r : List Int) (d g : Nat) (acc : List Ev) (E : Nat), f.Ok → f.depth ≤ d → E = A.length + f.enc.length → f.count + 1 ≤ g →
  loopP (fun i => elemP (A ++ (f.enc ++ r)) d i (E : Int)) g ⟨acc, 0, A.length⟩ (E : Int) = ⟨acc ++ f.evs A.length, 0, E⟩ := by
 induction f with
 |nil =>
  intro A r d g acc E ho hd hE hg
  obtain ⟨g, rfl⟩ : ∃ k, g = k + 1 := ⟨g - 1, by omega⟩
  rw [loopP, if_neg (by show ¬ (A.length : Int) < E; simp [Fo.enc] at hE; omega)]
  simp [Fo.enc] at hE
  show _ = Told.mk (acc ++ []) 0 E
  rw [List.append_nil, hE]
 |leaf c t C s ih =>
  intro A r d g acc E ho hd hE hg
  obtain ⟨g, rfl⟩ : ∃ k, g = k + 1 := ⟨g - 1, by omega⟩
  have h2 := (hdPut_length (k := false) ho.1).1
  have hEl : E = A.length + (hdPut c t false (C.length : Int)).length + C.length + s.enc.length := by rw [hE]; simp [Fo.enc]; omega
  have hel := leaf_elem ho.1 A (s.enc ++ r) d (E : Int) (.inr (by omega))
  rw [show hdPut c t false (C.length : Int) ++ C ++ (s.enc ++ r) = (Fo.leaf c t C s).enc ++ r by simp [Fo.enc]] at hel
  rw [loopP, if_pos (by show (A.length : Int) < E; omega), hel, if_neg (fun h => h rfl)]
  have hi := ih (A ++ (hdPut c t false (C.length : Int) ++ C)) r d g (acc ++ (Fo.leaf c t C .nil).evs A.length) E ho.2.2 hd (by rw [hEl, List.length_append, List.length_append]; omega) (by have : s.count + 1 + 1 ≤ g + 1 := hg; omega)
  rw [show A ++ (hdPut c t false (C.length : Int) ++ C) ++ (s.enc ++ r) = A ++ ((Fo.leaf c t C s).enc ++ r) by simp [Fo.enc], show (A ++ (hdPut c t false (C.length : Int) ++ C)).length = A.length + (hdPut c t false (C.length : Int)).length + C.length by rw [List.length_append, List.length_append]; omega] at hi
  rw [hi]
  simp [Fo.evs]
 |node c t k s ihk ih =>
  intro A r d g acc E ho hd hE hg
  obtain ⟨g, rfl⟩ : ∃ k, g = k + 1 := ⟨g - 1, by omega⟩
  have hd1 : k.depth + 1 ≤ d := by have : max (k.depth + 1) s.depth ≤ d := hd; omega
  have hd2 : s.depth ≤ d := by have : max (k.depth + 1) s.depth ≤ d := hd; omega
  obtain ⟨d, rfl⟩ : ∃ q, d = q + 1 := ⟨d - 1, by omega⟩
  have h2 := (hdPut_length (k := true) ho.1).1
  have hEl : E = A.length + (hdPut c t true (k.enc.length : Int)).length + k.enc.length + s.enc.length := by rw [hE]; simp [Fo.enc]; omega
  have hel := node_elem (E := k.evs (A.length + (hdPut c t true (k.enc.length : Int)).length)) ho.1 A (s.enc ++ r) d (E : Int) (.inr (by omega)) (fun acc' g' hg' => by
   have hi := ihk (A ++ hdPut c t true (k.enc.length : Int)) (s.enc ++ r) d g' acc' (A.length + (hdPut c t true (k.enc.length : Int)).length + k.enc.length) ho.2.1 (by omega) (by rw [List.length_append]) (by
    have hc := k.len_count ho.2.1
    rw [List.length_append, List.length_append, List.length_append] at hg'
    omega)
   rw [show A ++ hdPut c t true (k.enc.length : Int) ++ (k.enc ++ (s.enc ++ r)) = A ++ (hdPut c t true (k.enc.length : Int) ++ k.enc ++ (s.enc ++ r)) by simp, show (A ++ hdPut c t true (k.enc.length : Int)).length = A.length + (hdPut c t true (k.enc.length : Int)).length by rw [List.length_append]] at hi
   exact hi)
  rw [show hdPut c t true (k.enc.length : Int) ++ k.enc ++ (s.enc ++ r) = (Fo.node c t k s).enc ++ r by simp [Fo.enc]] at hel
  rw [loopP, if_pos (by show (A.length : Int) < E; omega), hel, if_neg (fun h => h rfl)]
  have hi := ih (A ++ (hdPut c t true (k.enc.length : Int) ++ k.enc)) r (d + 1) g (acc ++ (evEnter (A.length + (hdPut c t true (k.enc.length : Int)).length - 1) c t true (k.enc.length : Int) :: (k.evs (A.length + (hdPut c t true (k.enc.length : Int)).length) ++ [evExit (A.length + (hdPut c t true (k.enc.length : Int)).length + k.enc.length - 1)]))) E ho.2.2 hd2 (by rw [hEl, List.length_append, List.length_append]; omega) (by have : s.count + 1 + 1 ≤ g + 1 := hg; omega)
  rw [show A ++ (hdPut c t true (k.enc.length : Int) ++ k.enc) ++ (s.enc ++ r) = A ++ ((Fo.node c t k s).enc ++ r) by simp [Fo.enc], show (A ++ (hdPut c t true (k.enc.length : Int) ++ k.enc)).length = A.length + (hdPut c t true (k.enc.length : Int)).length + k.enc.length by rw [List.length_append, List.length_append]; omega] at hi
  rw [hi]
  simp [Fo.evs]
end Go.Proofs.YtiiimhamfibdbaaGreat
/- One element as a tree: what a text of it is told to be; that nothing is wrong with it, if each content is right; that its bytes are its own. It holds of lists alone, under no condition on the program. -/
namespace Go.Proofs.YtiiimhamfibdbaaGreat
open Go.RowKit Go.PlainAid
set_option linter.unusedVariables false
theorem Fo.count0 {f : Fo} (h : f.count = 0) : f = .nil := by
 cases f with
 |nil => rfl
 |leaf c t C r => exact absurd h (Nat.succ_ne_zero _)
 |node c t k r => exact absurd h (Nat.succ_ne_zero _)
theorem Fo.elem {f : Fo} (ho : f.Ok) (h1 : f.count = 1) (r : List Int) (d : Nat) (hd : f.depth ≤ d) : elemP (f.enc ++ r) d 0 (-1) = ⟨f.evs 0, 0, f.enc.length⟩ := by
 cases f with
 |nil => cases h1
 |leaf c t C s =>
  obtain rfl := Fo.count0 (show s.count = 0 by have : s.count + 1 = 1 := h1; omega)
  have h := leaf_elem ho.1 [] r d (-1) (.inl rfl)
  have e : (Fo.leaf c t C .nil).enc = hdPut c t false (C.length : Int) ++ C := by simp [Fo.enc]
  rw [e]
  rw [List.nil_append, List.length_nil] at h
  rw [h, List.length_append]; simp
 |node c t k s =>
  obtain rfl := Fo.count0 (show s.count = 0 by have : s.count + 1 = 1 := h1; omega)
  have hd1 : k.depth + 1 ≤ d := by have : max (k.depth + 1) (Fo.nil).depth ≤ d := hd; omega
  obtain ⟨d, rfl⟩ : ∃ q, d = q + 1 := ⟨d - 1, by omega⟩
  have e : (Fo.node c t k .nil).enc = hdPut c t true (k.enc.length : Int) ++ k.enc := by simp [Fo.enc]
  have h := node_elem (E := k.evs (hdPut c t true (k.enc.length : Int)).length) ho.1 [] r d (-1) (.inl rfl) (fun acc' g' hg' => by
   have hi := Fo.loop k (hdPut c t true (k.enc.length : Int)) r d g' acc' ((hdPut c t true (k.enc.length : Int)).length + k.enc.length) ho.2.1 (by omega) rfl (by
    have hc := k.len_count ho.2.1
    rw [List.nil_append, List.length_append, List.length_append] at hg'
    omega)
   simp only [List.nil_append, List.length_nil, Nat.zero_add]
   rw [show hdPut c t true (k.enc.length : Int) ++ k.enc ++ r = hdPut c t true (k.enc.length : Int) ++ (k.enc ++ r) by simp]
   exact hi)
  rw [e]
  rw [List.nil_append, List.length_nil] at h
  rw [h, List.length_append]
  simp [Fo.evs]
theorem Fo.whole {f : Fo} (ho : f.Ok) (h1 : f.count = 1) (d : Nat) (hd : f.depth ≤ d) : evWhole d f.enc = (f.evs 0, 0, f.enc.length) := by
 have h := Fo.elem ho h1 [] d hd
 rw [List.append_nil] at h
 rw [whole_is f.enc (Fo.isB ho) d, h, if_neg (fun q => absurd q.2 (Nat.lt_irrefl _))]
def Fo.Good : Fo → Prop
 |.nil => True
 |.leaf c t C r => (c ≠ 0 ∨ (t ≠ 0 ∧ t ≠ 16 ∧ t ≠ 17 ∧ vW t (C.length : Int) C < 0)) ∧ r.Good
 |.node c t k r => (c ≠ 0 ∨ t = 16 ∨ t = 17) ∧ k.Good ∧ r.Good
theorem Fo.good_app {f s : Fo} (h : f.Good) (k : s.Good) : (f.app s).Good := by
 induction f with
 |nil => exact k
 |leaf c t C r ih => exact ⟨h.1, ih h.2⟩
 |node c t l r _ ih => exact ⟨h.1, h.2.1, ih h.2.2⟩
theorem cameL_bytes (C : List Int) (X : List Ev) (hX : cameL X = []) : ∀ p, cameL (bytesE C p ++ X) = C := by
 induction C with
 |nil => intro p; exact hX
 |cons x C ih => intro p; show cameL (evByte p x :: (bytesE C (p + 1) ++ X)) = _; rw [cameL_of rfl, ih]; rfl
theorem vF_ok {e : Ev} {r : List Ev} (h : vEv e r < 0) (hr : vF r < 0) : vF (e :: r) < 0 := by
 rw [vF, if_neg (by omega), if_neg (by omega)]; decide
theorem vF_bytes (C : List Int) (X : List Ev) (hX : vF X < 0) : ∀ p, vF (bytesE C p ++ X) < 0 := by
 induction C with
 |nil => intro p; exact hX
 |cons x C ih => intro p; exact vF_ok (by unfold vEv evByte; simp) (ih _)
theorem Fo.vF_evs (f : Fo) : ∀ (p : Nat) (X : List Ev), f.Good → vF X < 0 → vF (f.evs p ++ X) < 0 := by
 induction f with
 |nil => intro p X _ hX; exact hX
 |leaf c t C r ih =>
  intro p X hg hX
  show vF (_ :: ((_ ++ evEnd _ :: r.evs _) ++ X)) < 0
  rw [List.append_assoc, List.cons_append]
  refine vF_ok ?_ (vF_bytes C _ (vF_ok (by unfold vEv evEnd; simp) (ih _ _ hg.2 hX)) _)
  unfold vEv
  rcases hg.1 with h | ⟨h0, h16, h17, hw⟩
  ·rw [if_pos (by exact h)]; decide
  ·by_cases hc : c = 0
   ·rw [if_neg (by show ¬ c ≠ 0; omega), if_neg (by show ¬ (2 : Int) = 1; decide), if_neg (by show ¬ (2 : Int) ≠ 2; decide), if_neg (by show ¬ (t = 0 ∨ t = 16 ∨ t = 17); omega), cameL_bytes C _ (by rw [cameL, if_neg (by show ¬ (4 : Int) = 3; decide)])]
    exact hw
   ·rw [if_pos (by exact hc)]; decide
 |node c t k r ihk ih =>
  intro p X hg hX
  show vF (_ :: ((k.evs _ ++ evExit _ :: r.evs _) ++ X)) < 0
  rw [List.append_assoc, List.cons_append]
  refine vF_ok ?_ (ihk _ _ hg.2.1 (vF_ok (by unfold vEv evExit; simp) (ih _ _ hg.2.2 hX)))
  unfold vEv
  by_cases hc : c = 0
  ·rw [if_neg (by show ¬ c ≠ 0; omega), if_pos (by show (1 : Int) = 1; rfl), if_pos]
   ·decide
   ·rcases hg.1 with h | h
    ·exact absurd hc h
    ·exact h
  ·rw [if_pos (by exact hc)]; decide
theorem Fo.val {f : Fo} (ho : f.Ok) (h1 : f.count = 1) (hg : f.Good) (dep : Int) (hd : f.depth ≤ evMost dep) : evW (strOfNums f.enc) dep = (f.evs 0, 0, f.enc.length) ∧ valW (strOfNums f.enc) dep = (0, (f.enc.length : Int)) := by
 have he : evW (strOfNums f.enc) dep = (f.evs 0, 0, f.enc.length) := by
  unfold evW
  rw [bl_str (Fo.isB ho)]
  exact Fo.whole ho h1 _ hd
 refine ⟨he, valW_good he ?_⟩
 have := Fo.vF_evs f 0 [] hg (by decide)
 rwa [List.append_nil] at this
/-! ### Its bytes are its own -/
end Go.Proofs.YtiiimhamfibdbaaGreat
/- Lists of revoked certificates as values, and their elements: in plain words. -/
namespace Go.Proofs.YtiiimhamfibdbaaGreat
open Go.RowKit Go.PlainAid
set_option linter.unusedVariables false
structure AttrV where
 oid : List Int
 tag : Int
 text : ByteArray
structure ExtV where
 oid : List Int
 crit : Bool
 val : ByteArray
structure EntryV where
 serial : ByteArray
 date : ByteArray
 exts : List ExtV
structure CrlV where
 v2 : Bool
 alg : List Int
 issuer : List (List AttrV)
 this : ByteArray
 next : ByteArray
 entries : List EntryV
 exts : List ExtV
 sig : ByteArray
def lf (t : Int) (C : List Int) : Fo := .leaf 0 t C .nil
def sq (k : Fo) : Fo := .node 0 16 k .nil
def joinF : List Fo → Fo
 |[] => .nil
 |f :: r => f.app (joinF r)
def encS (f : Fo) : ByteArray := strOfNums f.enc
/-! ### names -/
def attrOk (a : AttrV) : Bool := arcsOk a.oid && decide (a.tag = 12 ∨ a.tag = 19 ∨ a.tag = 22) && decide (rightT a.tag (bl a.text))
def attrF (a : AttrV) : Fo := sq (.leaf 0 6 (oL a.oid) (lf a.tag (bl a.text)))
def insF (out : List Fo) (x : Fo) : List Fo := out.take (kO (out.map encS) (encS x) out.length) ++ x :: out.drop (kO (out.map encS) (encS x) out.length)
def sortF (l : List Fo) : List Fo := l.foldl insF []
theorem insF_map (out : List Fo) (x : Fo) : (insF out x).map encS = insP (out.map encS) (encS x) := by
 unfold insF insP
 rw [List.map_append, List.map_cons, List.map_take, List.map_drop, List.length_map]
theorem sortF_map (l : List Fo) : (sortF l).map encS = sortS (l.map encS) := by
 have h : ∀ (l acc : List Fo), (l.foldl insF acc).map encS = (l.map encS).foldl insP (acc.map encS) := by
  intro l
  induction l with
  |nil => intro acc; rfl
  |cons x l ih => intro acc; rw [List.foldl_cons, ih, insF_map]; rfl
 exact h l []
theorem insF_mem {out : List Fo} {x y : Fo} : y ∈ insF out x ↔ y ∈ out ∨ y = x := by
 unfold insF
 rw [List.mem_append, List.mem_cons]
 have : ∀ k, y ∈ out ↔ y ∈ out.take k ∨ y ∈ out.drop k := fun k => by rw [← List.mem_append, List.take_append_drop]
 rw [this (kO (out.map encS) (encS x) out.length)]
 constructor
 ·rintro (h | h | h)
  ·exact .inl (.inl h)
  ·exact .inr h
  ·exact .inl (.inr h)
 ·rintro ((h | h) | h)
  ·exact .inl h
  ·exact .inr (.inr h)
  ·exact .inr (.inl h)
theorem sortF_mem (l : List Fo) (y : Fo) : y ∈ sortF l ↔ y ∈ l := by
 have h : ∀ (l acc : List Fo), y ∈ l.foldl insF acc ↔ y ∈ acc ∨ y ∈ l := by
  intro l
  induction l with
  |nil => intro acc; simp
  |cons x l ih =>
   intro acc
   rw [List.foldl_cons, ih, insF_mem, List.mem_cons]
   constructor
   ·rintro ((h | h) | h)
    ·exact .inl h
    ·exact .inr (.inl h)
    ·exact .inr (.inr h)
   ·rintro (h | h | h)
    ·exact .inl (.inl h)
    ·exact .inl (.inr h)
    ·exact .inr h
 have := h l []
 unfold sortF
 simpa using this
theorem sortF_len (l : List Fo) : (sortF l).length = l.length := by
 have := congrArg List.length (sortF_map l)
 rw [List.length_map, sortS_len, List.length_map] at this
 exact this
def setOk (l : List AttrV) : Bool := !l.isEmpty && l.all attrOk
def setF (l : List AttrV) : Fo := .node 0 17 (joinF (sortF (l.map attrF))) .nil
def nameOk (l : List (List AttrV)) : Bool := l.all setOk
def nameF (l : List (List AttrV)) : Fo := sq (joinF (l.map setF))
/-! ### extensions, times, entries -/
def extOk (x : ExtV) : Bool := arcsOk x.oid
def extF (x : ExtV) : Fo := sq (.leaf 0 6 (oL x.oid) ((if x.crit = true then lf 1 [255] else .nil).app (lf 4 (bl x.val))))
def extsOk (l : List ExtV) : Bool := !l.isEmpty && l.all extOk
def extsF (l : List ExtV) : Fo := sq (joinF (l.map extF))
def dateF (d : ByteArray) : Fo := lf (wTag d) (bl (wC d))
def serOk (s : ByteArray) : Bool := decide (0 < s.size ∧ nmWrong 2 s.size s = -1)
def entryOk (x : EntryV) : Bool := serOk x.serial && wOk x.date && (x.exts.isEmpty || extsOk x.exts)
def entryF (x : EntryV) : Fo := sq (.leaf 0 2 (bl x.serial) ((dateF x.date).app (if x.exts.isEmpty = true then .nil else extsF x.exts)))
/-! ### lists -/
def algF (l : List Int) : Fo := sq (.leaf 0 6 (oL l) (lf 5 []))
def CrlV.valOk (c : CrlV) : Bool := arcsOk c.alg && nameOk c.issuer && wOk c.this && (decide (c.next.size = 0) || wOk c.next) && c.entries.all entryOk && (c.exts.isEmpty || extsOk c.exts)
def CrlV.has (c : CrlV) : Bool := !c.exts.isEmpty || c.entries.any (fun x => !x.exts.isEmpty)
def tbsE (c : CrlV) : Int := if c.valOk = false then 7 else if c.has = true ∧ c.v2 = false then 8 else 0
def tbsK (c : CrlV) : Fo :=
 (if c.v2 = true then lf 2 [1] else .nil).app ((algF c.alg).app ((nameF c.issuer).app ((dateF c.this).app ((if c.next.size = 0 then .nil else dateF c.next).app
  ((if c.entries.isEmpty = true then .nil else sq (joinF (c.entries.map entryF))).app (if c.exts.isEmpty = true then .nil else .node 2 0 (extsF c.exts) .nil))))))
def tbsF (c : CrlV) : Fo := sq (tbsK c)
def crlF (c : CrlV) : Fo := sq ((tbsF c).app ((algF c.alg).app (lf 3 (0 :: bl c.sig))))
def tbsS (c : CrlV) : ByteArray := if tbsE c = 0 then encS (tbsF c) else ⟨#[]⟩
def crlS (c : CrlV) : ByteArray := if tbsE c = 0 then encS (crlF c) else ⟨#[]⟩
def nameS (l : List (List AttrV)) : ByteArray := if nameOk l = true then encS (nameF l) else ⟨#[]⟩
def extsS (l : List ExtV) : ByteArray := if extsOk l = true then encS (extsF l) else ⟨#[]⟩
/-! ### what they are made of -/
theorem joinF_depth (l : List Fo) (d : Nat) (h : ∀ f ∈ l, f.depth ≤ d) : (joinF l).depth ≤ d := by
 induction l with
 |nil => exact Nat.zero_le _
 |cons f r ih =>
  show (f.app (joinF r)).depth ≤ d
  rw [Fo.depth_app]
  have h1 := h f (List.mem_cons_self ..)
  have h2 := ih (fun g hg => h g (List.mem_cons_of_mem _ hg))
  omega
theorem joinF_good (l : List Fo) (h : ∀ f ∈ l, f.Good) : (joinF l).Good := by
 induction l with
 |nil => trivial
 |cons f r ih => exact Fo.good_app (h f (List.mem_cons_self ..)) (ih (fun g hg => h g (List.mem_cons_of_mem _ hg)))
def Fo.Pre : Fo → Prop
 |.nil => True
 |.leaf c t C r => idOk c t = true ∧ IsB C ∧ r.Pre
 |.node c t k r => idOk c t = true ∧ k.Pre ∧ r.Pre
theorem Fo.pre_app {f s : Fo} (h : f.Pre) (k : s.Pre) : (f.app s).Pre := by
 induction f with
 |nil => exact k
 |leaf c t C r ih => exact ⟨h.1, h.2.1, ih h.2.2⟩
 |node c t l r _ ih => exact ⟨h.1, h.2.1, ih h.2.2⟩
theorem joinF_pre (l : List Fo) (h : ∀ f ∈ l, f.Pre) : (joinF l).Pre := by
 induction l with
 |nil => trivial
 |cons f r ih => exact Fo.pre_app (h f (List.mem_cons_self ..)) (ih (fun g hg => h g (List.mem_cons_of_mem _ hg)))
theorem Fo.ok_of (f : Fo) (h : f.Pre) (hl : f.enc.length ≤ 2305843009213693951) : f.Ok := by
 induction f with
 |nil => trivial
 |leaf c t C r ih =>
  have e : (hdPut c t false (C.length : Int) ++ C ++ r.enc).length ≤ 2305843009213693951 := hl
  rw [List.length_append, List.length_append] at e
  refine ⟨?_, h.2.1, ih h.2.2 (by omega)⟩
  rw [hdOk_iff]
  exact ⟨h.1, by unfold lenOk; simp; omega⟩
 |node c t k r ihk ih =>
  have e : (hdPut c t true (k.enc.length : Int) ++ k.enc ++ r.enc).length ≤ 2305843009213693951 := hl
  rw [List.length_append, List.length_append] at e
  refine ⟨?_, ihk h.2.1 (by omega), ih h.2.2 (by omega)⟩
  rw [hdOk_iff]
  exact ⟨h.1, by unfold lenOk; simp; omega⟩
end Go.Proofs.YtiiimhamfibdbaaGreat
/- Lists of revoked certificates as elements: they may be, their contents are right, and they are no deeper than six. In plain words. -/
namespace Go.Proofs.YtiiimhamfibdbaaGreat
open Go.RowKit Go.PlainAid
set_option linter.unusedVariables false
theorem idOk_leaf {t : Int} (h0 : 0 ≤ t) (h1 : t ≤ 268435455) : idOk 0 t = true := by rw [idOk_iff]; omega
theorem lf_pre {t : Int} {C : List Int} (h0 : 0 ≤ t) (h1 : t ≤ 268435455) (hC : IsB C) : (lf t C).Pre := ⟨idOk_leaf h0 h1, hC, trivial⟩
theorem sq_pre {k : Fo} (h : k.Pre) : (sq k).Pre := ⟨by decide, h, trivial⟩
theorem oid_pre {l : List Int} {r : Fo} (h : r.Pre) : (Fo.leaf 0 6 (oL l) r).Pre := ⟨by decide, oL_isB l, h⟩
theorem wTag_bd (d : ByteArray) : wTag d = 23 ∨ wTag d = 24 := by unfold wTag; split; exact .inl rfl; exact .inr rfl
theorem dateF_pre (d : ByteArray) : (dateF d).Pre := by
 have := wTag_bd d
 exact lf_pre (by omega) (by omega) (bl_isB _)
theorem attrOk_iff {a : AttrV} : attrOk a = true ↔ arcsOk a.oid = true ∧ (a.tag = 12 ∨ a.tag = 19 ∨ a.tag = 22) ∧ rightT a.tag (bl a.text) := by
 unfold attrOk
 rw [Bool.and_eq_true, Bool.and_eq_true, decide_eq_true_eq, decide_eq_true_eq, and_assoc]
theorem attrF_pre {a : AttrV} (h : attrOk a = true) : (attrF a).Pre := by
 obtain ⟨_, h2, _⟩ := attrOk_iff.1 h
 exact sq_pre (oid_pre (lf_pre (by omega) (by omega) (bl_isB _)))
theorem setOk_iff {l : List AttrV} : setOk l = true ↔ l ≠ [] ∧ ∀ a ∈ l, attrOk a = true := by
 unfold setOk
 rw [Bool.and_eq_true, List.all_eq_true]
 cases l <;> simp
theorem extsOk_iff {l : List ExtV} : extsOk l = true ↔ l ≠ [] ∧ ∀ a ∈ l, extOk a = true := by
 unfold extsOk
 rw [Bool.and_eq_true, List.all_eq_true]
 cases l <;> simp
theorem nameOk_iff {l : List (List AttrV)} : nameOk l = true ↔ ∀ s ∈ l, setOk s = true := by unfold nameOk; rw [List.all_eq_true]
theorem setF_pre {l : List AttrV} (h : setOk l = true) : (setF l).Pre := by
 obtain ⟨_, h2⟩ := setOk_iff.1 h
 refine ⟨by decide, joinF_pre _ (fun f hf => ?_), trivial⟩
 obtain ⟨a, ha, rfl⟩ := List.mem_map.1 ((sortF_mem _ f).1 hf)
 exact attrF_pre (h2 a ha)
theorem nameF_pre {l : List (List AttrV)} (h : nameOk l = true) : (nameF l).Pre :=
 sq_pre (joinF_pre _ (fun f hf => by
  obtain ⟨s, hs, rfl⟩ := List.mem_map.1 hf
  exact setF_pre (nameOk_iff.1 h s hs)))
theorem extF_pre (x : ExtV) : (extF x).Pre := by
 refine sq_pre (oid_pre (Fo.pre_app ?_ (lf_pre (by decide) (by decide) (bl_isB _))))
 split
 ·exact lf_pre (by decide) (by decide) (fun x hx => by simp at hx; omega)
 ·trivial
theorem extsF_pre (l : List ExtV) : (extsF l).Pre :=
 sq_pre (joinF_pre _ (fun f hf => by
  obtain ⟨s, hs, rfl⟩ := List.mem_map.1 hf
  exact extF_pre s))
theorem entryF_pre (x : EntryV) : (entryF x).Pre := by
 refine sq_pre ⟨by decide, bl_isB _, Fo.pre_app (dateF_pre _) ?_⟩
 split
 ·trivial
 ·exact extsF_pre _
theorem algF_pre (l : List Int) : (algF l).Pre := sq_pre (oid_pre (lf_pre (by decide) (by decide) IsB.nil))
theorem tbsF_pre {c : CrlV} (h : c.valOk = true) : (tbsF c).Pre := by
 unfold CrlV.valOk at h
 simp only [Bool.and_eq_true] at h
 have hn := h.1.1.1.1.2
 refine sq_pre (Fo.pre_app ?_ (Fo.pre_app (algF_pre _) (Fo.pre_app (nameF_pre hn) (Fo.pre_app (dateF_pre _) (Fo.pre_app ?_ (Fo.pre_app ?_ ?_))))))
 ·split
  ·exact lf_pre (by decide) (by decide) (fun x hx => by simp at hx; omega)
  ·trivial
 ·split
  ·trivial
  ·exact dateF_pre _
 ·split
  ·trivial
  ·refine sq_pre (joinF_pre _ (fun f hf => ?_))
   obtain ⟨s, hs, rfl⟩ := List.mem_map.1 hf
   exact entryF_pre s
 ·split
  ·trivial
  ·exact ⟨by decide, extsF_pre _, trivial⟩
theorem crlF_pre {c : CrlV} (h : c.valOk = true) : (crlF c).Pre :=
 sq_pre (Fo.pre_app (tbsF_pre h) (Fo.pre_app (algF_pre _) (lf_pre (by decide) (by decide) (IsB.cons (by decide) (by decide) (bl_isB _)))))
/-! ### depth -/
theorem lf_depth (t : Int) (C : List Int) : (lf t C).depth = 0 := rfl
theorem sq_depth (k : Fo) : (sq k).depth = k.depth + 1 := by show max (k.depth + 1) 0 = _; omega
theorem leaf_depth (c t : Int) (C : List Int) (r : Fo) : (Fo.leaf c t C r).depth = r.depth := rfl
theorem nil_depth : Fo.nil.depth = 0 := rfl
theorem extF_depth (x : ExtV) : (extF x).depth ≤ 1 := by
 unfold extF
 rw [sq_depth, leaf_depth, Fo.depth_app, lf_depth]
 split <;> simp [lf_depth, nil_depth]
theorem extsF_depth (l : List ExtV) : (extsF l).depth ≤ 2 := by
 unfold extsF
 rw [sq_depth]
 have := joinF_depth (l.map extF) 1 (fun f hf => by obtain ⟨s, _, rfl⟩ := List.mem_map.1 hf; exact extF_depth s)
 omega
theorem entryF_depth (x : EntryV) : (entryF x).depth ≤ 3 := by
 unfold entryF dateF
 rw [sq_depth, leaf_depth, Fo.depth_app, lf_depth]
 have := extsF_depth x.exts
 split <;> (try simp only [nil_depth]) <;> omega
theorem attrF_depth (a : AttrV) : (attrF a).depth = 1 := by unfold attrF; rw [sq_depth, leaf_depth, lf_depth]
theorem setF_depth (l : List AttrV) : (setF l).depth ≤ 2 := by
 have := joinF_depth (sortF (l.map attrF)) 1 (fun f hf => by obtain ⟨a, _, rfl⟩ := List.mem_map.1 ((sortF_mem _ f).1 hf); exact Nat.le_of_eq (attrF_depth a))
 show max ((joinF (sortF (l.map attrF))).depth + 1) 0 ≤ 2
 omega
theorem nameF_depth (l : List (List AttrV)) : (nameF l).depth ≤ 3 := by
 unfold nameF
 rw [sq_depth]
 have := joinF_depth (l.map setF) 2 (fun f hf => by obtain ⟨s, _, rfl⟩ := List.mem_map.1 hf; exact setF_depth s)
 omega
theorem algF_depth (l : List Int) : (algF l).depth = 1 := by unfold algF; rw [sq_depth, leaf_depth, lf_depth]
theorem tbsF_depth (c : CrlV) : (tbsF c).depth ≤ 5 := by
 unfold tbsF tbsK
 rw [sq_depth]
 simp only [Fo.depth_app]
 have h1 := algF_depth c.alg
 have h2 := nameF_depth c.issuer
 have h3 : (joinF (c.entries.map entryF)).depth ≤ 3 := joinF_depth _ 3 (fun f hf => by obtain ⟨s, _, rfl⟩ := List.mem_map.1 hf; exact entryF_depth s)
 have h4 := extsF_depth c.exts
 have a1 : (if c.v2 = true then lf 2 [1] else Fo.nil).depth = 0 := by split <;> rfl
 have a2 : (dateF c.this).depth = 0 := rfl
 have a3 : (if c.next.size = 0 then Fo.nil else dateF c.next).depth = 0 := by split <;> rfl
 have a4 : (if c.entries.isEmpty = true then Fo.nil else sq (joinF (c.entries.map entryF))).depth ≤ 4 := by
  split
  ·exact Nat.zero_le _
  ·rw [sq_depth]; omega
 have a5 : (if c.exts.isEmpty = true then Fo.nil else Fo.node 2 0 (extsF c.exts) .nil).depth ≤ 3 := by
  split
  ·exact Nat.zero_le _
  ·show max ((extsF c.exts).depth + 1) 0 ≤ 3; omega
 omega
theorem crlF_depth (c : CrlV) : (crlF c).depth ≤ 6 := by
 unfold crlF
 rw [sq_depth, Fo.depth_app, Fo.depth_app, algF_depth, lf_depth]
 have := tbsF_depth c
 omega
/-! ### contents that are right -/
theorem fW_oid {l : List Int} (h : arcsOk l = true) : vW 6 ((oL l).length : Int) (oL l) < 0 := by
 unfold vW
 rw [if_neg (by decide), if_pos rfl, (oL_right l h).2]; decide
theorem fW_text {t : Int} {l : List Int} (ht : t ≠ 1 ∧ t ≠ 2 ∧ t ≠ 5 ∧ t ≠ 10 ∧ t ≠ 6 ∧ t ≠ 3 ∧ t ≠ 23 ∧ t ≠ 24) (h : rightT t l) : vW t (l.length : Int) l < 0 := by
 unfold vW
 rw [if_neg (by omega), if_neg (by omega), if_neg (by omega), if_neg (by omega), (tx_right t l).1 h]; decide
theorem vW_date {d : ByteArray} (h : wOk d = true) : vW (wTag d) ((bl (wC d)).length : Int) (bl (wC d)) < 0 := by
 have := wTag_bd d
 unfold vW
 rw [if_neg (by omega), if_neg (by omega), if_neg (by omega), if_pos this, (wh_right (wTag d) (bl (wC d))).1 (w_put h).1]; decide
theorem vW_int {s : ByteArray} (h : serOk s = true) : vW 2 ((bl s).length : Int) (bl s) < 0 := by
 unfold serOk at h
 rw [decide_eq_true_eq] at h
 have h2 := h.2
 unfold nmWrong at h2
 rw [bt_g, bt_g] at h2
 unfold vW nWl
 rw [if_pos (by decide), bl_length, h2]; decide
theorem fW_bits (l : List Int) : vW 3 ((0 :: l).length : Int) (0 :: l) < 0 := by
 unfold vW bWl
 rw [if_neg (by decide), if_neg (by decide), if_pos rfl, if_neg (by rw [List.length_cons]; omega)]
 have e : g (0 :: l) 0 = 0 := rfl
 rw [e, if_neg (by rw [cB_zero]; simp), if_neg (by rw [cE_zero]; simp)]; decide
theorem lf_good {t : Int} {C : List Int} (ht : t ≠ 0 ∧ t ≠ 16 ∧ t ≠ 17) (h : vW t (C.length : Int) C < 0) : (lf t C).Good := ⟨.inr ⟨ht.1, ht.2.1, ht.2.2, h⟩, trivial⟩
theorem oid_good {l : List Int} {r : Fo} (h : arcsOk l = true) (hr : r.Good) : (Fo.leaf 0 6 (oL l) r).Good := ⟨.inr ⟨by decide, by decide, by decide, fW_oid h⟩, hr⟩
theorem sq_good {k : Fo} (h : k.Good) : (sq k).Good := ⟨.inr (.inl rfl), h, trivial⟩
theorem dateF_good {d : ByteArray} (h : wOk d = true) : (dateF d).Good := by
 have := wTag_bd d
 exact lf_good (by omega) (vW_date h)
theorem attrF_good {a : AttrV} (h : attrOk a = true) : (attrF a).Good := by
 obtain ⟨h1, h2, h3⟩ := attrOk_iff.1 h
 exact sq_good (oid_good h1 (lf_good (by omega) (fW_text (by omega) h3)))
theorem setF_good {l : List AttrV} (h : setOk l = true) : (setF l).Good := by
 obtain ⟨_, h2⟩ := setOk_iff.1 h
 refine ⟨.inr (.inr rfl), joinF_good _ (fun f hf => ?_), trivial⟩
 obtain ⟨a, ha, rfl⟩ := List.mem_map.1 ((sortF_mem _ f).1 hf)
 exact attrF_good (h2 a ha)
theorem nameF_good {l : List (List AttrV)} (h : nameOk l = true) : (nameF l).Good :=
 sq_good (joinF_good _ (fun f hf => by
  obtain ⟨s, hs, rfl⟩ := List.mem_map.1 hf
  exact setF_good (nameOk_iff.1 h s hs)))
theorem octets_right (l : List Int) : rightT 4 l := by
 rw [right_plain (by decide)]
 exact fun x _ => ⟨fun h => absurd h (by decide), fun h => absurd h (by decide)⟩
theorem extF_good {x : ExtV} (h : extOk x = true) : (extF x).Good := by
 refine sq_good (oid_good h (Fo.good_app ?_ (lf_good (by decide) (fW_text (by decide) (octets_right _)))))
 split
 ·exact lf_good (by decide) (by decide)
 ·trivial
theorem extsF_good {l : List ExtV} (h : extsOk l = true) : (extsF l).Good :=
 sq_good (joinF_good _ (fun f hf => by
  obtain ⟨s, hs, rfl⟩ := List.mem_map.1 hf
  exact extF_good ((extsOk_iff.1 h).2 s hs)))
theorem some_exts {l : List ExtV} (h : (l.isEmpty || extsOk l) = true) (he : ¬ l.isEmpty = true) : extsOk l = true := by
 rw [Bool.or_eq_true] at h
 rcases h with h | h
 ·exact absurd h he
 ·exact h
theorem entryOk_iff {x : EntryV} : entryOk x = true ↔ serOk x.serial = true ∧ wOk x.date = true ∧ (x.exts.isEmpty || extsOk x.exts) = true := by
 unfold entryOk
 rw [Bool.and_eq_true, Bool.and_eq_true, and_assoc]
theorem entryF_good {x : EntryV} (h : entryOk x = true) : (entryF x).Good := by
 obtain ⟨h1, h2, h3⟩ := entryOk_iff.1 h
 refine sq_good ⟨.inr ⟨by decide, by decide, by decide, vW_int h1⟩, Fo.good_app (dateF_good h2) ?_⟩
 split
 ·trivial
 ·rename_i he; exact extsF_good (some_exts h3 he)
theorem algF_good {l : List Int} (h : arcsOk l = true) : (algF l).Good := sq_good (oid_good h (lf_good (by decide) (by decide)))
theorem tbsF_good {c : CrlV} (h : c.valOk = true) : (tbsF c).Good := by
 unfold CrlV.valOk at h
 simp only [Bool.and_eq_true, List.all_eq_true] at h
 obtain ⟨⟨⟨⟨⟨h1, h2⟩, h3⟩, h4⟩, h5⟩, h6⟩ := h
 refine sq_good (Fo.good_app ?_ (Fo.good_app (algF_good h1) (Fo.good_app (nameF_good h2) (Fo.good_app (dateF_good h3) (Fo.good_app ?_ (Fo.good_app ?_ ?_))))))
 ·split
  ·exact lf_good (by decide) (by decide)
  ·trivial
 ·split
  ·trivial
  ·rename_i he
   rw [Bool.or_eq_true, decide_eq_true_eq] at h4
   rcases h4 with h4 | h4
   ·exact absurd h4 he
   ·exact dateF_good h4
 ·split
  ·trivial
  ·refine sq_good (joinF_good _ (fun f hf => ?_))
   obtain ⟨s, hs, rfl⟩ := List.mem_map.1 hf
   exact entryF_good (h5 s hs)
 ·split
  ·trivial
  ·rename_i he; exact ⟨.inl (by decide), extsF_good (some_exts h6 he), trivial⟩
theorem crlF_good {c : CrlV} (h : c.valOk = true) : (crlF c).Good := by
 have h1 : arcsOk c.alg = true := by
  unfold CrlV.valOk at h
  simp only [Bool.and_eq_true] at h
  exact h.1.1.1.1.1
 exact sq_good (Fo.good_app (tbsF_good h) (Fo.good_app (algF_good h1) (lf_good (by decide) (fW_bits _))))
end Go.Proofs.YtiiimhamfibdbaaGreat
/- Lists within the sizes that layer 19's statements name: how long their elements are. In plain words. -/
namespace Go.Proofs.YtiiimhamfibdbaaGreat
open Go.RowKit Go.PlainAid
set_option linter.unusedVariables false
structure ExtV.Small (x : ExtV) : Prop where
 oid : x.oid.length ≤ 20
 oin : ∀ y ∈ x.oid, inK .u64 y
 val : x.val.size ≤ 200
structure AttrV.Small (a : AttrV) : Prop where
 oid : a.oid.length ≤ 20
 oin : ∀ y ∈ a.oid, inK .u64 y
 text : a.text.size ≤ 100
structure EntryV.Small (x : EntryV) : Prop where
 serial : x.serial.size ≤ 60
 date : x.date.size ≤ 50
 many : x.exts.length ≤ 10
 exts : ∀ y ∈ x.exts, y.Small
structure CrlV.Small (c : CrlV) : Prop where
 alg : c.alg.length ≤ 20
 ain : ∀ y ∈ c.alg, inK .u64 y
 sets : c.issuer.length ≤ 8
 attrs : ∀ s ∈ c.issuer, s.length ≤ 8 ∧ ∀ a ∈ s, a.Small
 this : c.this.size ≤ 50
 next : c.next.size ≤ 50
 many : c.entries.length ≤ 12
 entries : ∀ x ∈ c.entries, x.Small
 few : c.exts.length ≤ 10
 exts : ∀ x ∈ c.exts, x.Small
 sig : c.sig.size ≤ 300
theorem flat_le (l : List Int) (h : ∀ x ∈ l, x ≤ 18446744073709551615) : (l.flatMap oB).length ≤ 10 * l.length := by
 induction l with
 |nil => exact Nat.le_refl _
 |cons x l ih =>
  rw [List.flatMap_cons, List.length_append, List.length_cons]
  have h1 := oB_le x (h x (List.mem_cons_self ..))
  have h2 := ih (fun y hy => h y (List.mem_cons_of_mem _ hy))
  omega
theorem oL_le {l : List Int} (h : arcsOk l = true) (hl : l.length ≤ 20) (hi : ∀ y ∈ l, inK .u64 y) : (oL l).length ≤ 200 := by
 obtain ⟨a, b, r, rfl⟩ := arcsOk_two h
 obtain ⟨h0, h1, h2, h3⟩ := (arcsOk_iff a b r).1 h
 have hb := hi b (by simp)
 have hb0 : 0 ≤ b := hb.1
 have hb1 : b ≤ 18446744073709551615 := hb.2
 show (oB (40 * a + b) ++ r.flatMap oB).length ≤ 200
 rw [List.length_append]
 have e1 := oB_le (40 * a + b) (by omega)
 have e2 := flat_le r (fun x hx => (hi x (by simp [hx])).2)
 rw [List.length_cons, List.length_cons] at hl
 omega
theorem hd_len {c t : Int} {f : Bool} {n : Nat} (h : idOk c t = true) (hn : n ≤ 1000000000) : 2 ≤ (hdPut c t f (n : Int)).length ∧ (hdPut c t f (n : Int)).length ≤ 14 :=
 hdPut_length (by rw [hdOk_iff]; exact ⟨h, by rw [lenOk_iff]; omega⟩)
theorem fleaf_len {c t : Int} {C : List Int} {r : Fo} (h : idOk c t = true) (hn : C.length ≤ 1000000) : C.length + r.enc.length + 2 ≤ (Fo.leaf c t C r).enc.length ∧ (Fo.leaf c t C r).enc.length ≤ C.length + 14 + r.enc.length := by
 have := hd_len (f := false) h (n := C.length) (by omega)
 show _ ≤ (hdPut c t false (C.length : Int) ++ C ++ r.enc).length ∧ (hdPut c t false (C.length : Int) ++ C ++ r.enc).length ≤ _
 rw [List.length_append, List.length_append]; omega
theorem fnode_len {c t : Int} {k r : Fo} (h : idOk c t = true) (hn : k.enc.length ≤ 1000000) : k.enc.length + r.enc.length + 2 ≤ (Fo.node c t k r).enc.length ∧ (Fo.node c t k r).enc.length ≤ k.enc.length + 14 + r.enc.length := by
 have := hd_len (f := true) h (n := k.enc.length) (by omega)
 show _ ≤ (hdPut c t true (k.enc.length : Int) ++ k.enc ++ r.enc).length ∧ (hdPut c t true (k.enc.length : Int) ++ k.enc ++ r.enc).length ≤ _
 rw [List.length_append, List.length_append]; omega
theorem lf_len {t : Int} {C : List Int} (h0 : 0 ≤ t) (h1 : t ≤ 268435455) (hn : C.length ≤ 1000000) : C.length + 2 ≤ (lf t C).enc.length ∧ (lf t C).enc.length ≤ C.length + 14 := fleaf_len (r := .nil) (idOk_leaf h0 h1) hn
theorem sq_len {k : Fo} (hn : k.enc.length ≤ 1000000) : k.enc.length + 2 ≤ (sq k).enc.length ∧ (sq k).enc.length ≤ k.enc.length + 14 := fnode_len (c := 0) (t := 16) (r := .nil) (by decide) hn
theorem app_len (f s : Fo) : (f.app s).enc.length = f.enc.length + s.enc.length := by rw [Fo.enc_app, List.length_append]
theorem nil_len : Fo.nil.enc.length = 0 := rfl
theorem join_len (l : List Fo) (n m : Nat) (h : ∀ f ∈ l, f.enc.length ≤ n) (hl : l.length ≤ m) : (joinF l).enc.length ≤ m * n := by
 have h1 : (joinF l).enc.length ≤ l.length * n := by
  clear hl
  induction l with
  |nil => exact Nat.zero_le _
  |cons f r ih =>
   show (f.app (joinF r)).enc.length ≤ (r.length + 1) * n
   rw [app_len, Nat.succ_mul]
   have h1 := h f (List.mem_cons_self ..)
   have h2 := ih (fun g hg => h g (List.mem_cons_of_mem _ hg))
   omega
 exact Nat.le_trans h1 (Nat.mul_le_mul_right n hl)
theorem extF_len {x : ExtV} (h : x.Small) (ho : extOk x = true) : (extF x).enc.length ≤ 457 := by
 have h1 := oL_le ho h.oid h.oin
 have h2 := lf_len (t := 4) (C := bl x.val) (by decide) (by decide) (by rw [bl_length]; have := h.val; omega)
 have h3 : (if x.crit = true then lf 1 [255] else Fo.nil).enc.length ≤ 15 := by
  split
  ·exact (lf_len (t := 1) (C := [255]) (by decide) (by decide) (by decide)).2
  ·exact Nat.zero_le _
 rw [bl_length] at h2
 have h4 := h.val
 have h5 := fleaf_len (c := 0) (t := 6) (C := oL x.oid) (r := (if x.crit = true then lf 1 [255] else .nil).app (lf 4 (bl x.val))) (by decide) (by omega)
 rw [app_len] at h5
 unfold extF
 have h6 := sq_len (k := Fo.leaf 0 6 (oL x.oid) ((if x.crit = true then lf 1 [255] else .nil).app (lf 4 (bl x.val)))) (by omega)
 omega
theorem extsF_len {l : List ExtV} (hl : l.length ≤ 10) (h : ∀ x ∈ l, x.Small) (ho : extsOk l = true) : (extsF l).enc.length ≤ 4584 := by
 have h1 := join_len (l.map extF) 457 10 (fun f hf => by obtain ⟨x, hx, rfl⟩ := List.mem_map.1 hf; exact extF_len (h x hx) ((extsOk_iff.1 ho).2 x hx)) (by rw [List.length_map]; exact hl)
 unfold extsF
 have := sq_len (k := joinF (l.map extF)) (by omega)
 omega
theorem dateF_len {d : ByteArray} (h : wOk d = true) : (dateF d).enc.length ≤ 29 := by
 have h1 := wTag_bd d
 have h2 : (wC d).size ≤ 15 := by rw [(w_put h).2.2]; split <;> omega
 unfold dateF
 have := lf_len (t := wTag d) (C := bl (wC d)) (by omega) (by omega) (by rw [bl_length]; omega)
 rw [bl_length] at this
 omega
theorem entryF_len {x : EntryV} (h : x.Small) (ho : entryOk x = true) : (entryF x).enc.length ≤ 4701 := by
 obtain ⟨_, h2, h3⟩ := entryOk_iff.1 ho
 have h4 := dateF_len h2
 have h5 : (if x.exts.isEmpty = true then Fo.nil else extsF x.exts).enc.length ≤ 4584 := by
  split
  ·exact Nat.zero_le _
  ·rename_i he; exact extsF_len h.many h.exts (some_exts h3 he)
 have h6 := h.serial
 have h7 := fleaf_len (c := 0) (t := 2) (C := bl x.serial) (r := (dateF x.date).app (if x.exts.isEmpty = true then .nil else extsF x.exts)) (by decide) (by rw [bl_length]; omega)
 rw [app_len, bl_length] at h7
 unfold entryF
 have h8 := sq_len (k := Fo.leaf 0 2 (bl x.serial) ((dateF x.date).app (if x.exts.isEmpty = true then .nil else extsF x.exts))) (by omega)
 omega
theorem attrF_len {a : AttrV} (h : a.Small) (ho : attrOk a = true) : (attrF a).enc.length ≤ 342 := by
 obtain ⟨h1, h2, _⟩ := attrOk_iff.1 ho
 have h3 := oL_le h1 h.oid h.oin
 have h4 := h.text
 have h5 := lf_len (t := a.tag) (C := bl a.text) (by omega) (by omega) (by rw [bl_length]; omega)
 rw [bl_length] at h5
 have h6 := fleaf_len (c := 0) (t := 6) (C := oL a.oid) (r := lf a.tag (bl a.text)) (by decide) (by omega)
 unfold attrF
 have h7 := sq_len (k := Fo.leaf 0 6 (oL a.oid) (lf a.tag (bl a.text))) (by omega)
 omega
theorem setK_len {l : List AttrV} (hl : l.length ≤ 8) (h : ∀ a ∈ l, a.Small) (ho : setOk l = true) : (joinF (sortF (l.map attrF))).enc.length ≤ 2736 :=
 join_len _ 342 8 (fun f hf => by obtain ⟨a, ha, rfl⟩ := List.mem_map.1 ((sortF_mem _ f).1 hf); exact attrF_len (h a ha) ((setOk_iff.1 ho).2 a ha)) (by rw [sortF_len, List.length_map]; exact hl)
theorem setF_len {l : List AttrV} (hl : l.length ≤ 8) (h : ∀ a ∈ l, a.Small) (ho : setOk l = true) : (setF l).enc.length ≤ 2750 := by
 have h1 := setK_len hl h ho
 have := fnode_len (c := 0) (t := 17) (k := joinF (sortF (l.map attrF))) (r := .nil) (by decide) (by omega)
 rw [nil_len] at this
 show (Fo.node 0 17 (joinF (sortF (l.map attrF))) .nil).enc.length ≤ 2750
 omega
theorem nameF_len {l : List (List AttrV)} (hl : l.length ≤ 8) (h : ∀ s ∈ l, s.length ≤ 8 ∧ ∀ a ∈ s, a.Small) (ho : nameOk l = true) : (nameF l).enc.length ≤ 22014 := by
 have h1 := join_len (l.map setF) 2750 8 (fun f hf => by obtain ⟨s, hs, rfl⟩ := List.mem_map.1 hf; exact setF_len (h s hs).1 (h s hs).2 (nameOk_iff.1 ho s hs)) (by rw [List.length_map]; exact hl)
 unfold nameF
 have := sq_len (k := joinF (l.map setF)) (by omega)
 omega
theorem algF_len {l : List Int} (h : arcsOk l = true) (hl : l.length ≤ 20) (hi : ∀ y ∈ l, inK .u64 y) : (algF l).enc.length ≤ 242 := by
 have h1 := oL_le h hl hi
 have h2 := lf_len (t := 5) (C := []) (by decide) (by decide) (by decide)
 have h3 := fleaf_len (c := 0) (t := 6) (C := oL l) (r := lf 5 []) (by decide) (by omega)
 simp only [List.length_nil] at h2
 unfold algF
 have h4 := sq_len (k := Fo.leaf 0 6 (oL l) (lf 5 [])) (by omega)
 omega
theorem CrlV.valOk_iff {c : CrlV} : c.valOk = true ↔ arcsOk c.alg = true ∧ nameOk c.issuer = true ∧ wOk c.this = true ∧ (c.next.size = 0 ∨ wOk c.next = true) ∧ (∀ x ∈ c.entries, entryOk x = true) ∧ (c.exts.isEmpty || extsOk c.exts) = true := by
 unfold CrlV.valOk
 simp only [Bool.and_eq_true, List.all_eq_true, and_assoc]
 rw [Bool.or_eq_true (decide _), decide_eq_true_eq]
theorem entries_len {c : CrlV} (hs : c.Small) (ho : ∀ x ∈ c.entries, entryOk x = true) : (joinF (c.entries.map entryF)).enc.length ≤ 56412 :=
 join_len _ 4701 12 (fun f hf => by obtain ⟨x, hx, rfl⟩ := List.mem_map.1 hf; exact entryF_len (hs.entries x hx) (ho x hx)) (by rw [List.length_map]; exact hs.many)
theorem tbsK_len {c : CrlV} (hs : c.Small) (h : c.valOk = true) : (tbsK c).enc.length ≤ 83353 := by
 obtain ⟨h1, h2, h3, h4, h5, h6⟩ := CrlV.valOk_iff.1 h
 have e1 := algF_len h1 hs.alg hs.ain
 have e2 := nameF_len hs.sets hs.attrs h2
 have e3 := dateF_len h3
 have e4 : (if c.next.size = 0 then Fo.nil else dateF c.next).enc.length ≤ 29 := by
  split
  ·exact Nat.zero_le _
  ·rename_i he; rcases h4 with h4 | h4; exact absurd h4 he; exact dateF_len h4
 have e5 : (if c.entries.isEmpty = true then Fo.nil else sq (joinF (c.entries.map entryF))).enc.length ≤ 56426 := by
  split
  ·exact Nat.zero_le _
  ·have := entries_len hs h5
   have := sq_len (k := joinF (c.entries.map entryF)) (by omega)
   omega
 have e6 : (if c.exts.isEmpty = true then Fo.nil else Fo.node 2 0 (extsF c.exts) .nil).enc.length ≤ 4598 := by
  split
  ·exact Nat.zero_le _
  ·rename_i he
   have := extsF_len hs.few hs.exts (some_exts h6 he)
   have := fnode_len (c := 2) (t := 0) (k := extsF c.exts) (r := .nil) (by decide) (by omega)
   rw [nil_len] at this
   omega
 have e0 : (if c.v2 = true then lf 2 [1] else Fo.nil).enc.length ≤ 15 := by
  split
  ·exact (lf_len (t := 2) (C := [1]) (by decide) (by decide) (by decide)).2
  ·exact Nat.zero_le _
 unfold tbsK
 simp only [app_len]
 omega
theorem tbsF_len {c : CrlV} (hs : c.Small) (h : c.valOk = true) : (tbsK c).enc.length + 2 ≤ (tbsF c).enc.length ∧ (tbsF c).enc.length ≤ 83367 := by
 have h1 := tbsK_len hs h
 have := sq_len (k := tbsK c) (by omega)
 unfold tbsF
 omega
theorem crlK_len {c : CrlV} (hs : c.Small) (h : c.valOk = true) : (tbsF c).enc.length ≤ ((tbsF c).app ((algF c.alg).app (lf 3 (0 :: bl c.sig)))).enc.length ∧ ((tbsF c).app ((algF c.alg).app (lf 3 (0 :: bl c.sig)))).enc.length ≤ 83924 := by
 have h1 := tbsF_len hs h
 have h2 := algF_len (CrlV.valOk_iff.1 h).1 hs.alg hs.ain
 have h3 := lf_len (t := 3) (C := 0 :: bl c.sig) (by decide) (by decide) (by rw [List.length_cons, bl_length]; have := hs.sig; omega)
 rw [List.length_cons, bl_length] at h3
 have := hs.sig
 simp only [app_len]
 omega
theorem crlF_len {c : CrlV} (hs : c.Small) (h : c.valOk = true) : (tbsF c).enc.length < (crlF c).enc.length ∧ (crlF c).enc.length ≤ 83938 := by
 have h1 := crlK_len hs h
 have := sq_len (k := (tbsF c).app ((algF c.alg).app (lf 3 (0 :: bl c.sig)))) (by omega)
 unfold crlF
 omega
theorem crlF_ok {c : CrlV} (hs : c.Small) (h : c.valOk = true) : (crlF c).Ok := Fo.ok_of _ (crlF_pre h) (by have := (crlF_len hs h).2; omega)
theorem tbsF_ok {c : CrlV} (hs : c.Small) (h : c.valOk = true) : (tbsF c).Ok := Fo.ok_of _ (tbsF_pre h) (by have := (tbsF_len hs h).2; omega)
theorem tbsE_zero {c : CrlV} (h : tbsE c = 0) : c.valOk = true := by
 unfold tbsE at h
 cases hv : c.valOk with
 |true => rfl
 |false => rw [if_pos hv] at h; cases h
theorem crl_right {c : CrlV} (hs : c.Small) (h : tbsE c = 0) : valW (crlS c) 64 = (0, ((crlS c).size : Int)) ∧ valW (tbsS c) 64 = (0, ((tbsS c).size : Int)) ∧ (tbsS c).size < (crlS c).size := by
 have hv := tbsE_zero h
 have h1 := (Fo.val (crlF_ok hs hv) rfl (crlF_good hv) 64 (by have := crlF_depth c; unfold evMost; omega)).2
 have h2 := (Fo.val (tbsF_ok hs hv) rfl (tbsF_good hv) 64 (by have := tbsF_depth c; unfold evMost; omega)).2
 unfold crlS tbsS
 rw [if_pos h, if_pos h]
 unfold encS
 rw [strOfNums_size, strOfNums_size]
 exact ⟨h1, h2, (crlF_len hs hv).1⟩
end Go.Proofs.YtiiimhamfibdbaaGreat
/- What is encoded of a list is one by the grammar: none of its events is wrong. Plain, of any list of the sizes that layer 19 names. -/
namespace Go.Proofs.YtiiimhamfibdbaaGreat
open Go.RowKit Go.PlainAid
set_option linter.unusedVariables false
def GS.good : GS → List Ev → Prop
 |_, [] => True
 |s, e :: r => (s.push e).part ≠ 0 ∧ (s.push e).good r
theorem GS.good_append (l m : List Ev) : ∀ s : GS, s.good (l ++ m) ↔ s.good l ∧ (s.run l).good m := by
 induction l with
 |nil => intro s; simp [GS.good, GS.run]
 |cons e r ih => intro s; show _ ∧ (s.push e).good (r ++ m) ↔ (_ ∧ _) ∧ _; rw [ih]; simp [GS.run, and_assoc]
theorem GS.good_parts (l : List Ev) : ∀ s : GS, s.good l → (s.parts l).length = l.length := by
 induction l with
 |nil => intro s _; rfl
 |cons e r ih =>
  intro s h
  rw [GS.parts, if_neg h.1, List.length_cons, List.length_cons, ih _ h.2]
theorem bytes_ok (C : List Int) : ∀ (p : Nat) (op : List GO) (P : Int) (v : Bool) (pt : Int), P ≠ 0 → (P = 3 → ∀ b ∈ C, b = 1) → (P = 19 → ∀ b ∈ C, b = 255) →
  (GS.mk op P v pt).good (bytesE C p) ∧ ∃ pt', (GS.mk op P v pt).run (bytesE C p) = ⟨op, P, v, pt'⟩ := by
 induction C with
 |nil => intro p op P v pt _ _ _; exact ⟨trivial, pt, rfl⟩
 |cons x r ih =>
  intro p op P v pt h0 h3 h19
  have hp : (GS.mk op P v pt).push (evByte p x) = ⟨op, P, v, P⟩ := by
   have hn : ¬ (P = 3 ∧ x ≠ 1 ∨ P = 19 ∧ x ≠ 255) := by
    rintro (⟨a, b⟩ | ⟨a, b⟩)
    ·exact b (h3 a x (List.mem_cons_self ..))
    ·exact b (h19 a x (List.mem_cons_self ..))
   unfold GS.push evByte
   simp [hn]
  obtain ⟨q1, pt', q2⟩ := ih (p + 1) op P v P h0 (fun a b hb => h3 a b (List.mem_cons_of_mem _ hb)) (fun a b hb => h19 a b (List.mem_cons_of_mem _ hb))
  refine ⟨⟨?_, ?_⟩, pt', ?_⟩
  ·rw [hp]; exact h0
  ·rw [hp]; exact q1
  ·show ((GS.mk op P v pt).push (evByte p x)).run _ = _
   rw [hp]; exact q2
def Acc (v : Bool) (o : GO) (f : Fo) (v' : Bool) (o' : GO) : Prop :=
 ∀ (r : List GO) (lf pt : Int) (p : Nat), (GS.mk (o :: r) lf v pt).good (f.evs p) ∧ ∃ lf' pt', (GS.mk (o :: r) lf v pt).run (f.evs p) = ⟨o' :: r, lf', v', pt'⟩
theorem Acc.nil (v : Bool) (o : GO) : Acc v o .nil v o := fun r lf pt p => ⟨trivial, lf, pt, rfl⟩
theorem Acc.app {v v1 v2 : Bool} {o o1 o2 : GO} {f g : Fo} (h : Acc v o f v1 o1) (k : Acc v1 o1 g v2 o2) : Acc v o (f.app g) v2 o2 := by
 intro r lf pt p
 obtain ⟨h1, lf', pt', h2⟩ := h r lf pt p
 obtain ⟨k1, lf2, pt2, k2⟩ := k r lf' pt' (p + f.enc.length)
 rw [Fo.evs_app]
 refine ⟨(GS.good_append _ _ _).2 ⟨h1, by rw [h2]; exact k1⟩, lf2, pt2, ?_⟩
 rw [GS.run_append, h2]; exact k2
theorem Acc.leaf {v : Bool} {o : GO} {c t : Int} {C : List Int} {k : Nat} {P : Int} (hs : scanG c t false (C.length : Int) o.came o.k ((rowG o.p).drop o.k) = some (k, P)) (h0 : P ≠ 0)
  (hv : ¬ (v = false ∧ (P = 21 ∨ P = 17 ∧ o.p = 14))) (h3 : P = 3 → ∀ b ∈ C, b = 1) (h19 : P = 19 → ∀ b ∈ C, b = 255) : Acc v o (.leaf c t C .nil) (v || decide (P = 3)) ⟨o.p, k, true⟩ := by
 intro r lf pt p
 have hh : ∀ q, (GS.mk (o :: r) lf v pt).push (evLeaf q c t false (C.length : Int)) = ⟨⟨o.p, k, true⟩ :: r, P, v || decide (P = 3), P⟩ := by
  intro q
  unfold GS.push evLeaf GS.head
  simp [hs, hv]
 obtain ⟨q1, pt', q2⟩ := bytes_ok C (p + (hdPut c t false (C.length : Int)).length) (⟨o.p, k, true⟩ :: r) P (v || decide (P = 3)) P h0 h3 h19
 have he : ∀ q op pt, (GS.mk op P (v || decide (P = 3)) pt).push (evEnd q) = ⟨op, P, v || decide (P = 3), P⟩ := by
  intro q op pt
  unfold GS.push evEnd
  simp
 refine ⟨?_, P, P, ?_⟩
 ·show _ ∧ GS.good _ _
  rw [hh]
  refine ⟨h0, ?_⟩
  rw [GS.good_append, q2]
  refine ⟨q1, ?_, trivial⟩
  rw [he]; exact h0
 ·show ((GS.mk (o :: r) lf v pt).push _).run _ = _
  rw [hh, GS.run_append, q2]
  show GS.run ((GS.mk _ _ _ _).push _) [] = _
  rw [he]; rfl
theorem Acc.node {v v' : Bool} {o o2 : GO} {c t : Int} {K : Fo} {k : Nat} {P : Int} (hs : scanG c t true (K.enc.length : Int) o.came o.k ((rowG o.p).drop o.k) = some (k, P)) (h0 : P ≠ 0)
  (hv : ¬ (v = false ∧ (P = 21 ∨ P = 17 ∧ o.p = 14))) (hk : Acc v ⟨P, 0, false⟩ K v' o2) (h2 : o2.p ≠ 0) (ho : overG o2.came ((rowG o2.p).drop o2.k) = true) : Acc v o (.node c t K .nil) v' ⟨o.p, k, true⟩ := by
 intro r lf pt p
 have hh : ∀ q, (GS.mk (o :: r) lf v pt).push (evEnter q c t true (K.enc.length : Int)) = ⟨⟨P, 0, false⟩ :: ⟨o.p, k, true⟩ :: r, lf, v, P⟩ := by
  intro q
  unfold GS.push evEnter GS.head
  simp [hs, hv]
 obtain ⟨q1, lf', pt', q2⟩ := hk (⟨o.p, k, true⟩ :: r) lf P (p + (hdPut c t true (K.enc.length : Int)).length)
 have he : ∀ q, (GS.mk (o2 :: ⟨o.p, k, true⟩ :: r) lf' v' pt').push (evExit q) = ⟨⟨o.p, k, true⟩ :: r, lf', v', o2.p⟩ := by
  intro q
  unfold GS.push evExit
  simp [ho]
 refine ⟨?_, lf', o2.p, ?_⟩
 ·show _ ∧ GS.good _ _
  rw [hh]
  refine ⟨h0, ?_⟩
  rw [GS.good_append, q2]
  refine ⟨q1, ?_, trivial⟩
  rw [he]; exact h2
 ·show ((GS.mk (o :: r) lf v pt).push _).run _ = _
  rw [hh, GS.run_append, q2]
  show GS.run ((GS.mk _ _ _ _).push _) [] = _
  rw [he]; rfl
theorem Acc.many {α : Type} {v : Bool} {P : Int} (F : α → Fo) : ∀ (l : List α), (∀ x ∈ l, ∀ b, Acc v ⟨P, 0, b⟩ (F x) v ⟨P, 0, true⟩) → ∀ b, Acc v ⟨P, 0, b⟩ (joinF (l.map F)) v ⟨P, 0, b || !l.isEmpty⟩ := by
 intro l
 induction l with
 |nil => intro _ b; simp [joinF]; exact Acc.nil _ _
 |cons x r ih =>
  intro h b
  have h1 := h x (List.mem_cons_self ..) b
  have h2 := ih (fun y hy => h y (List.mem_cons_of_mem _ hy)) true
  simp at h2
  have := h1.app h2
  simpa [joinF] using this
theorem Acc.manyL {v : Bool} {P : Int} (l : List Fo) (h : ∀ x ∈ l, ∀ b, Acc v ⟨P, 0, b⟩ x v ⟨P, 0, true⟩) (b : Bool) : Acc v ⟨P, 0, b⟩ (joinF l) v ⟨P, 0, b || !l.isEmpty⟩ := by
 have := Acc.many (fun x : Fo => x) l h b
 simpa using this
theorem Acc.alg {v : Bool} {o : GO} {k : Nat} (l : List Int) (hs : ∀ n, scanG 0 16 true n o.came o.k ((rowG o.p).drop o.k) = some (k, 4)) : Acc v o (algF l) v ⟨o.p, k, true⟩ := by
 have h1 : Acc v ⟨4, 0, false⟩ (.leaf 0 6 (oL l) .nil) v ⟨4, 0, true⟩ := by
  have := Acc.leaf (v := v) (o := ⟨4, 0, false⟩) (c := 0) (t := 6) (C := oL l) (k := 0) (P := 5) (by simp [scanG, rowG, fitsG]) (by decide) (by simp) (by simp) (by simp)
  simpa using this
 have h2 : Acc v ⟨4, 0, true⟩ (lf 5 []) v ⟨4, 1, true⟩ := by
  have := Acc.leaf (v := v) (o := ⟨4, 0, true⟩) (c := 0) (t := 5) (C := []) (k := 1) (P := 6) (by simp [scanG, rowG, fitsG]) (by decide) (by simp) (by simp) (by simp)
  simpa [lf] using this
 exact Acc.node (o2 := ⟨4, 1, true⟩) (hs _) (by decide) (by simp) (h1.app h2) (by decide) (by simp [overG, rowG])
theorem Acc.attr {v : Bool} {b : Bool} (a : AttrV) (h : attrOk a = true) : Acc v ⟨8, 0, b⟩ (attrF a) v ⟨8, 0, true⟩ := by
 have ht : a.tag = 12 ∨ a.tag = 19 ∨ a.tag = 22 := by
  unfold attrOk at h
  simp only [Bool.and_eq_true, decide_eq_true_eq] at h
  exact h.1.2
 have h1 : Acc v ⟨9, 0, false⟩ (.leaf 0 6 (oL a.oid) .nil) v ⟨9, 0, true⟩ := by
  have := Acc.leaf (v := v) (o := ⟨9, 0, false⟩) (c := 0) (t := 6) (C := oL a.oid) (k := 0) (P := 5) (by simp [scanG, rowG, fitsG]) (by decide) (by simp) (by simp) (by simp)
  simpa using this
 have h2 : Acc v ⟨9, 0, true⟩ (lf a.tag (bl a.text)) v ⟨9, 1, true⟩ := by
  have := Acc.leaf (v := v) (o := ⟨9, 0, true⟩) (c := 0) (t := a.tag) (C := bl a.text) (k := 1) (P := 10) (by rcases ht with e | e | e <;> rw [e] <;> simp [scanG, rowG, fitsG]) (by decide) (by simp) (by simp) (by simp)
  simpa [lf] using this
 refine Acc.node (o := ⟨8, 0, b⟩) (o2 := ⟨9, 1, true⟩) (k := 0) (P := 9) ?_ (by decide) (by simp) (h1.app h2) (by decide) (by simp [overG, rowG])
 cases b <;> simp [scanG, rowG, fitsG]
theorem Acc.set {v : Bool} {b : Bool} (l : List AttrV) (h : setOk l = true) : Acc v ⟨7, 0, b⟩ (setF l) v ⟨7, 0, true⟩ := by
 unfold setOk at h
 simp only [Bool.and_eq_true, List.all_eq_true] at h
 have h1 := Acc.manyL (v := v) (P := 8) (sortF (l.map attrF)) (fun x hx b => by
  obtain ⟨a, ha, rfl⟩ := List.mem_map.1 ((sortF_mem _ _).1 hx)
  exact Acc.attr a (h.2 a ha)) false
 have hne : (sortF (l.map attrF)).isEmpty = false := by
  cases hq : sortF (l.map attrF) with
  |nil =>
   have := sortF_len (l.map attrF)
   rw [hq, List.length_map] at this
   have hl : l = [] := List.eq_nil_of_length_eq_zero this.symm
   rw [hl] at h; simp at h
  |cons x r => rfl
 rw [hne] at h1
 refine Acc.node (o := ⟨7, 0, b⟩) (o2 := ⟨8, 0, true⟩) (k := 0) (P := 8) ?_ (by decide) (by simp) h1 (by decide) (by simp [overG, rowG])
 cases b <;> simp [scanG, rowG, fitsG]
theorem Acc.name {v : Bool} {o : GO} {k : Nat} (l : List (List AttrV)) (h : nameOk l = true) (hs : ∀ n, scanG 0 16 true n o.came o.k ((rowG o.p).drop o.k) = some (k, 7)) : Acc v o (nameF l) v ⟨o.p, k, true⟩ := by
 unfold nameOk at h
 rw [List.all_eq_true] at h
 have h1 := Acc.many (v := v) (P := 7) setF l (fun x hx b => Acc.set x (h x hx)) false
 refine Acc.node (hs _) (by decide) (by simp) h1 (show (7 : Int) ≠ 0 by decide) ?_
 cases l.isEmpty <;> simp [overG, rowG]
theorem Acc.date {v : Bool} {o : GO} {k : Nat} {P : Int} (d : ByteArray) (hp : P = 11 ∨ P = 12 ∨ P = 16) (hs : ∀ t n, t = 23 ∨ t = 24 → scanG 0 t false n o.came o.k ((rowG o.p).drop o.k) = some (k, P)) : Acc v o (dateF d) v ⟨o.p, k, true⟩ := by
 have h0 : P ≠ 0 := by omega
 have h1 : P ≠ 3 := by omega
 have h2 : P ≠ 19 := by omega
 have h3 : P ≠ 21 := by omega
 have h4 : P ≠ 17 := by omega
 have := Acc.leaf (v := v) (o := o) (c := 0) (t := wTag d) (C := bl (wC d)) (k := k) (P := P) (hs _ _ (wTag_bd d)) h0 (by simp [h3, h4]) (fun e => absurd e h1) (fun e => absurd e h2)
 simpa [lf, dateF, h1] using this
theorem Acc.ext {v : Bool} {b : Bool} (x : ExtV) : Acc v ⟨17, 0, b⟩ (extF x) v ⟨17, 0, true⟩ := by
 have h1 : Acc v ⟨18, 0, false⟩ (.leaf 0 6 (oL x.oid) .nil) v ⟨18, 0, true⟩ := by
  have := Acc.leaf (v := v) (o := ⟨18, 0, false⟩) (c := 0) (t := 6) (C := oL x.oid) (k := 0) (P := 5) (by simp [scanG, rowG, fitsG]) (by decide) (by simp) (by simp) (by simp)
  simpa using this
 have h3 : ∀ k : Nat, k < 2 → Acc v ⟨18, k, true⟩ (lf 4 (bl x.val)) v ⟨18, 2, true⟩ := by
  intro k hk
  have := Acc.leaf (v := v) (o := ⟨18, k, true⟩) (c := 0) (t := 4) (C := bl x.val) (k := 2) (P := 20) (by
   have : k = 0 ∨ k = 1 := by omega
   rcases this with rfl | rfl <;> simp [scanG, rowG, fitsG]) (by decide) (by simp) (by simp) (by simp)
  simpa [lf] using this
 have h4 : Acc v ⟨18, 0, true⟩ ((if x.crit = true then lf 1 [255] else .nil).app (lf 4 (bl x.val))) v ⟨18, 2, true⟩ := by
  by_cases hc : x.crit = true
  ·rw [if_pos hc]
   have h2 : Acc v ⟨18, 0, true⟩ (lf 1 [255]) v ⟨18, 1, true⟩ := by
    have := Acc.leaf (v := v) (o := ⟨18, 0, true⟩) (c := 0) (t := 1) (C := [255]) (k := 1) (P := 19) (by simp [scanG, rowG, fitsG]) (by decide) (by simp) (by simp) (by simp)
    simpa [lf] using this
   exact h2.app (h3 1 (by decide))
  ·rw [if_neg hc]
   exact (Acc.nil _ _).app (h3 0 (by decide))
 refine Acc.node (o := ⟨17, 0, b⟩) (o2 := ⟨18, 2, true⟩) (k := 0) (P := 18) ?_ (by decide) (by simp) (h1.app h4) (by decide) (by simp [overG, rowG])
 cases b <;> simp [scanG, rowG, fitsG]
theorem Acc.exts {o : GO} {k : Nat} (l : List ExtV) (h : extsOk l = true) (hs : ∀ n, scanG 0 16 true n o.came o.k ((rowG o.p).drop o.k) = some (k, 17)) : Acc true o (extsF l) true ⟨o.p, k, true⟩ := by
 unfold extsOk at h
 simp only [Bool.and_eq_true] at h
 have hne : l.isEmpty = false := by simpa using h.1
 have h1 := Acc.many (v := true) (P := 17) extF l (fun x hx b => Acc.ext x) false
 rw [hne] at h1
 exact Acc.node (o2 := ⟨17, 0, true⟩) (hs _) (by decide) (by simp) h1 (by decide) (by simp [overG, rowG])
theorem Acc.entry {v b : Bool} (x : EntryV) (h : entryOk x = true) (hv : v = true ∨ x.exts.isEmpty = true) : Acc v ⟨13, 0, b⟩ (entryF x) v ⟨13, 0, true⟩ := by
 have h1 : Acc v ⟨14, 0, false⟩ (.leaf 0 2 (bl x.serial) .nil) v ⟨14, 0, true⟩ := by
  have := Acc.leaf (v := v) (o := ⟨14, 0, false⟩) (c := 0) (t := 2) (C := bl x.serial) (k := 0) (P := 15) (by simp [scanG, rowG, fitsG]) (by decide) (by simp) (by simp) (by simp)
  simpa using this
 have h2 : Acc v ⟨14, 0, true⟩ (dateF x.date) v ⟨14, 1, true⟩ := Acc.date (P := 16) (o := ⟨14, 0, true⟩) x.date (by simp) (fun t n ht => by rcases ht with e | e <;> rw [e] <;> simp [scanG, rowG, fitsG])
 have hx : x.exts.isEmpty = true ∨ extsOk x.exts = true := by
  unfold entryOk at h
  simp only [Bool.and_eq_true, Bool.or_eq_true] at h
  exact h.2
 have h3 : ∃ k2, Acc v ⟨14, 1, true⟩ (if x.exts.isEmpty = true then Fo.nil else extsF x.exts) v ⟨14, k2, true⟩ ∧ overG true ((rowG 14).drop k2) = true := by
  by_cases he : x.exts.isEmpty = true
  ·rw [if_pos he]
   exact ⟨1, Acc.nil _ _, by simp [overG, rowG]⟩
  ·rw [if_neg he]
   have hvt : v = true := by rcases hv with e | e; exact e; exact absurd e he
   subst hvt
   exact ⟨2, Acc.exts (o := ⟨14, 1, true⟩) x.exts (by rcases hx with e | e; exact absurd e he; exact e) (fun n => by simp [scanG, rowG, fitsG]), by simp [overG, rowG]⟩
 obtain ⟨k2, h3, h4⟩ := h3
 refine Acc.node (o := ⟨13, 0, b⟩) (o2 := ⟨14, k2, true⟩) (k := 0) (P := 14) ?_ (by decide) (by simp) (h1.app (h2.app h3)) (show (14 : Int) ≠ 0 by decide) h4
 cases b <;> simp [scanG, rowG, fitsG]
theorem Acc.tbs {c : CrlV} (h : tbsE c = 0) (ver : Bool) (hver : ver = c.v2) : Acc false ⟨1, 0, false⟩ (tbsF c) ver ⟨1, 0, true⟩ := by
 have hv := tbsE_zero h
 obtain ⟨ha, hn, ht, hx, he, hs⟩ := CrlV.valOk_iff.1 hv
 have hh : c.v2 = true ∨ c.has = false := by
  unfold tbsE at h
  rw [if_neg (by rw [hv]; decide)] at h
  by_cases q : c.has = true ∧ c.v2 = false
  ·rw [if_pos q] at h; cases h
  ·cases hc : c.v2 with
   |true => exact .inl rfl
   |false =>
    cases hq : c.has with
    |true => exact absurd ⟨hq, hc⟩ q
    |false => exact .inr rfl
 have hexts : ver = true ∨ c.exts.isEmpty = true := by
  rcases hh with q | q
  ·exact .inl (by rw [hver, q])
  ·unfold CrlV.has at q
   rw [Bool.or_eq_false_iff] at q
   exact .inr (by simpa using q.1)
 have hents : ∀ x ∈ c.entries, ver = true ∨ x.exts.isEmpty = true := by
  intro x hx
  rcases hh with q | q
  ·exact .inl (by rw [hver, q])
  ·unfold CrlV.has at q
   rw [Bool.or_eq_false_iff, List.any_eq_false] at q
   have := q.2 x hx
   exact .inr (by simpa using this)
 -- the version
 have k0 : ∃ o : GO, (o = ⟨2, 0, false⟩ ∨ o = ⟨2, 0, true⟩) ∧ Acc false ⟨2, 0, false⟩ (if c.v2 = true then lf 2 [1] else .nil) ver o := by
  by_cases q : c.v2 = true
  ·rw [if_pos q]
   refine ⟨⟨2, 0, true⟩, .inr rfl, ?_⟩
   have := Acc.leaf (v := false) (o := ⟨2, 0, false⟩) (c := 0) (t := 2) (C := [1]) (k := 0) (P := 3) (by simp [scanG, rowG, fitsG]) (by decide) (by simp) (by simp) (by simp)
   rw [hver, q]
   simpa [lf] using this
  ·rw [if_neg q]
   have hvf : ver = false := by rw [hver]; simpa using q
   rw [hvf]
   exact ⟨_, .inl rfl, Acc.nil _ _⟩
 obtain ⟨o, ho, k0⟩ := k0
 have k1 : Acc ver o (algF c.alg) ver ⟨2, 1, true⟩ := by
  rcases ho with rfl | rfl
  ·exact Acc.alg (o := ⟨2, 0, false⟩) c.alg (fun n => by simp [scanG, rowG, fitsG])
  ·exact Acc.alg (o := ⟨2, 0, true⟩) c.alg (fun n => by simp [scanG, rowG, fitsG])
 have k2 : Acc ver ⟨2, 1, true⟩ (nameF c.issuer) ver ⟨2, 2, true⟩ := Acc.name (o := ⟨2, 1, true⟩) c.issuer hn (fun n => by simp [scanG, rowG, fitsG])
 have k3 : Acc ver ⟨2, 2, true⟩ (dateF c.this) ver ⟨2, 3, true⟩ := Acc.date (P := 11) (o := ⟨2, 2, true⟩) c.this (by simp) (fun t n q => by rcases q with e | e <;> rw [e] <;> simp [scanG, rowG, fitsG])
 have k4 : ∃ k, (k = 3 ∨ k = 4) ∧ Acc ver ⟨2, 3, true⟩ (if c.next.size = 0 then .nil else dateF c.next) ver ⟨2, k, true⟩ := by
  by_cases q : c.next.size = 0
  ·rw [if_pos q]; exact ⟨3, .inl rfl, Acc.nil _ _⟩
  ·rw [if_neg q]; exact ⟨4, .inr rfl, Acc.date (P := 12) (o := ⟨2, 3, true⟩) c.next (by simp) (fun t n q => by rcases q with e | e <;> rw [e] <;> simp [scanG, rowG, fitsG])⟩
 obtain ⟨n4, hn4, k4⟩ := k4
 have k5 : ∃ k, (k = 3 ∨ k = 4 ∨ k = 5) ∧ Acc ver ⟨2, n4, true⟩ (if c.entries.isEmpty = true then .nil else sq (joinF (c.entries.map entryF))) ver ⟨2, k, true⟩ := by
  by_cases q : c.entries.isEmpty = true
  ·rw [if_pos q]; exact ⟨n4, by omega, Acc.nil _ _⟩
  ·rw [if_neg q]
   have hq : c.entries.isEmpty = false := by simpa using q
   have h1 := Acc.many (v := ver) (P := 13) entryF c.entries (fun x hx b => Acc.entry x (he x hx) (hents x hx)) false
   rw [hq] at h1
   refine ⟨5, by omega, Acc.node (o := ⟨2, n4, true⟩) (o2 := ⟨13, 0, true⟩) (k := 5) (P := 13) ?_ (by decide) (by simp) h1 (by decide) (by simp [overG, rowG])⟩
   rcases hn4 with rfl | rfl <;> simp [scanG, rowG, fitsG]
 obtain ⟨n5, hn5, k5⟩ := k5
 have k6 : ∃ k, (k = 3 ∨ k = 4 ∨ k = 5 ∨ k = 6) ∧ Acc ver ⟨2, n5, true⟩ (if c.exts.isEmpty = true then .nil else .node 2 0 (extsF c.exts) .nil) ver ⟨2, k, true⟩ := by
  by_cases q : c.exts.isEmpty = true
  ·rw [if_pos q]; exact ⟨n5, by omega, Acc.nil _ _⟩
  ·rw [if_neg q]
   have hvt : ver = true := by rcases hexts with e | e; exact e; exact absurd e q
   subst hvt
   have hxo : extsOk c.exts = true := by
    have := hs
    rw [Bool.or_eq_true] at this
    rcases this with e | e
    ·exact absurd e q
    ·exact e
   refine ⟨6, by omega, Acc.node (o := ⟨2, n5, true⟩) (o2 := ⟨21, 0, true⟩) (k := 6) (P := 21) ?_ (by decide) (by simp) (Acc.exts (o := ⟨21, 0, false⟩) c.exts hxo (fun n => by simp [scanG, rowG, fitsG])) (by decide) (by simp [overG, rowG])⟩
   rcases hn5 with rfl | rfl | rfl <;> simp [scanG, rowG, fitsG]
 obtain ⟨n6, hn6, k6⟩ := k6
 refine Acc.node (o := ⟨1, 0, false⟩) (o2 := ⟨2, n6, true⟩) (k := 0) (P := 2) (by simp [scanG, rowG, fitsG]) (by decide) (by simp) (k0.app (k1.app (k2.app (k3.app (k4.app (k5.app k6)))))) (show (2 : Int) ≠ 0 by decide) ?_
 rcases hn6 with rfl | rfl | rfl | rfl <;> simp [overG, rowG]
theorem Acc.crl {c : CrlV} (h : tbsE c = 0) : Acc false ⟨0, 0, false⟩ (crlF c) c.v2 ⟨0, 0, true⟩ := by
 have h1 := Acc.tbs h c.v2 rfl
 have h2 : Acc c.v2 ⟨1, 0, true⟩ (algF c.alg) c.v2 ⟨1, 1, true⟩ := Acc.alg (o := ⟨1, 0, true⟩) c.alg (fun n => by simp [scanG, rowG, fitsG])
 have h3 : Acc c.v2 ⟨1, 1, true⟩ (lf 3 (0 :: bl c.sig)) c.v2 ⟨1, 2, true⟩ := by
  have := Acc.leaf (v := c.v2) (o := ⟨1, 1, true⟩) (c := 0) (t := 3) (C := 0 :: bl c.sig) (k := 2) (P := 22) (by simp [scanG, rowG, fitsG]) (by decide) (by simp) (by simp) (by simp)
  simpa [lf] using this
 exact Acc.node (o := ⟨0, 0, false⟩) (o2 := ⟨1, 2, true⟩) (k := 0) (P := 1) (by simp [scanG, rowG, fitsG]) (by decide) (by simp) (h1.app (h2.app h3)) (by decide) (by simp [overG, rowG])
theorem crl_parts {c : CrlV} (h : tbsE c = 0) (p : Nat) : (partsG ((crlF c).evs p)).length = ((crlF c).evs p).length :=
 GS.good_parts _ _ ((Acc.crl h [] 0 0 p).1)
end Go.Proofs.YtiiimhamfibdbaaGreat
/- What is encoded is a list: told whole, cut off anywhere, and with more behind. Plain, of any list of the sizes that layer 19 names. -/
namespace Go.Proofs.YtiiimhamfibdbaaGreat
open Go.RowKit Go.PlainAid
set_option linter.unusedVariables false
theorem gF_none {L : List Ev} (h1 : vF L < 0) (h2 : (partsG L).length = L.length) : gF L = none := by
 unfold gF
 rw [if_neg (by omega), if_neg (by omega)]
theorem Fo.more {f : Fo} (ho : f.Ok) (h1 : f.count = 1) (m : List Int) (hm : IsB m) (h0 : m ≠ []) (d : Nat) (hd : f.depth ≤ d) : evWhole d (f.enc ++ m) = (f.evs 0, 6, f.enc.length) := by
 have h := Fo.elem ho h1 m d hd
 have hl : 0 < m.length := List.length_pos_iff.2 h0
 rw [whole_is (f.enc ++ m) ((Fo.isB ho).append hm) d, h, if_pos ⟨rfl, by rw [List.length_append]; show f.enc.length < _; omega⟩]
theorem crl_evs {c : CrlV} (hs : c.Small) (h : tbsE c = 0) : evW (crlS c) 64 = ((crlF c).evs 0, 0, (crlS c).size) ∧ vF ((crlF c).evs 0) < 0 ∧ gF ((crlF c).evs 0) = none ∧
  ∀ m : ByteArray, m.size ≠ 0 → evW (crlS c ++ m) 64 = ((crlF c).evs 0, 6, (crlS c).size) := by
 have hv := tbsE_zero h
 have ho := crlF_ok hs hv
 have hd : (crlF c).depth ≤ evMost 64 := by have := crlF_depth c; unfold evMost; omega
 have he := (Fo.val ho rfl (crlF_good hv) 64 hd).1
 have hb : crlS c = strOfNums (crlF c).enc := by unfold crlS; rw [if_pos h]; rfl
 have hz : (crlS c).size = (crlF c).enc.length := by rw [hb, strOfNums_size]
 have hvf : vF ((crlF c).evs 0) < 0 := by
  have := Fo.vF_evs (crlF c) 0 [] (crlF_good hv) (by decide)
  rwa [List.append_nil] at this
 refine ⟨by rw [hz, hb]; exact he, hvf, gF_none hvf (crl_parts h 0), fun m hm => ?_⟩
 unfold evW
 rw [hz, bl_append, hb, bl_str (Fo.isB ho)]
 exact Fo.more ho rfl (bl m) (bl_isB m) (fun e => hm (by have := bl_length m; rw [e] at this; exact this.symm)) _ hd
theorem gram_crl {c : CrlV} (hs : c.Small) (h : tbsE c = 0) (hz : (crlS c).size ≤ maxLen) : gramW (crlS c) 64 = (0, ((crlS c).size : Int)) ∧ (∀ m : ByteArray, m.size ≠ 0 → gramW (crlS c ++ m) 64 = (6, ((crlS c).size : Int))) ∧
  ∀ n : Nat, n < (crlS c).size → gramW ((crlS c).extract 0 n) 64 = (2, (n : Int)) := by
 obtain ⟨h1, h2, h3, h4⟩ := crl_evs hs h
 refine ⟨gramW_none h1 h3, fun m hm => gramW_none (h4 m hm) h3, fun n hn => ?_⟩
 have hr := (val_right hz (crl_right hs h).1).2.2 n hn
 obtain ⟨L', E', P', hw'⟩ : ∃ L e p, evW ((crlS c).extract 0 n) 64 = (L, e, p) := ⟨_, _, _, rfl⟩
 have hvf : vF L' < 0 := by
  by_cases q : 0 ≤ vF L'
  ·rw [valW_bad hw' q] at hr
   simp only [Prod.mk.injEq] at hr
   omega
  ·omega
 have hg : gF L' = none := by
  rcases evW_front2 (Nat.le_of_lt hn) h1 hw' with ⟨rfl, _⟩ | ⟨R, hR, _⟩
  ·exact h3
  ·cases hq : gF L' with
   |none => rfl
   |some x =>
    have := (gF_front (L := L') (R := R) (by rw [← hR]; exact evW_fits hz h1)).1 x hq
    rw [← hR, h3] at this
    cases this
 rw [gramW_none hw' hg]
 rwa [valW_good hw' hvf] at hr
end Go.Proofs.YtiiimhamfibdbaaGreat
/- What of a list its bytes tell: two lists of the same bytes; the order in which a set's attributes are handed in. In plain words. -/
namespace Go.Proofs.YtiiimhamfibdbaaGreat
open Go.RowKit Go.PlainAid
set_option linter.unusedVariables false
theorem app_nil (f : Fo) : f.app .nil = f := by
 induction f with
 |nil => rfl
 |leaf c t C r ih => show Fo.leaf c t C (r.app .nil) = _; rw [ih]
 |node c t k r _ ih => show Fo.node c t k (r.app .nil) = _; rw [ih]
end Go.Proofs.YtiiimhamfibdbaaGreat
/- In whatever order the attributes of a set are handed in, its bytes are the same. In plain words. -/
namespace Go.Proofs.YtiiimhamfibdbaaGreat
open Go.RowKit Go.PlainAid
set_option linter.unusedVariables false
/-! ### two elements that are held alike are one -/
end Go.Proofs.YtiiimhamfibdbaaGreat
