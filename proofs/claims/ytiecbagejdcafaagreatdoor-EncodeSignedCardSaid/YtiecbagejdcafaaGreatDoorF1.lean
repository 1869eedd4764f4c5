/- Elements as trees: a row of elements, each primitive with its content or constructed with a row of its own; their bytes, the events that they bring about, and that a text of them is told so. It holds of lists alone, under no condition on the program. -/
import Derived.Test.YtiecbagejdcafaaGreatDoorV1
import Derived.Test.YtiecbagejdcafaaGreatDoorR1
import Derived.Test.YtiecbagejdcafaaGreatDoorW4
import Derived.Test.YtiecbagejdcafaaGreatDoorO1
namespace Go.Proofs.YtiecbagejdcafaaGreatDoor
open Go.RowKit Go.PlainAid
set_option linter.unusedVariables false
inductive Fo where
 |nil : Fo
 |leaf (c t : Int) (C : List Int) (r : Fo) : Fo
 |node (c t : Int) (k r : Fo) : Fo
def Fo.enc : Fo → List Int
 |.nil => []
 |.leaf c t C r => hdPut c t false (C.length : Int) ++ C ++ r.enc
 |.node c t k r => hdPut c t true (k.enc.length : Int) ++ k.enc ++ r.enc
def Fo.evs : Fo → Nat → List Ev
 |.nil, _ => []
 |.leaf c t C r, p =>
  evLeaf (p + (hdPut c t false (C.length : Int)).length - 1) c t false (C.length : Int) :: (bytesE C (p + (hdPut c t false (C.length : Int)).length) ++
   evEnd (p + (hdPut c t false (C.length : Int)).length + C.length - 1) :: r.evs (p + (hdPut c t false (C.length : Int)).length + C.length))
 |.node c t k r, p =>
  evEnter (p + (hdPut c t true (k.enc.length : Int)).length - 1) c t true (k.enc.length : Int) :: (k.evs (p + (hdPut c t true (k.enc.length : Int)).length) ++
   evExit (p + (hdPut c t true (k.enc.length : Int)).length + k.enc.length - 1) :: r.evs (p + (hdPut c t true (k.enc.length : Int)).length + k.enc.length))
def Fo.depth : Fo → Nat
 |.nil => 0
 |.leaf _ _ _ r => r.depth
 |.node _ _ k r => max (k.depth + 1) r.depth
def Fo.count : Fo → Nat
 |.nil => 0
 |.leaf _ _ _ r => r.count + 1
 |.node _ _ _ r => r.count + 1
def Fo.Ok : Fo → Prop
 |.nil => True
 |.leaf c t C r => hdOk c t (C.length : Int) = true ∧ IsB C ∧ r.Ok
 |.node c t k r => hdOk c t (k.enc.length : Int) = true ∧ k.Ok ∧ r.Ok
def Fo.app : Fo → Fo → Fo
 |.nil, s => s
 |.leaf c t C r, s => .leaf c t C (r.app s)
 |.node c t k r, s => .node c t k (r.app s)
theorem Fo.enc_app (f s : Fo) : (f.app s).enc = f.enc ++ s.enc := by
 induction f with
 |nil => rfl
 |leaf c t C r ih => show _ ++ _ ++ (r.app s).enc = _; rw [ih]; simp [Fo.enc]
 |node c t k r _ ih => show _ ++ _ ++ (r.app s).enc = _; rw [ih]; simp [Fo.enc]
theorem Fo.depth_app (f s : Fo) : (f.app s).depth = max f.depth s.depth := by
 induction f with
 |nil => show s.depth = max 0 s.depth; omega
 |leaf c t C r ih => exact ih
 |node c t l r _ ih => show max _ (r.app s).depth = max (max _ _) _; rw [ih]; omega
theorem Fo.isB {f : Fo} (h : f.Ok) : IsB f.enc := by
 induction f with
 |nil => exact IsB.nil
 |leaf c t C r ih => exact ((hdPut_isB h.1).append h.2.1).append (ih h.2.2)
 |node c t k r ihk ih => exact ((hdPut_isB h.1).append (ihk h.2.1)).append (ih h.2.2)
theorem Fo.len_count (f : Fo) (h : f.Ok) : 2 * f.count ≤ f.enc.length := by
 induction f with
 |nil => exact Nat.le_refl _
 |leaf c t C r ih =>
  have := ih h.2.2
  have h2 := (hdPut_length (k := false) h.1).1
  show 2 * (r.count + 1) ≤ (hdPut c t false (C.length : Int) ++ C ++ r.enc).length
  rw [List.length_append, List.length_append]; omega
 |node c t k r ihk ih =>
  have := ih h.2.2
  have h2 := (hdPut_length (k := true) h.1).1
  show 2 * (r.count + 1) ≤ (hdPut c t true (k.enc.length : Int) ++ k.enc ++ r.enc).length
  rw [List.length_append, List.length_append]; omega
theorem leaf_elem {c t : Int} {C : List Int} (h : hdOk c t (C.length : Int) = true) (A r : List Int) (d : Nat) (e : Int) (he : e = -1 ∨ ((A.length + (hdPut c t false (C.length : Int)).length + C.length : Nat) : Int) ≤ e) :
  elemP (A ++ (hdPut c t false (C.length : Int) ++ C ++ r)) d A.length e = ⟨(Fo.leaf c t C .nil).evs A.length, 0, A.length + (hdPut c t false (C.length : Int)).length + C.length⟩ := by
 have h2 := (hdPut_length (k := false) h).1
 have hs : startL [] ((A ++ (hdPut c t false (C.length : Int) ++ C ++ r)).drop A.length) A.length e = ((c, t, false, (C.length : Int)), A.length + (hdPut c t false (C.length : Int)).length - 1, 0) := by
  rw [List.drop_left, List.append_assoc]
  exact start_head h (C ++ r) A.length e (by rcases he with h | h; exact .inl h; right; omega)
 unfold Fo.evs Fo.evs
 generalize hH : hdPut c t false (C.length : Int) = H at *
 have hp1 : A.length + H.length - 1 + 1 = A.length + H.length := by omega
 rw [elemP_leaf d hs (by rw [hp1]; omega), hp1]
 have hdr : (A ++ (H ++ C ++ r)).drop (A.length + H.length) = C ++ r := by
  rw [List.append_assoc H C r, ← List.append_assoc A H, ← List.length_append, List.drop_left]
 have hlp : leafP (A ++ (H ++ C ++ r)) (A.length + H.length) (C.length : Int) = ⟨bytesE C (A.length + H.length) ++ [evEnd (A.length + H.length + C.length - 1)], 0, A.length + H.length + C.length⟩ := by
  unfold leafP
  by_cases h0 : (C.length : Int) = 0
  ·have hC : C = [] := List.eq_nil_of_length_eq_zero (by omega)
   subst hC
   rw [if_pos h0]; rfl
  ·rw [if_neg h0, hdr, if_neg (by rw [List.length_append]; omega), Int.toNat_natCast, List.take_left]
 rw [hlp]
theorem node_elem {c t : Int} {K : List Int} {E : List Ev} (h : hdOk c t (K.length : Int) = true) (A r : List Int) (d : Nat) (e : Int) (he : e = -1 ∨ ((A.length + (hdPut c t true (K.length : Int)).length + K.length : Nat) : Int) ≤ e)
  (hk : ∀ acc g, (A ++ (hdPut c t true (K.length : Int) ++ K ++ r)).length + 1 ≤ g → loopP (fun i => elemP (A ++ (hdPut c t true (K.length : Int) ++ K ++ r)) d i ((A.length + (hdPut c t true (K.length : Int)).length + K.length : Nat) : Int)) g ⟨acc, 0, A.length + (hdPut c t true (K.length : Int)).length⟩ ((A.length + (hdPut c t true (K.length : Int)).length + K.length : Nat) : Int) = ⟨acc ++ E, 0, A.length + (hdPut c t true (K.length : Int)).length + K.length⟩) :
  elemP (A ++ (hdPut c t true (K.length : Int) ++ K ++ r)) (d + 1) A.length e = ⟨evEnter (A.length + (hdPut c t true (K.length : Int)).length - 1) c t true (K.length : Int) :: (E ++ [evExit (A.length + (hdPut c t true (K.length : Int)).length + K.length - 1)]), 0, A.length + (hdPut c t true (K.length : Int)).length + K.length⟩ := by
 have h2 := (hdPut_length (k := true) h).1
 have hs : startL [] ((A ++ (hdPut c t true (K.length : Int) ++ K ++ r)).drop A.length) A.length e = ((c, t, true, (K.length : Int)), A.length + (hdPut c t true (K.length : Int)).length - 1, 0) := by
  rw [List.drop_left, List.append_assoc]
  exact start_head h (K ++ r) A.length e (by rcases he with h | h; exact .inl h; right; omega)
 generalize hH : hdPut c t true (K.length : Int) = H at *
 have hp1 : A.length + H.length - 1 + 1 = A.length + H.length := by omega
 rw [elemP_open d hs (by rw [hp1]; omega), hp1, show ((A.length + H.length : Nat) : Int) + (K.length : Int) = ((A.length + H.length + K.length : Nat) : Int) by omega, hk _ _ (Nat.le_refl _), if_neg (fun h => h rfl)]
 simp
theorem Fo.loop (f : Fo) : ∀ (A r : List Int) (d g : Nat) (acc : List Ev) (E : Nat), f.Ok → f.depth ≤ d → E = A.length + f.enc.length → f.count + 1 ≤ g →
  loopP (fun i => elemP (A ++ (f.enc ++ r)) d i (E : Int)) g ⟨acc, 0, A.length⟩ (E : Int) = ⟨acc ++ f.evs A.length, 0, E⟩ := by
 induction f with
 |nil =>
  intro A r d g acc E ho hd hE hg
  obtain ⟨g, rfl⟩ : ∃ k, g = k + 1 := ⟨g - 1, by omega⟩
  rw [loopP, if_neg (by show ¬ (A.length : Int) < E; simp [Fo.enc] at hE; omega)]
  simp [Fo.enc] at hE
  show _ = Told.mk (acc ++ []) 0 E
  rw [List.append_nil, hE]
 |leaf c t C s ih =>
  intro A r d g acc E ho hd hE hg
  obtain ⟨g, rfl⟩ : ∃ k, g = k + 1 := ⟨g - 1, by omega⟩
  have h2 := (hdPut_length (k := false) ho.1).1
  have hEl : E = A.length + (hdPut c t false (C.length : Int)).length + C.length + s.enc.length := by rw [hE]; simp [Fo.enc]; omega
  have hel := leaf_elem ho.1 A (s.enc ++ r) d (E : Int) (.inr (by omega))
  rw [show hdPut c t false (C.length : Int) ++ C ++ (s.enc ++ r) = (Fo.leaf c t C s).enc ++ r by simp [Fo.enc]] at hel
  rw [loopP, if_pos (by show (A.length : Int) < E; omega), hel, if_neg (fun h => h rfl)]
  have hi := ih (A ++ (hdPut c t false (C.length : Int) ++ C)) r d g (acc ++ (Fo.leaf c t C .nil).evs A.length) E ho.2.2 hd (by rw [hEl, List.length_append, List.length_append]; omega) (by have : s.count + 1 + 1 ≤ g + 1 := hg; omega)
  rw [show A ++ (hdPut c t false (C.length : Int) ++ C) ++ (s.enc ++ r) = A ++ ((Fo.leaf c t C s).enc ++ r) by simp [Fo.enc], show (A ++ (hdPut c t false (C.length : Int) ++ C)).length = A.length + (hdPut c t false (C.length : Int)).length + C.length by rw [List.length_append, List.length_append]; omega] at hi
  rw [hi]
  simp [Fo.evs]
 |node c t k s ihk ih =>
  intro A r d g acc E ho hd hE hg
  obtain ⟨g, rfl⟩ : ∃ k, g = k + 1 := ⟨g - 1, by omega⟩
  have hd1 : k.depth + 1 ≤ d := by have : max (k.depth + 1) s.depth ≤ d := hd; omega
  have hd2 : s.depth ≤ d := by have : max (k.depth + 1) s.depth ≤ d := hd; omega
  obtain ⟨d, rfl⟩ : ∃ q, d = q + 1 := ⟨d - 1, by omega⟩
  have h2 := (hdPut_length (k := true) ho.1).1
  have hEl : E = A.length + (hdPut c t true (k.enc.length : Int)).length + k.enc.length + s.enc.length := by rw [hE]; simp [Fo.enc]; omega
  have hel := node_elem (E := k.evs (A.length + (hdPut c t true (k.enc.length : Int)).length)) ho.1 A (s.enc ++ r) d (E : Int) (.inr (by omega)) (fun acc' g' hg' => by
   have hi := ihk (A ++ hdPut c t true (k.enc.length : Int)) (s.enc ++ r) d g' acc' (A.length + (hdPut c t true (k.enc.length : Int)).length + k.enc.length) ho.2.1 (by omega) (by rw [List.length_append]) (by
    have hc := k.len_count ho.2.1
    rw [List.length_append, List.length_append, List.length_append] at hg'
    omega)
   rw [show A ++ hdPut c t true (k.enc.length : Int) ++ (k.enc ++ (s.enc ++ r)) = A ++ (hdPut c t true (k.enc.length : Int) ++ k.enc ++ (s.enc ++ r)) by simp, show (A ++ hdPut c t true (k.enc.length : Int)).length = A.length + (hdPut c t true (k.enc.length : Int)).length by rw [List.length_append]] at hi
   exact hi)
  rw [show hdPut c t true (k.enc.length : Int) ++ k.enc ++ (s.enc ++ r) = (Fo.node c t k s).enc ++ r by simp [Fo.enc]] at hel
  rw [loopP, if_pos (by show (A.length : Int) < E; omega), hel, if_neg (fun h => h rfl)]
  have hi := ih (A ++ (hdPut c t true (k.enc.length : Int) ++ k.enc)) r (d + 1) g (acc ++ (evEnter (A.length + (hdPut c t true (k.enc.length : Int)).length - 1) c t true (k.enc.length : Int) :: (k.evs (A.length + (hdPut c t true (k.enc.length : Int)).length) ++ [evExit (A.length + (hdPut c t true (k.enc.length : Int)).length + k.enc.length - 1)]))) E ho.2.2 hd2 (by rw [hEl, List.length_append, List.length_append]; omega) (by have : s.count + 1 + 1 ≤ g + 1 := hg; omega)
  rw [show A ++ (hdPut c t true (k.enc.length : Int) ++ k.enc) ++ (s.enc ++ r) = A ++ ((Fo.node c t k s).enc ++ r) by simp [Fo.enc], show (A ++ (hdPut c t true (k.enc.length : Int) ++ k.enc)).length = A.length + (hdPut c t true (k.enc.length : Int)).length + k.enc.length by rw [List.length_append, List.length_append]; omega] at hi
  rw [hi]
  simp [Fo.evs]
end Go.Proofs.YtiecbagejdcafaaGreatDoor
/- One element as a tree: what a text of it is told to be; that nothing is wrong with it, if each content is right; that its bytes are its own. It holds of lists alone, under no condition on the program. -/
namespace Go.Proofs.YtiecbagejdcafaaGreatDoor
open Go.RowKit Go.PlainAid
set_option linter.unusedVariables false
theorem Fo.count0 {f : Fo} (h : f.count = 0) : f = .nil := by
 cases f with
 |nil => rfl
 |leaf c t C r => exact absurd h (Nat.succ_ne_zero _)
 |node c t k r => exact absurd h (Nat.succ_ne_zero _)
theorem Fo.elem {f : Fo} (ho : f.Ok) (h1 : f.count = 1) (r : List Int) (d : Nat) (hd : f.depth ≤ d) : elemP (f.enc ++ r) d 0 (-1) = ⟨f.evs 0, 0, f.enc.length⟩ := by
 cases f with
 |nil => cases h1
 |leaf c t C s =>
  obtain rfl := Fo.count0 (show s.count = 0 by have : s.count + 1 = 1 := h1; omega)
  have h := leaf_elem ho.1 [] r d (-1) (.inl rfl)
  have e : (Fo.leaf c t C .nil).enc = hdPut c t false (C.length : Int) ++ C := by simp [Fo.enc]
  rw [e]
  rw [List.nil_append, List.length_nil] at h
  rw [h, List.length_append]; simp
 |node c t k s =>
  obtain rfl := Fo.count0 (show s.count = 0 by have : s.count + 1 = 1 := h1; omega)
  have hd1 : k.depth + 1 ≤ d := by have : max (k.depth + 1) (Fo.nil).depth ≤ d := hd; omega
  obtain ⟨d, rfl⟩ : ∃ q, d = q + 1 := ⟨d - 1, by omega⟩
  have e : (Fo.node c t k .nil).enc = hdPut c t true (k.enc.length : Int) ++ k.enc := by simp [Fo.enc]
  have h := node_elem (E := k.evs (hdPut c t true (k.enc.length : Int)).length) ho.1 [] r d (-1) (.inl rfl) (fun acc' g' hg' => by
   have hi := Fo.loop k (hdPut c t true (k.enc.length : Int)) r d g' acc' ((hdPut c t true (k.enc.length : Int)).length + k.enc.length) ho.2.1 (by omega) rfl (by
    have hc := k.len_count ho.2.1
    rw [List.nil_append, List.length_append, List.length_append] at hg'
    omega)
   simp only [List.nil_append, List.length_nil, Nat.zero_add]
   rw [show hdPut c t true (k.enc.length : Int) ++ k.enc ++ r = hdPut c t true (k.enc.length : Int) ++ (k.enc ++ r) by simp]
   exact hi)
  rw [e]
  rw [List.nil_append, List.length_nil] at h
  rw [h, List.length_append]
  simp [Fo.evs]
theorem Fo.whole {f : Fo} (ho : f.Ok) (h1 : f.count = 1) (d : Nat) (hd : f.depth ≤ d) : evWhole d f.enc = (f.evs 0, 0, f.enc.length) := by
 have h := Fo.elem ho h1 [] d hd
 rw [List.append_nil] at h
 rw [whole_is f.enc (Fo.isB ho) d, h, if_neg (fun q => absurd q.2 (Nat.lt_irrefl _))]
def Fo.Good : Fo → Prop
 |.nil => True
 |.leaf c t C r => (c ≠ 0 ∨ (t ≠ 0 ∧ t ≠ 16 ∧ t ≠ 17 ∧ vW t (C.length : Int) C < 0)) ∧ r.Good
 |.node c t k r => (c ≠ 0 ∨ t = 16 ∨ t = 17) ∧ k.Good ∧ r.Good
theorem Fo.good_app {f s : Fo} (h : f.Good) (k : s.Good) : (f.app s).Good := by
 induction f with
 |nil => exact k
 |leaf c t C r ih => exact ⟨h.1, ih h.2⟩
 |node c t l r _ ih => exact ⟨h.1, h.2.1, ih h.2.2⟩
theorem cameL_bytes (C : List Int) (X : List Ev) (hX : cameL X = []) : ∀ p, cameL (bytesE C p ++ X) = C := by
 induction C with
 |nil => intro p; exact hX
 |cons x C ih => intro p; show cameL (evByte p x :: (bytesE C (p + 1) ++ X)) = _; rw [cameL_of rfl, ih]; rfl
theorem vF_ok {e : Ev} {r : List Ev} (h : vEv e r < 0) (hr : vF r < 0) : vF (e :: r) < 0 := by
 rw [vF, if_neg (by omega), if_neg (by omega)]; decide
theorem vF_bytes (C : List Int) (X : List Ev) (hX : vF X < 0) : ∀ p, vF (bytesE C p ++ X) < 0 := by
 induction C with
 |nil => intro p; exact hX
 |cons x C ih => intro p; exact vF_ok (by unfold vEv evByte; simp) (ih _)
theorem Fo.vF_evs (f : Fo) : ∀ (p : Nat) (X : List Ev), f.Good → vF X < 0 → vF (f.evs p ++ X) < 0 := by
 induction f with
 |nil => intro p X _ hX; exact hX
 |leaf c t C r ih =>
  intro p X hg hX
  show vF (_ :: ((_ ++ evEnd _ :: r.evs _) ++ X)) < 0
  rw [List.append_assoc, List.cons_append]
  refine vF_ok ?_ (vF_bytes C _ (vF_ok (by unfold vEv evEnd; simp) (ih _ _ hg.2 hX)) _)
  unfold vEv
  rcases hg.1 with h | ⟨h0, h16, h17, hw⟩
  ·rw [if_pos (by exact h)]; decide
  ·by_cases hc : c = 0
   ·rw [if_neg (by show ¬ c ≠ 0; omega), if_neg (by show ¬ (2 : Int) = 1; decide), if_neg (by show ¬ (2 : Int) ≠ 2; decide), if_neg (by show ¬ (t = 0 ∨ t = 16 ∨ t = 17); omega), cameL_bytes C _ (by rw [cameL, if_neg (by show ¬ (4 : Int) = 3; decide)])]
    exact hw
   ·rw [if_pos (by exact hc)]; decide
 |node c t k r ihk ih =>
  intro p X hg hX
  show vF (_ :: ((k.evs _ ++ evExit _ :: r.evs _) ++ X)) < 0
  rw [List.append_assoc, List.cons_append]
  refine vF_ok ?_ (ihk _ _ hg.2.1 (vF_ok (by unfold vEv evExit; simp) (ih _ _ hg.2.2 hX)))
  unfold vEv
  by_cases hc : c = 0
  ·rw [if_neg (by show ¬ c ≠ 0; omega), if_pos (by show (1 : Int) = 1; rfl), if_pos]
   ·decide
   ·rcases hg.1 with h | h
    ·exact absurd hc h
    ·exact h
  ·rw [if_pos (by exact hc)]; decide
theorem Fo.val {f : Fo} (ho : f.Ok) (h1 : f.count = 1) (hg : f.Good) (dep : Int) (hd : f.depth ≤ evMost dep) : evW (strOfNums f.enc) dep = (f.evs 0, 0, f.enc.length) ∧ valW (strOfNums f.enc) dep = (0, (f.enc.length : Int)) := by
 have he : evW (strOfNums f.enc) dep = (f.evs 0, 0, f.enc.length) := by
  unfold evW
  rw [bl_str (Fo.isB ho)]
  exact Fo.whole ho h1 _ hd
 refine ⟨he, valW_good he ?_⟩
 have := Fo.vF_evs f 0 [] hg (by decide)
 rwa [List.append_nil] at this
/-! ### Its bytes are its own -/
theorem put_inj {c t : Int} {k : Bool} {n : Int} {c' t' : Int} {k' : Bool} {n' : Int} {x y : List Int} (h : hdOk c t n = true) (h' : hdOk c' t' n' = true) (e : hdPut c t k n ++ x = hdPut c' t' k' n' ++ y) : c = c' ∧ t = t' ∧ k = k' ∧ n = n' ∧ x = y := by
 have h1 := hdGet_put (k := k) h x
 have h2 := hdGet_put (k := k') h' y
 rw [e, h2] at h1
 simp only [Prod.mk.injEq] at h1
 obtain ⟨rfl, rfl, rfl, rfl, _, _⟩ := h1
 exact ⟨rfl, rfl, rfl, rfl, List.append_cancel_left e⟩
theorem Fo.inj (f : Fo) : ∀ f' : Fo, f.Ok → f'.Ok → f.enc = f'.enc → f = f' := by
 have hne : ∀ {c t : Int} {k : Bool} {n : Int} {x : List Int}, hdOk c t n = true → hdPut c t k n ++ x ≠ [] := fun {c t k n x} h e => by
  have := (hdPut_length (k := k) h).1
  have := congrArg List.length e
  rw [List.length_append, List.length_nil] at this
  omega
 induction f with
 |nil =>
  intro f' _ ho e
  cases f' with
  |nil => rfl
  |leaf c t C r =>
   have e : [] = hdPut c t false (C.length : Int) ++ C ++ r.enc := e
   rw [List.append_assoc] at e
   exact absurd e.symm (hne ho.1)
  |node c t k r =>
   have e : [] = hdPut c t true (k.enc.length : Int) ++ k.enc ++ r.enc := e
   rw [List.append_assoc] at e
   exact absurd e.symm (hne ho.1)
 |leaf c t C r ih =>
  intro f' ho ho' e
  have e : hdPut c t false (C.length : Int) ++ C ++ r.enc = f'.enc := e
  rw [List.append_assoc] at e
  cases f' with
  |nil => exact absurd e (hne ho.1)
  |leaf c' t' C' r' =>
   have e : hdPut c t false (C.length : Int) ++ (C ++ r.enc) = hdPut c' t' false (C'.length : Int) ++ C' ++ r'.enc := e
   rw [List.append_assoc] at e
   obtain ⟨rfl, rfl, _, hn, e⟩ := put_inj ho.1 ho'.1 e
   obtain ⟨rfl, e2⟩ := List.append_inj e (by omega)
   rw [ih r' ho.2.2 ho'.2.2 e2]
  |node c' t' k' r' =>
   have e : hdPut c t false (C.length : Int) ++ (C ++ r.enc) = hdPut c' t' true (k'.enc.length : Int) ++ k'.enc ++ r'.enc := e
   rw [List.append_assoc] at e
   obtain ⟨_, _, h, _⟩ := put_inj ho.1 ho'.1 e
   cases h
 |node c t k r ihk ih =>
  intro f' ho ho' e
  have e : hdPut c t true (k.enc.length : Int) ++ k.enc ++ r.enc = f'.enc := e
  rw [List.append_assoc] at e
  cases f' with
  |nil => exact absurd e (hne ho.1)
  |leaf c' t' C' r' =>
   have e : hdPut c t true (k.enc.length : Int) ++ (k.enc ++ r.enc) = hdPut c' t' false (C'.length : Int) ++ C' ++ r'.enc := e
   rw [List.append_assoc] at e
   obtain ⟨_, _, h, _⟩ := put_inj ho.1 ho'.1 e
   cases h
  |node c' t' k' r' =>
   have e : hdPut c t true (k.enc.length : Int) ++ (k.enc ++ r.enc) = hdPut c' t' true (k'.enc.length : Int) ++ k'.enc ++ r'.enc := e
   rw [List.append_assoc] at e
   obtain ⟨rfl, rfl, _, hn, e⟩ := put_inj ho.1 ho'.1 e
   obtain ⟨e1, e2⟩ := List.append_inj e (by omega)
   rw [ihk k' ho.2.1 ho'.2.1 e1, ih r' ho.2.2 ho'.2.2 e2]
end Go.Proofs.YtiecbagejdcafaaGreatDoor
/- Lists of revoked certificates as values, and their elements: in plain words. -/
namespace Go.Proofs.YtiecbagejdcafaaGreatDoor
open Go.RowKit Go.PlainAid
set_option linter.unusedVariables false
structure AttrV where
 oid : List Int
 tag : Int
 text : ByteArray
structure ExtV where
 oid : List Int
 crit : Bool
 val : ByteArray
structure EntryV where
 serial : ByteArray
 date : ByteArray
 exts : List ExtV
structure CrlV where
 v2 : Bool
 alg : List Int
 issuer : List (List AttrV)
 this : ByteArray
 next : ByteArray
 entries : List EntryV
 exts : List ExtV
 sig : ByteArray
def lf (t : Int) (C : List Int) : Fo := .leaf 0 t C .nil
def sq (k : Fo) : Fo := .node 0 16 k .nil
def joinF : List Fo → Fo
 |[] => .nil
 |f :: r => f.app (joinF r)
def encS (f : Fo) : ByteArray := strOfNums f.enc
/-! ### names -/
def attrOk (a : AttrV) : Bool := arcsOk a.oid && decide (a.tag = 12 ∨ a.tag = 19 ∨ a.tag = 22) && decide (rightT a.tag (bl a.text))
def attrF (a : AttrV) : Fo := sq (.leaf 0 6 (oL a.oid) (lf a.tag (bl a.text)))
def insF (out : List Fo) (x : Fo) : List Fo := out.take (kO (out.map encS) (encS x) out.length) ++ x :: out.drop (kO (out.map encS) (encS x) out.length)
def sortF (l : List Fo) : List Fo := l.foldl insF []
theorem insF_map (out : List Fo) (x : Fo) : (insF out x).map encS = insP (out.map encS) (encS x) := by
 unfold insF insP
 rw [List.map_append, List.map_cons, List.map_take, List.map_drop, List.length_map]
theorem sortF_map (l : List Fo) : (sortF l).map encS = sortS (l.map encS) := by
 have h : ∀ (l acc : List Fo), (l.foldl insF acc).map encS = (l.map encS).foldl insP (acc.map encS) := by
  intro l
  induction l with
  |nil => intro acc; rfl
  |cons x l ih => intro acc; rw [List.foldl_cons, ih, insF_map]; rfl
 exact h l []
theorem insF_mem {out : List Fo} {x y : Fo} : y ∈ insF out x ↔ y ∈ out ∨ y = x := by
 unfold insF
 rw [List.mem_append, List.mem_cons]
 have : ∀ k, y ∈ out ↔ y ∈ out.take k ∨ y ∈ out.drop k := fun k => by rw [← List.mem_append, List.take_append_drop]
 rw [this (kO (out.map encS) (encS x) out.length)]
 constructor
 ·rintro (h | h | h)
  ·exact .inl (.inl h)
  ·exact .inr h
  ·exact .inl (.inr h)
 ·rintro ((h | h) | h)
  ·exact .inl h
  ·exact .inr (.inr h)
  ·exact .inr (.inl h)
theorem sortF_mem (l : List Fo) (y : Fo) : y ∈ sortF l ↔ y ∈ l := by
 have h : ∀ (l acc : List Fo), y ∈ l.foldl insF acc ↔ y ∈ acc ∨ y ∈ l := by
  intro l
  induction l with
  |nil => intro acc; simp
  |cons x l ih =>
   intro acc
   rw [List.foldl_cons, ih, insF_mem, List.mem_cons]
   constructor
   ·rintro ((h | h) | h)
    ·exact .inl h
    ·exact .inr (.inl h)
    ·exact .inr (.inr h)
   ·rintro (h | h | h)
    ·exact .inl (.inl h)
    ·exact .inl (.inr h)
    ·exact .inr h
 have := h l []
 unfold sortF
 simpa using this
theorem sortF_len (l : List Fo) : (sortF l).length = l.length := by
 have := congrArg List.length (sortF_map l)
 rw [List.length_map, sortS_len, List.length_map] at this
 exact this
def setOk (l : List AttrV) : Bool := !l.isEmpty && l.all attrOk
def setF (l : List AttrV) : Fo := .node 0 17 (joinF (sortF (l.map attrF))) .nil
def nameOk (l : List (List AttrV)) : Bool := l.all setOk
def nameF (l : List (List AttrV)) : Fo := sq (joinF (l.map setF))
/-! ### extensions, times, entries -/
def extOk (x : ExtV) : Bool := arcsOk x.oid
def extF (x : ExtV) : Fo := sq (.leaf 0 6 (oL x.oid) ((if x.crit = true then lf 1 [255] else .nil).app (lf 4 (bl x.val))))
def extsOk (l : List ExtV) : Bool := !l.isEmpty && l.all extOk
def extsF (l : List ExtV) : Fo := sq (joinF (l.map extF))
def dateF (d : ByteArray) : Fo := lf (wTag d) (bl (wC d))
def serOk (s : ByteArray) : Bool := decide (0 < s.size ∧ nmWrong 2 s.size s = -1)
def entryOk (x : EntryV) : Bool := serOk x.serial && wOk x.date && (x.exts.isEmpty || extsOk x.exts)
def entryF (x : EntryV) : Fo := sq (.leaf 0 2 (bl x.serial) ((dateF x.date).app (if x.exts.isEmpty = true then .nil else extsF x.exts)))
/-! ### lists -/
def algF (l : List Int) : Fo := sq (.leaf 0 6 (oL l) (lf 5 []))
def CrlV.valOk (c : CrlV) : Bool := arcsOk c.alg && nameOk c.issuer && wOk c.this && (decide (c.next.size = 0) || wOk c.next) && c.entries.all entryOk && (c.exts.isEmpty || extsOk c.exts)
def CrlV.has (c : CrlV) : Bool := !c.exts.isEmpty || c.entries.any (fun x => !x.exts.isEmpty)
def tbsE (c : CrlV) : Int := if c.valOk = false then 7 else if c.has = true ∧ c.v2 = false then 8 else 0
def tbsK (c : CrlV) : Fo :=
 (if c.v2 = true then lf 2 [1] else .nil).app ((algF c.alg).app ((nameF c.issuer).app ((dateF c.this).app ((if c.next.size = 0 then .nil else dateF c.next).app
  ((if c.entries.isEmpty = true then .nil else sq (joinF (c.entries.map entryF))).app (if c.exts.isEmpty = true then .nil else .node 2 0 (extsF c.exts) .nil))))))
def tbsF (c : CrlV) : Fo := sq (tbsK c)
def crlF (c : CrlV) : Fo := sq ((tbsF c).app ((algF c.alg).app (lf 3 (0 :: bl c.sig))))
def tbsS (c : CrlV) : ByteArray := if tbsE c = 0 then encS (tbsF c) else ⟨#[]⟩
def crlS (c : CrlV) : ByteArray := if tbsE c = 0 then encS (crlF c) else ⟨#[]⟩
def nameS (l : List (List AttrV)) : ByteArray := if nameOk l = true then encS (nameF l) else ⟨#[]⟩
def extsS (l : List ExtV) : ByteArray := if extsOk l = true then encS (extsF l) else ⟨#[]⟩
/-! ### what they are made of -/
theorem joinF_enc (l : List Fo) : (joinF l).enc = l.flatMap Fo.enc := by
 induction l with
 |nil => rfl
 |cons f r ih => show (f.app (joinF r)).enc = _; rw [Fo.enc_app, ih, List.flatMap_cons]
theorem joinF_depth (l : List Fo) (d : Nat) (h : ∀ f ∈ l, f.depth ≤ d) : (joinF l).depth ≤ d := by
 induction l with
 |nil => exact Nat.zero_le _
 |cons f r ih =>
  show (f.app (joinF r)).depth ≤ d
  rw [Fo.depth_app]
  have h1 := h f (List.mem_cons_self ..)
  have h2 := ih (fun g hg => h g (List.mem_cons_of_mem _ hg))
  omega
theorem joinF_good (l : List Fo) (h : ∀ f ∈ l, f.Good) : (joinF l).Good := by
 induction l with
 |nil => trivial
 |cons f r ih => exact Fo.good_app (h f (List.mem_cons_self ..)) (ih (fun g hg => h g (List.mem_cons_of_mem _ hg)))
def Fo.Pre : Fo → Prop
 |.nil => True
 |.leaf c t C r => idOk c t = true ∧ IsB C ∧ r.Pre
 |.node c t k r => idOk c t = true ∧ k.Pre ∧ r.Pre
theorem Fo.pre_app {f s : Fo} (h : f.Pre) (k : s.Pre) : (f.app s).Pre := by
 induction f with
 |nil => exact k
 |leaf c t C r ih => exact ⟨h.1, h.2.1, ih h.2.2⟩
 |node c t l r _ ih => exact ⟨h.1, h.2.1, ih h.2.2⟩
theorem joinF_pre (l : List Fo) (h : ∀ f ∈ l, f.Pre) : (joinF l).Pre := by
 induction l with
 |nil => trivial
 |cons f r ih => exact Fo.pre_app (h f (List.mem_cons_self ..)) (ih (fun g hg => h g (List.mem_cons_of_mem _ hg)))
theorem Fo.ok_of (f : Fo) (h : f.Pre) (hl : f.enc.length ≤ 2305843009213693951) : f.Ok := by
 induction f with
 |nil => trivial
 |leaf c t C r ih =>
  have e : (hdPut c t false (C.length : Int) ++ C ++ r.enc).length ≤ 2305843009213693951 := hl
  rw [List.length_append, List.length_append] at e
  refine ⟨?_, h.2.1, ih h.2.2 (by omega)⟩
  rw [hdOk_iff]
  exact ⟨h.1, by unfold lenOk; simp; omega⟩
 |node c t k r ihk ih =>
  have e : (hdPut c t true (k.enc.length : Int) ++ k.enc ++ r.enc).length ≤ 2305843009213693951 := hl
  rw [List.length_append, List.length_append] at e
  refine ⟨?_, ihk h.2.1 (by omega), ih h.2.2 (by omega)⟩
  rw [hdOk_iff]
  exact ⟨h.1, by unfold lenOk; simp; omega⟩
end Go.Proofs.YtiecbagejdcafaaGreatDoor
/- Lists of revoked certificates as elements: they may be, their contents are right, and they are no deeper than six. In plain words. -/
namespace Go.Proofs.YtiecbagejdcafaaGreatDoor
open Go.RowKit Go.PlainAid
set_option linter.unusedVariables false
theorem idOk_leaf {t : Int} (h0 : 0 ≤ t) (h1 : t ≤ 268435455) : idOk 0 t = true := by rw [idOk_iff]; omega
theorem lf_pre {t : Int} {C : List Int} (h0 : 0 ≤ t) (h1 : t ≤ 268435455) (hC : IsB C) : (lf t C).Pre := ⟨idOk_leaf h0 h1, hC, trivial⟩
theorem sq_pre {k : Fo} (h : k.Pre) : (sq k).Pre := ⟨by decide, h, trivial⟩
theorem oid_pre {l : List Int} {r : Fo} (h : r.Pre) : (Fo.leaf 0 6 (oL l) r).Pre := ⟨by decide, oL_isB l, h⟩
theorem wTag_bd (d : ByteArray) : wTag d = 23 ∨ wTag d = 24 := by unfold wTag; split; exact .inl rfl; exact .inr rfl
theorem dateF_pre (d : ByteArray) : (dateF d).Pre := by
 have := wTag_bd d
 exact lf_pre (by omega) (by omega) (bl_isB _)
theorem attrOk_iff {a : AttrV} : attrOk a = true ↔ arcsOk a.oid = true ∧ (a.tag = 12 ∨ a.tag = 19 ∨ a.tag = 22) ∧ rightT a.tag (bl a.text) := by
 unfold attrOk
 rw [Bool.and_eq_true, Bool.and_eq_true, decide_eq_true_eq, decide_eq_true_eq, and_assoc]
theorem attrF_pre {a : AttrV} (h : attrOk a = true) : (attrF a).Pre := by
 obtain ⟨_, h2, _⟩ := attrOk_iff.1 h
 exact sq_pre (oid_pre (lf_pre (by omega) (by omega) (bl_isB _)))
theorem setOk_iff {l : List AttrV} : setOk l = true ↔ l ≠ [] ∧ ∀ a ∈ l, attrOk a = true := by
 unfold setOk
 rw [Bool.and_eq_true, List.all_eq_true]
 cases l <;> simp
theorem extsOk_iff {l : List ExtV} : extsOk l = true ↔ l ≠ [] ∧ ∀ a ∈ l, extOk a = true := by
 unfold extsOk
 rw [Bool.and_eq_true, List.all_eq_true]
 cases l <;> simp
theorem nameOk_iff {l : List (List AttrV)} : nameOk l = true ↔ ∀ s ∈ l, setOk s = true := by unfold nameOk; rw [List.all_eq_true]
theorem setF_pre {l : List AttrV} (h : setOk l = true) : (setF l).Pre := by
 obtain ⟨_, h2⟩ := setOk_iff.1 h
 refine ⟨by decide, joinF_pre _ (fun f hf => ?_), trivial⟩
 obtain ⟨a, ha, rfl⟩ := List.mem_map.1 ((sortF_mem _ f).1 hf)
 exact attrF_pre (h2 a ha)
theorem nameF_pre {l : List (List AttrV)} (h : nameOk l = true) : (nameF l).Pre :=
 sq_pre (joinF_pre _ (fun f hf => by
  obtain ⟨s, hs, rfl⟩ := List.mem_map.1 hf
  exact setF_pre (nameOk_iff.1 h s hs)))
theorem extF_pre (x : ExtV) : (extF x).Pre := by
 refine sq_pre (oid_pre (Fo.pre_app ?_ (lf_pre (by decide) (by decide) (bl_isB _))))
 split
 ·exact lf_pre (by decide) (by decide) (fun x hx => by simp at hx; omega)
 ·trivial
theorem extsF_pre (l : List ExtV) : (extsF l).Pre :=
 sq_pre (joinF_pre _ (fun f hf => by
  obtain ⟨s, hs, rfl⟩ := List.mem_map.1 hf
  exact extF_pre s))
theorem entryF_pre (x : EntryV) : (entryF x).Pre := by
 refine sq_pre ⟨by decide, bl_isB _, Fo.pre_app (dateF_pre _) ?_⟩
 split
 ·trivial
 ·exact extsF_pre _
theorem algF_pre (l : List Int) : (algF l).Pre := sq_pre (oid_pre (lf_pre (by decide) (by decide) IsB.nil))
theorem tbsF_pre {c : CrlV} (h : c.valOk = true) : (tbsF c).Pre := by
 unfold CrlV.valOk at h
 simp only [Bool.and_eq_true] at h
 have hn := h.1.1.1.1.2
 refine sq_pre (Fo.pre_app ?_ (Fo.pre_app (algF_pre _) (Fo.pre_app (nameF_pre hn) (Fo.pre_app (dateF_pre _) (Fo.pre_app ?_ (Fo.pre_app ?_ ?_))))))
 ·split
  ·exact lf_pre (by decide) (by decide) (fun x hx => by simp at hx; omega)
  ·trivial
 ·split
  ·trivial
  ·exact dateF_pre _
 ·split
  ·trivial
  ·refine sq_pre (joinF_pre _ (fun f hf => ?_))
   obtain ⟨s, hs, rfl⟩ := List.mem_map.1 hf
   exact entryF_pre s
 ·split
  ·trivial
  ·exact ⟨by decide, extsF_pre _, trivial⟩
theorem crlF_pre {c : CrlV} (h : c.valOk = true) : (crlF c).Pre :=
 sq_pre (Fo.pre_app (tbsF_pre h) (Fo.pre_app (algF_pre _) (lf_pre (by decide) (by decide) (IsB.cons (by decide) (by decide) (bl_isB _)))))
/-! ### depth -/
theorem lf_depth (t : Int) (C : List Int) : (lf t C).depth = 0 := rfl
theorem sq_depth (k : Fo) : (sq k).depth = k.depth + 1 := by show max (k.depth + 1) 0 = _; omega
theorem leaf_depth (c t : Int) (C : List Int) (r : Fo) : (Fo.leaf c t C r).depth = r.depth := rfl
theorem nil_depth : Fo.nil.depth = 0 := rfl
theorem extF_depth (x : ExtV) : (extF x).depth ≤ 1 := by
 unfold extF
 rw [sq_depth, leaf_depth, Fo.depth_app, lf_depth]
 split <;> simp [lf_depth, nil_depth]
theorem extsF_depth (l : List ExtV) : (extsF l).depth ≤ 2 := by
 unfold extsF
 rw [sq_depth]
 have := joinF_depth (l.map extF) 1 (fun f hf => by obtain ⟨s, _, rfl⟩ := List.mem_map.1 hf; exact extF_depth s)
 omega
theorem entryF_depth (x : EntryV) : (entryF x).depth ≤ 3 := by
 unfold entryF dateF
 rw [sq_depth, leaf_depth, Fo.depth_app, lf_depth]
 have := extsF_depth x.exts
 split <;> (try simp only [nil_depth]) <;> omega
theorem attrF_depth (a : AttrV) : (attrF a).depth = 1 := by unfold attrF; rw [sq_depth, leaf_depth, lf_depth]
theorem setF_depth (l : List AttrV) : (setF l).depth ≤ 2 := by
 have := joinF_depth (sortF (l.map attrF)) 1 (fun f hf => by obtain ⟨a, _, rfl⟩ := List.mem_map.1 ((sortF_mem _ f).1 hf); exact Nat.le_of_eq (attrF_depth a))
 show max ((joinF (sortF (l.map attrF))).depth + 1) 0 ≤ 2
 omega
theorem nameF_depth (l : List (List AttrV)) : (nameF l).depth ≤ 3 := by
 unfold nameF
 rw [sq_depth]
 have := joinF_depth (l.map setF) 2 (fun f hf => by obtain ⟨s, _, rfl⟩ := List.mem_map.1 hf; exact setF_depth s)
 omega
theorem algF_depth (l : List Int) : (algF l).depth = 1 := by unfold algF; rw [sq_depth, leaf_depth, lf_depth]
theorem tbsF_depth (c : CrlV) : (tbsF c).depth ≤ 5 := by
 unfold tbsF tbsK
 rw [sq_depth]
 simp only [Fo.depth_app]
 have h1 := algF_depth c.alg
 have h2 := nameF_depth c.issuer
 have h3 : (joinF (c.entries.map entryF)).depth ≤ 3 := joinF_depth _ 3 (fun f hf => by obtain ⟨s, _, rfl⟩ := List.mem_map.1 hf; exact entryF_depth s)
 have h4 := extsF_depth c.exts
 have a1 : (if c.v2 = true then lf 2 [1] else Fo.nil).depth = 0 := by split <;> rfl
 have a2 : (dateF c.this).depth = 0 := rfl
 have a3 : (if c.next.size = 0 then Fo.nil else dateF c.next).depth = 0 := by split <;> rfl
 have a4 : (if c.entries.isEmpty = true then Fo.nil else sq (joinF (c.entries.map entryF))).depth ≤ 4 := by
  split
  ·exact Nat.zero_le _
  ·rw [sq_depth]; omega
 have a5 : (if c.exts.isEmpty = true then Fo.nil else Fo.node 2 0 (extsF c.exts) .nil).depth ≤ 3 := by
  split
  ·exact Nat.zero_le _
  ·show max ((extsF c.exts).depth + 1) 0 ≤ 3; omega
 omega
theorem crlF_depth (c : CrlV) : (crlF c).depth ≤ 6 := by
 unfold crlF
 rw [sq_depth, Fo.depth_app, Fo.depth_app, algF_depth, lf_depth]
 have := tbsF_depth c
 omega
/-! ### contents that are right -/
theorem fW_oid {l : List Int} (h : arcsOk l = true) : vW 6 ((oL l).length : Int) (oL l) < 0 := by
 unfold vW
 rw [if_neg (by decide), if_pos rfl, (oL_right l h).2]; decide
theorem fW_text {t : Int} {l : List Int} (ht : t ≠ 1 ∧ t ≠ 2 ∧ t ≠ 5 ∧ t ≠ 10 ∧ t ≠ 6 ∧ t ≠ 3 ∧ t ≠ 23 ∧ t ≠ 24) (h : rightT t l) : vW t (l.length : Int) l < 0 := by
 unfold vW
 rw [if_neg (by omega), if_neg (by omega), if_neg (by omega), if_neg (by omega), (tx_right t l).1 h]; decide
theorem vW_date {d : ByteArray} (h : wOk d = true) : vW (wTag d) ((bl (wC d)).length : Int) (bl (wC d)) < 0 := by
 have := wTag_bd d
 unfold vW
 rw [if_neg (by omega), if_neg (by omega), if_neg (by omega), if_pos this, (wh_right (wTag d) (bl (wC d))).1 (w_put h).1]; decide
theorem vW_int {s : ByteArray} (h : serOk s = true) : vW 2 ((bl s).length : Int) (bl s) < 0 := by
 unfold serOk at h
 rw [decide_eq_true_eq] at h
 have h2 := h.2
 unfold nmWrong at h2
 rw [bt_g, bt_g] at h2
 unfold vW nWl
 rw [if_pos (by decide), bl_length, h2]; decide
theorem fW_bits (l : List Int) : vW 3 ((0 :: l).length : Int) (0 :: l) < 0 := by
 unfold vW bWl
 rw [if_neg (by decide), if_neg (by decide), if_pos rfl, if_neg (by rw [List.length_cons]; omega)]
 have e : g (0 :: l) 0 = 0 := rfl
 rw [e, if_neg (by rw [cB_zero]; simp), if_neg (by rw [cE_zero]; simp)]; decide
theorem lf_good {t : Int} {C : List Int} (ht : t ≠ 0 ∧ t ≠ 16 ∧ t ≠ 17) (h : vW t (C.length : Int) C < 0) : (lf t C).Good := ⟨.inr ⟨ht.1, ht.2.1, ht.2.2, h⟩, trivial⟩
theorem oid_good {l : List Int} {r : Fo} (h : arcsOk l = true) (hr : r.Good) : (Fo.leaf 0 6 (oL l) r).Good := ⟨.inr ⟨by decide, by decide, by decide, fW_oid h⟩, hr⟩
theorem sq_good {k : Fo} (h : k.Good) : (sq k).Good := ⟨.inr (.inl rfl), h, trivial⟩
theorem dateF_good {d : ByteArray} (h : wOk d = true) : (dateF d).Good := by
 have := wTag_bd d
 exact lf_good (by omega) (vW_date h)
theorem attrF_good {a : AttrV} (h : attrOk a = true) : (attrF a).Good := by
 obtain ⟨h1, h2, h3⟩ := attrOk_iff.1 h
 exact sq_good (oid_good h1 (lf_good (by omega) (fW_text (by omega) h3)))
theorem setF_good {l : List AttrV} (h : setOk l = true) : (setF l).Good := by
 obtain ⟨_, h2⟩ := setOk_iff.1 h
 refine ⟨.inr (.inr rfl), joinF_good _ (fun f hf => ?_), trivial⟩
 obtain ⟨a, ha, rfl⟩ := List.mem_map.1 ((sortF_mem _ f).1 hf)
 exact attrF_good (h2 a ha)
theorem nameF_good {l : List (List AttrV)} (h : nameOk l = true) : (nameF l).Good :=
 sq_good (joinF_good _ (fun f hf => by
  obtain ⟨s, hs, rfl⟩ := List.mem_map.1 hf
  exact setF_good (nameOk_iff.1 h s hs)))
theorem octets_right (l : List Int) : rightT 4 l := by
 rw [right_plain (by decide)]
 exact fun x _ => ⟨fun h => absurd h (by decide), fun h => absurd h (by decide)⟩
theorem extF_good {x : ExtV} (h : extOk x = true) : (extF x).Good := by
 refine sq_good (oid_good h (Fo.good_app ?_ (lf_good (by decide) (fW_text (by decide) (octets_right _)))))
 split
 ·exact lf_good (by decide) (by decide)
 ·trivial
theorem extsF_good {l : List ExtV} (h : extsOk l = true) : (extsF l).Good :=
 sq_good (joinF_good _ (fun f hf => by
  obtain ⟨s, hs, rfl⟩ := List.mem_map.1 hf
  exact extF_good ((extsOk_iff.1 h).2 s hs)))
theorem some_exts {l : List ExtV} (h : (l.isEmpty || extsOk l) = true) (he : ¬ l.isEmpty = true) : extsOk l = true := by
 rw [Bool.or_eq_true] at h
 rcases h with h | h
 ·exact absurd h he
 ·exact h
theorem entryOk_iff {x : EntryV} : entryOk x = true ↔ serOk x.serial = true ∧ wOk x.date = true ∧ (x.exts.isEmpty || extsOk x.exts) = true := by
 unfold entryOk
 rw [Bool.and_eq_true, Bool.and_eq_true, and_assoc]
theorem entryF_good {x : EntryV} (h : entryOk x = true) : (entryF x).Good := by
 obtain ⟨h1, h2, h3⟩ := entryOk_iff.1 h
 refine sq_good ⟨.inr ⟨by decide, by decide, by decide, vW_int h1⟩, Fo.good_app (dateF_good h2) ?_⟩
 split
 ·trivial
 ·rename_i he; exact extsF_good (some_exts h3 he)
theorem algF_good {l : List Int} (h : arcsOk l = true) : (algF l).Good := sq_good (oid_good h (lf_good (by decide) (by decide)))
theorem tbsF_good {c : CrlV} (h : c.valOk = true) : (tbsF c).Good := by
 unfold CrlV.valOk at h
 simp only [Bool.and_eq_true, List.all_eq_true] at h
 obtain ⟨⟨⟨⟨⟨h1, h2⟩, h3⟩, h4⟩, h5⟩, h6⟩ := h
 refine sq_good (Fo.good_app ?_ (Fo.good_app (algF_good h1) (Fo.good_app (nameF_good h2) (Fo.good_app (dateF_good h3) (Fo.good_app ?_ (Fo.good_app ?_ ?_))))))
 ·split
  ·exact lf_good (by decide) (by decide)
  ·trivial
 ·split
  ·trivial
  ·rename_i he
   rw [Bool.or_eq_true, decide_eq_true_eq] at h4
   rcases h4 with h4 | h4
   ·exact absurd h4 he
   ·exact dateF_good h4
 ·split
  ·trivial
  ·refine sq_good (joinF_good _ (fun f hf => ?_))
   obtain ⟨s, hs, rfl⟩ := List.mem_map.1 hf
   exact entryF_good (h5 s hs)
 ·split
  ·trivial
  ·rename_i he; exact ⟨.inl (by decide), extsF_good (some_exts h6 he), trivial⟩
theorem crlF_good {c : CrlV} (h : c.valOk = true) : (crlF c).Good := by
 have h1 : arcsOk c.alg = true := by
  unfold CrlV.valOk at h
  simp only [Bool.and_eq_true] at h
  exact h.1.1.1.1.1
 exact sq_good (Fo.good_app (tbsF_good h) (Fo.good_app (algF_good h1) (lf_good (by decide) (fW_bits _))))
end Go.Proofs.YtiecbagejdcafaaGreatDoor
/- Lists within the sizes that layer 19's statements name: how long their elements are. In plain words. -/
namespace Go.Proofs.YtiecbagejdcafaaGreatDoor
open Go.RowKit Go.PlainAid
set_option linter.unusedVariables false
structure ExtV.Small (x : ExtV) : Prop where
 oid : x.oid.length ≤ 20
 oin : ∀ y ∈ x.oid, inK .u64 y
 val : x.val.size ≤ 200
structure AttrV.Small (a : AttrV) : Prop where
 oid : a.oid.length ≤ 20
 oin : ∀ y ∈ a.oid, inK .u64 y
 text : a.text.size ≤ 100
structure EntryV.Small (x : EntryV) : Prop where
 serial : x.serial.size ≤ 60
 date : x.date.size ≤ 50
 many : x.exts.length ≤ 10
 exts : ∀ y ∈ x.exts, y.Small
structure CrlV.Small (c : CrlV) : Prop where
 alg : c.alg.length ≤ 20
 ain : ∀ y ∈ c.alg, inK .u64 y
 sets : c.issuer.length ≤ 8
 attrs : ∀ s ∈ c.issuer, s.length ≤ 8 ∧ ∀ a ∈ s, a.Small
 this : c.this.size ≤ 50
 next : c.next.size ≤ 50
 many : c.entries.length ≤ 12
 entries : ∀ x ∈ c.entries, x.Small
 few : c.exts.length ≤ 10
 exts : ∀ x ∈ c.exts, x.Small
 sig : c.sig.size ≤ 300
theorem flat_le (l : List Int) (h : ∀ x ∈ l, x ≤ 18446744073709551615) : (l.flatMap oB).length ≤ 10 * l.length := by
 induction l with
 |nil => exact Nat.le_refl _
 |cons x l ih =>
  rw [List.flatMap_cons, List.length_append, List.length_cons]
  have h1 := oB_le x (h x (List.mem_cons_self ..))
  have h2 := ih (fun y hy => h y (List.mem_cons_of_mem _ hy))
  omega
theorem oL_le {l : List Int} (h : arcsOk l = true) (hl : l.length ≤ 20) (hi : ∀ y ∈ l, inK .u64 y) : (oL l).length ≤ 200 := by
 obtain ⟨a, b, r, rfl⟩ := arcsOk_two h
 obtain ⟨h0, h1, h2, h3⟩ := (arcsOk_iff a b r).1 h
 have hb := hi b (by simp)
 have hb0 : 0 ≤ b := hb.1
 have hb1 : b ≤ 18446744073709551615 := hb.2
 show (oB (40 * a + b) ++ r.flatMap oB).length ≤ 200
 rw [List.length_append]
 have e1 := oB_le (40 * a + b) (by omega)
 have e2 := flat_le r (fun x hx => (hi x (by simp [hx])).2)
 rw [List.length_cons, List.length_cons] at hl
 omega
theorem hd_len {c t : Int} {f : Bool} {n : Nat} (h : idOk c t = true) (hn : n ≤ 1000000000) : 2 ≤ (hdPut c t f (n : Int)).length ∧ (hdPut c t f (n : Int)).length ≤ 14 :=
 hdPut_length (by rw [hdOk_iff]; exact ⟨h, by rw [lenOk_iff]; omega⟩)
theorem fleaf_len {c t : Int} {C : List Int} {r : Fo} (h : idOk c t = true) (hn : C.length ≤ 1000000) : C.length + r.enc.length + 2 ≤ (Fo.leaf c t C r).enc.length ∧ (Fo.leaf c t C r).enc.length ≤ C.length + 14 + r.enc.length := by
 have := hd_len (f := false) h (n := C.length) (by omega)
 show _ ≤ (hdPut c t false (C.length : Int) ++ C ++ r.enc).length ∧ (hdPut c t false (C.length : Int) ++ C ++ r.enc).length ≤ _
 rw [List.length_append, List.length_append]; omega
theorem fnode_len {c t : Int} {k r : Fo} (h : idOk c t = true) (hn : k.enc.length ≤ 1000000) : k.enc.length + r.enc.length + 2 ≤ (Fo.node c t k r).enc.length ∧ (Fo.node c t k r).enc.length ≤ k.enc.length + 14 + r.enc.length := by
 have := hd_len (f := true) h (n := k.enc.length) (by omega)
 show _ ≤ (hdPut c t true (k.enc.length : Int) ++ k.enc ++ r.enc).length ∧ (hdPut c t true (k.enc.length : Int) ++ k.enc ++ r.enc).length ≤ _
 rw [List.length_append, List.length_append]; omega
theorem lf_len {t : Int} {C : List Int} (h0 : 0 ≤ t) (h1 : t ≤ 268435455) (hn : C.length ≤ 1000000) : C.length + 2 ≤ (lf t C).enc.length ∧ (lf t C).enc.length ≤ C.length + 14 := fleaf_len (r := .nil) (idOk_leaf h0 h1) hn
theorem sq_len {k : Fo} (hn : k.enc.length ≤ 1000000) : k.enc.length + 2 ≤ (sq k).enc.length ∧ (sq k).enc.length ≤ k.enc.length + 14 := fnode_len (c := 0) (t := 16) (r := .nil) (by decide) hn
theorem app_len (f s : Fo) : (f.app s).enc.length = f.enc.length + s.enc.length := by rw [Fo.enc_app, List.length_append]
theorem nil_len : Fo.nil.enc.length = 0 := rfl
theorem join_len (l : List Fo) (n m : Nat) (h : ∀ f ∈ l, f.enc.length ≤ n) (hl : l.length ≤ m) : (joinF l).enc.length ≤ m * n := by
 have h1 : (joinF l).enc.length ≤ l.length * n := by
  clear hl
  induction l with
  |nil => exact Nat.zero_le _
  |cons f r ih =>
   show (f.app (joinF r)).enc.length ≤ (r.length + 1) * n
   rw [app_len, Nat.succ_mul]
   have h1 := h f (List.mem_cons_self ..)
   have h2 := ih (fun g hg => h g (List.mem_cons_of_mem _ hg))
   omega
 exact Nat.le_trans h1 (Nat.mul_le_mul_right n hl)
theorem extF_len {x : ExtV} (h : x.Small) (ho : extOk x = true) : (extF x).enc.length ≤ 457 := by
 have h1 := oL_le ho h.oid h.oin
 have h2 := lf_len (t := 4) (C := bl x.val) (by decide) (by decide) (by rw [bl_length]; have := h.val; omega)
 have h3 : (if x.crit = true then lf 1 [255] else Fo.nil).enc.length ≤ 15 := by
  split
  ·exact (lf_len (t := 1) (C := [255]) (by decide) (by decide) (by decide)).2
  ·exact Nat.zero_le _
 rw [bl_length] at h2
 have h4 := h.val
 have h5 := fleaf_len (c := 0) (t := 6) (C := oL x.oid) (r := (if x.crit = true then lf 1 [255] else .nil).app (lf 4 (bl x.val))) (by decide) (by omega)
 rw [app_len] at h5
 unfold extF
 have h6 := sq_len (k := Fo.leaf 0 6 (oL x.oid) ((if x.crit = true then lf 1 [255] else .nil).app (lf 4 (bl x.val)))) (by omega)
 omega
theorem extsF_len {l : List ExtV} (hl : l.length ≤ 10) (h : ∀ x ∈ l, x.Small) (ho : extsOk l = true) : (extsF l).enc.length ≤ 4584 := by
 have h1 := join_len (l.map extF) 457 10 (fun f hf => by obtain ⟨x, hx, rfl⟩ := List.mem_map.1 hf; exact extF_len (h x hx) ((extsOk_iff.1 ho).2 x hx)) (by rw [List.length_map]; exact hl)
 unfold extsF
 have := sq_len (k := joinF (l.map extF)) (by omega)
 omega
theorem dateF_len {d : ByteArray} (h : wOk d = true) : (dateF d).enc.length ≤ 29 := by
 have h1 := wTag_bd d
 have h2 : (wC d).size ≤ 15 := by rw [(w_put h).2.2]; split <;> omega
 unfold dateF
 have := lf_len (t := wTag d) (C := bl (wC d)) (by omega) (by omega) (by rw [bl_length]; omega)
 rw [bl_length] at this
 omega
theorem entryF_len {x : EntryV} (h : x.Small) (ho : entryOk x = true) : (entryF x).enc.length ≤ 4701 := by
 obtain ⟨_, h2, h3⟩ := entryOk_iff.1 ho
 have h4 := dateF_len h2
 have h5 : (if x.exts.isEmpty = true then Fo.nil else extsF x.exts).enc.length ≤ 4584 := by
  split
  ·exact Nat.zero_le _
  ·rename_i he; exact extsF_len h.many h.exts (some_exts h3 he)
 have h6 := h.serial
 have h7 := fleaf_len (c := 0) (t := 2) (C := bl x.serial) (r := (dateF x.date).app (if x.exts.isEmpty = true then .nil else extsF x.exts)) (by decide) (by rw [bl_length]; omega)
 rw [app_len, bl_length] at h7
 unfold entryF
 have h8 := sq_len (k := Fo.leaf 0 2 (bl x.serial) ((dateF x.date).app (if x.exts.isEmpty = true then .nil else extsF x.exts))) (by omega)
 omega
theorem attrF_len {a : AttrV} (h : a.Small) (ho : attrOk a = true) : (attrF a).enc.length ≤ 342 := by
 obtain ⟨h1, h2, _⟩ := attrOk_iff.1 ho
 have h3 := oL_le h1 h.oid h.oin
 have h4 := h.text
 have h5 := lf_len (t := a.tag) (C := bl a.text) (by omega) (by omega) (by rw [bl_length]; omega)
 rw [bl_length] at h5
 have h6 := fleaf_len (c := 0) (t := 6) (C := oL a.oid) (r := lf a.tag (bl a.text)) (by decide) (by omega)
 unfold attrF
 have h7 := sq_len (k := Fo.leaf 0 6 (oL a.oid) (lf a.tag (bl a.text))) (by omega)
 omega
theorem setK_len {l : List AttrV} (hl : l.length ≤ 8) (h : ∀ a ∈ l, a.Small) (ho : setOk l = true) : (joinF (sortF (l.map attrF))).enc.length ≤ 2736 :=
 join_len _ 342 8 (fun f hf => by obtain ⟨a, ha, rfl⟩ := List.mem_map.1 ((sortF_mem _ f).1 hf); exact attrF_len (h a ha) ((setOk_iff.1 ho).2 a ha)) (by rw [sortF_len, List.length_map]; exact hl)
theorem setF_len {l : List AttrV} (hl : l.length ≤ 8) (h : ∀ a ∈ l, a.Small) (ho : setOk l = true) : (setF l).enc.length ≤ 2750 := by
 have h1 := setK_len hl h ho
 have := fnode_len (c := 0) (t := 17) (k := joinF (sortF (l.map attrF))) (r := .nil) (by decide) (by omega)
 rw [nil_len] at this
 show (Fo.node 0 17 (joinF (sortF (l.map attrF))) .nil).enc.length ≤ 2750
 omega
theorem nameF_len {l : List (List AttrV)} (hl : l.length ≤ 8) (h : ∀ s ∈ l, s.length ≤ 8 ∧ ∀ a ∈ s, a.Small) (ho : nameOk l = true) : (nameF l).enc.length ≤ 22014 := by
 have h1 := join_len (l.map setF) 2750 8 (fun f hf => by obtain ⟨s, hs, rfl⟩ := List.mem_map.1 hf; exact setF_len (h s hs).1 (h s hs).2 (nameOk_iff.1 ho s hs)) (by rw [List.length_map]; exact hl)
 unfold nameF
 have := sq_len (k := joinF (l.map setF)) (by omega)
 omega
theorem algF_len {l : List Int} (h : arcsOk l = true) (hl : l.length ≤ 20) (hi : ∀ y ∈ l, inK .u64 y) : (algF l).enc.length ≤ 242 := by
 have h1 := oL_le h hl hi
 have h2 := lf_len (t := 5) (C := []) (by decide) (by decide) (by decide)
 have h3 := fleaf_len (c := 0) (t := 6) (C := oL l) (r := lf 5 []) (by decide) (by omega)
 simp only [List.length_nil] at h2
 unfold algF
 have h4 := sq_len (k := Fo.leaf 0 6 (oL l) (lf 5 [])) (by omega)
 omega
theorem CrlV.valOk_iff {c : CrlV} : c.valOk = true ↔ arcsOk c.alg = true ∧ nameOk c.issuer = true ∧ wOk c.this = true ∧ (c.next.size = 0 ∨ wOk c.next = true) ∧ (∀ x ∈ c.entries, entryOk x = true) ∧ (c.exts.isEmpty || extsOk c.exts) = true := by
 unfold CrlV.valOk
 simp only [Bool.and_eq_true, List.all_eq_true, and_assoc]
 rw [Bool.or_eq_true (decide _), decide_eq_true_eq]
theorem entries_len {c : CrlV} (hs : c.Small) (ho : ∀ x ∈ c.entries, entryOk x = true) : (joinF (c.entries.map entryF)).enc.length ≤ 56412 :=
 join_len _ 4701 12 (fun f hf => by obtain ⟨x, hx, rfl⟩ := List.mem_map.1 hf; exact entryF_len (hs.entries x hx) (ho x hx)) (by rw [List.length_map]; exact hs.many)
theorem tbsK_len {c : CrlV} (hs : c.Small) (h : c.valOk = true) : (tbsK c).enc.length ≤ 83353 := by
 obtain ⟨h1, h2, h3, h4, h5, h6⟩ := CrlV.valOk_iff.1 h
 have e1 := algF_len h1 hs.alg hs.ain
 have e2 := nameF_len hs.sets hs.attrs h2
 have e3 := dateF_len h3
 have e4 : (if c.next.size = 0 then Fo.nil else dateF c.next).enc.length ≤ 29 := by
  split
  ·exact Nat.zero_le _
  ·rename_i he; rcases h4 with h4 | h4; exact absurd h4 he; exact dateF_len h4
 have e5 : (if c.entries.isEmpty = true then Fo.nil else sq (joinF (c.entries.map entryF))).enc.length ≤ 56426 := by
  split
  ·exact Nat.zero_le _
  ·have := entries_len hs h5
   have := sq_len (k := joinF (c.entries.map entryF)) (by omega)
   omega
 have e6 : (if c.exts.isEmpty = true then Fo.nil else Fo.node 2 0 (extsF c.exts) .nil).enc.length ≤ 4598 := by
  split
  ·exact Nat.zero_le _
  ·rename_i he
   have := extsF_len hs.few hs.exts (some_exts h6 he)
   have := fnode_len (c := 2) (t := 0) (k := extsF c.exts) (r := .nil) (by decide) (by omega)
   rw [nil_len] at this
   omega
 have e0 : (if c.v2 = true then lf 2 [1] else Fo.nil).enc.length ≤ 15 := by
  split
  ·exact (lf_len (t := 2) (C := [1]) (by decide) (by decide) (by decide)).2
  ·exact Nat.zero_le _
 unfold tbsK
 simp only [app_len]
 omega
theorem tbsF_len {c : CrlV} (hs : c.Small) (h : c.valOk = true) : (tbsK c).enc.length + 2 ≤ (tbsF c).enc.length ∧ (tbsF c).enc.length ≤ 83367 := by
 have h1 := tbsK_len hs h
 have := sq_len (k := tbsK c) (by omega)
 unfold tbsF
 omega
theorem crlK_len {c : CrlV} (hs : c.Small) (h : c.valOk = true) : (tbsF c).enc.length ≤ ((tbsF c).app ((algF c.alg).app (lf 3 (0 :: bl c.sig)))).enc.length ∧ ((tbsF c).app ((algF c.alg).app (lf 3 (0 :: bl c.sig)))).enc.length ≤ 83924 := by
 have h1 := tbsF_len hs h
 have h2 := algF_len (CrlV.valOk_iff.1 h).1 hs.alg hs.ain
 have h3 := lf_len (t := 3) (C := 0 :: bl c.sig) (by decide) (by decide) (by rw [List.length_cons, bl_length]; have := hs.sig; omega)
 rw [List.length_cons, bl_length] at h3
 have := hs.sig
 simp only [app_len]
 omega
theorem crlF_len {c : CrlV} (hs : c.Small) (h : c.valOk = true) : (tbsF c).enc.length < (crlF c).enc.length ∧ (crlF c).enc.length ≤ 83938 := by
 have h1 := crlK_len hs h
 have := sq_len (k := (tbsF c).app ((algF c.alg).app (lf 3 (0 :: bl c.sig)))) (by omega)
 unfold crlF
 omega
theorem crlF_ok {c : CrlV} (hs : c.Small) (h : c.valOk = true) : (crlF c).Ok := Fo.ok_of _ (crlF_pre h) (by have := (crlF_len hs h).2; omega)
theorem tbsF_ok {c : CrlV} (hs : c.Small) (h : c.valOk = true) : (tbsF c).Ok := Fo.ok_of _ (tbsF_pre h) (by have := (tbsF_len hs h).2; omega)
theorem tbsE_zero {c : CrlV} (h : tbsE c = 0) : c.valOk = true := by
 unfold tbsE at h
 cases hv : c.valOk with
 |true => rfl
 |false => rw [if_pos hv] at h; cases h
theorem crl_right {c : CrlV} (hs : c.Small) (h : tbsE c = 0) : valW (crlS c) 64 = (0, ((crlS c).size : Int)) ∧ valW (tbsS c) 64 = (0, ((tbsS c).size : Int)) ∧ (tbsS c).size < (crlS c).size := by
 have hv := tbsE_zero h
 have h1 := (Fo.val (crlF_ok hs hv) rfl (crlF_good hv) 64 (by have := crlF_depth c; unfold evMost; omega)).2
 have h2 := (Fo.val (tbsF_ok hs hv) rfl (tbsF_good hv) 64 (by have := tbsF_depth c; unfold evMost; omega)).2
 unfold crlS tbsS
 rw [if_pos h, if_pos h]
 unfold encS
 rw [strOfNums_size, strOfNums_size]
 exact ⟨h1, h2, (crlF_len hs hv).1⟩
end Go.Proofs.YtiecbagejdcafaaGreatDoor
/- What of a list its bytes tell: two lists of the same bytes; the order in which a set's attributes are handed in. In plain words. -/
namespace Go.Proofs.YtiecbagejdcafaaGreatDoor
open Go.RowKit Go.PlainAid
set_option linter.unusedVariables false
theorem bl_eq {s t : ByteArray} (h : bl s = bl t) : s = t := bl_inj h
theorem app_nil (f : Fo) : f.app .nil = f := by
 induction f with
 |nil => rfl
 |leaf c t C r ih => show Fo.leaf c t C (r.app .nil) = _; rw [ih]
 |node c t k r _ ih => show Fo.node c t k (r.app .nil) = _; rw [ih]
theorem oL_inj {l m : List Int} (hl : arcsOk l = true) (hm : arcsOk m = true) (il : ∀ y ∈ l, inK .u64 y) (im : ∀ y ∈ m, inK .u64 y) (h : oL l = oL m) : l = m := by
 have h1 := oGet_put l hl il
 rw [h, oGet_put m hm im] at h1
 exact (Option.some.inj h1).symm
theorem join_inj {α : Type} (F : α → Fo) (hF : ∀ x, ∃ k, F x = .node 0 16 k .nil) (l : List α) : ∀ m : List α, joinF (l.map F) = joinF (m.map F) → l.length = m.length ∧ ∀ i (h1 : i < l.length) (h2 : i < m.length), F l[i] = F m[i] := by
 have hne : ∀ (x : α) (r : Fo), (F x).app r ≠ .nil := fun x r h => by
  obtain ⟨k, hk⟩ := hF x
  rw [hk] at h
  cases h
 induction l with
 |nil =>
  intro m h
  cases m with
  |nil => exact ⟨rfl, fun i h => absurd h (Nat.not_lt_zero _)⟩
  |cons y m => exact absurd h.symm (hne y _)
 |cons x l ih =>
  intro m h
  cases m with
  |nil => exact absurd h (hne x _)
  |cons y m =>
   have h : (F x).app (joinF (l.map F)) = (F y).app (joinF (m.map F)) := h
   obtain ⟨k, hk⟩ := hF x
   obtain ⟨k', hk'⟩ := hF y
   rw [hk, hk'] at h
   have h : Fo.node 0 16 k (joinF (l.map F)) = Fo.node 0 16 k' (joinF (m.map F)) := h
   injection h with _ _ e1 e2
   obtain ⟨h1, h2⟩ := ih m e2
   refine ⟨by rw [List.length_cons, List.length_cons, h1], fun i a b => ?_⟩
   cases i with
   |zero => show F x = F y; rw [hk, hk', e1]
   |succ i => exact h2 i (by simpa using a) (by simpa using b)
theorem entryF_inj {x y : EntryV} (hx : entryOk x = true) (hy : entryOk y = true) (h : entryF x = entryF y) : x.serial = y.serial ∧ x.date = y.date ∧ x.exts.length = y.exts.length := by
 obtain ⟨_, dx, ex⟩ := entryOk_iff.1 hx
 obtain ⟨_, dy, ey⟩ := entryOk_iff.1 hy
 unfold entryF sq at h
 injection h with _ _ h _
 injection h with _ _ h1 h2
 have h2 : Fo.leaf 0 (wTag x.date) (bl (wC x.date)) (if x.exts.isEmpty = true then .nil else extsF x.exts) = Fo.leaf 0 (wTag y.date) (bl (wC y.date)) (if y.exts.isEmpty = true then .nil else extsF y.exts) := h2
 injection h2 with _ t1 t2 t3
 refine ⟨bl_eq h1, w_inj dx dy t1 (bl_eq t2), ?_⟩
 split at t3
 ·rename_i e1
  split at t3
  ·rename_i e2
   rw [List.isEmpty_iff.1 e1, List.isEmpty_iff.1 e2]
  ·cases t3
 ·split at t3
  ·cases t3
  ·unfold extsF sq at t3
   injection t3 with _ _ t3 _
   exact (join_inj extF (fun x => ⟨_, rfl⟩) _ _ t3).1
theorem tail_leaf (c : CrlV) {a t : Int} {C : List Int} {r : Fo} : (if c.entries.isEmpty = true then Fo.nil else sq (joinF (c.entries.map entryF))).app (if c.exts.isEmpty = true then .nil else .node 2 0 (extsF c.exts) .nil) ≠ .leaf a t C r := by
 intro h
 by_cases h1 : c.entries.isEmpty = true
 ·rw [if_pos h1] at h
  by_cases h2 : c.exts.isEmpty = true
  ·rw [if_pos h2] at h; cases h
  ·rw [if_neg h2] at h; cases h
 ·rw [if_neg h1] at h; cases h
theorem exts_seq (c : CrlV) {k r : Fo} : (if c.exts.isEmpty = true then Fo.nil else .node 2 0 (extsF c.exts) .nil) ≠ .node 0 16 k r := by
 intro h
 by_cases h2 : c.exts.isEmpty = true
 ·rw [if_pos h2] at h; cases h
 ·rw [if_neg h2] at h; injection h with q _ _ _; exact absurd q (by decide)
theorem crl_one {c d : CrlV} (sc : c.Small) (sd : d.Small) (hc : tbsE c = 0) (hd : tbsE d = 0) (h : crlS c = crlS d) :
  c.v2 = d.v2 ∧ c.alg = d.alg ∧ c.this = d.this ∧ c.next = d.next ∧ c.sig = d.sig ∧ c.exts.length = d.exts.length ∧ c.entries.length = d.entries.length ∧
   ∀ i (h1 : i < c.entries.length) (h2 : i < d.entries.length), c.entries[i].serial = d.entries[i].serial ∧ c.entries[i].date = d.entries[i].date ∧ c.entries[i].exts.length = d.entries[i].exts.length := by
 have vc := tbsE_zero hc
 have vd := tbsE_zero hd
 obtain ⟨c1, c2, c3, c4, c5, c6⟩ := CrlV.valOk_iff.1 vc
 obtain ⟨d1, d2, d3, d4, d5, d6⟩ := CrlV.valOk_iff.1 vd
 unfold crlS at h
 rw [if_pos hc, if_pos hd] at h
 unfold encS at h
 have h := Fo.inj _ _ (crlF_ok sc vc) (crlF_ok sd vd) (str_inj (Fo.isB (crlF_ok sc vc)) (Fo.isB (crlF_ok sd vd)) h)
 unfold crlF sq at h
 injection h with _ _ h _
 have h : Fo.node 0 16 (tbsK c) (Fo.node 0 16 (.leaf 0 6 (oL c.alg) (lf 5 [])) (lf 3 (0 :: bl c.sig))) = Fo.node 0 16 (tbsK d) (Fo.node 0 16 (.leaf 0 6 (oL d.alg) (lf 5 [])) (lf 3 (0 :: bl d.sig))) := h
 injection h with _ _ hk hr
 injection hr with _ _ ha hs
 injection ha with _ _ ha _
 have halg := oL_inj c1 d1 sc.ain sd.ain ha
 unfold lf at hs
 injection hs with _ _ hs _
 injection hs with _ hs
 have hv : c.v2 = d.v2 ∧ (algF c.alg).app ((nameF c.issuer).app ((dateF c.this).app ((if c.next.size = 0 then .nil else dateF c.next).app
   ((if c.entries.isEmpty = true then .nil else sq (joinF (c.entries.map entryF))).app (if c.exts.isEmpty = true then .nil else .node 2 0 (extsF c.exts) .nil))))) =
   (algF d.alg).app ((nameF d.issuer).app ((dateF d.this).app ((if d.next.size = 0 then .nil else dateF d.next).app
   ((if d.entries.isEmpty = true then .nil else sq (joinF (d.entries.map entryF))).app (if d.exts.isEmpty = true then .nil else .node 2 0 (extsF d.exts) .nil))))) := by
  unfold tbsK at hk
  cases hcv : c.v2 <;> cases hdv : d.v2 <;> rw [hcv, hdv] at hk
  ·exact ⟨rfl, hk⟩
  ·cases hk
  ·cases hk
  ·refine ⟨rfl, ?_⟩
   injection hk
 obtain ⟨hv, hk⟩ := hv
 have hk : Fo.node 0 16 (.leaf 0 6 (oL c.alg) (lf 5 [])) (Fo.node 0 16 (joinF (c.issuer.map setF)) (Fo.leaf 0 (wTag c.this) (bl (wC c.this)) ((if c.next.size = 0 then .nil else dateF c.next).app
   ((if c.entries.isEmpty = true then .nil else sq (joinF (c.entries.map entryF))).app (if c.exts.isEmpty = true then .nil else .node 2 0 (extsF c.exts) .nil))))) =
   Fo.node 0 16 (.leaf 0 6 (oL d.alg) (lf 5 [])) (Fo.node 0 16 (joinF (d.issuer.map setF)) (Fo.leaf 0 (wTag d.this) (bl (wC d.this)) ((if d.next.size = 0 then .nil else dateF d.next).app
   ((if d.entries.isEmpty = true then .nil else sq (joinF (d.entries.map entryF))).app (if d.exts.isEmpty = true then .nil else .node 2 0 (extsF d.exts) .nil))))) := hk
 injection hk with _ _ _ hk
 injection hk with _ _ _ hk
 injection hk with _ ht1 ht2 hk
 have hthis := w_inj c3 d3 ht1 (bl_eq ht2)
 have hn : c.next = d.next ∧ (if c.entries.isEmpty = true then Fo.nil else sq (joinF (c.entries.map entryF))).app (if c.exts.isEmpty = true then .nil else .node 2 0 (extsF c.exts) .nil) =
   (if d.entries.isEmpty = true then Fo.nil else sq (joinF (d.entries.map entryF))).app (if d.exts.isEmpty = true then .nil else .node 2 0 (extsF d.exts) .nil) := by
  by_cases n1 : c.next.size = 0
  ·by_cases n2 : d.next.size = 0
   ·rw [if_pos n1, if_pos n2] at hk
    refine ⟨bl_eq ?_, hk⟩
    rw [List.length_eq_zero_iff.1 (by rw [bl_length]; exact n1 : (bl c.next).length = 0), List.length_eq_zero_iff.1 (by rw [bl_length]; exact n2 : (bl d.next).length = 0)]
   ·rw [if_pos n1, if_neg n2] at hk
    exact absurd hk (tail_leaf c)
  ·by_cases n2 : d.next.size = 0
   ·rw [if_neg n1, if_pos n2] at hk
    exact absurd hk.symm (tail_leaf d)
   ·rw [if_neg n1, if_neg n2] at hk
    have hk : Fo.leaf 0 (wTag c.next) (bl (wC c.next)) ((if c.entries.isEmpty = true then Fo.nil else sq (joinF (c.entries.map entryF))).app (if c.exts.isEmpty = true then .nil else .node 2 0 (extsF c.exts) .nil)) =
     Fo.leaf 0 (wTag d.next) (bl (wC d.next)) ((if d.entries.isEmpty = true then Fo.nil else sq (joinF (d.entries.map entryF))).app (if d.exts.isEmpty = true then .nil else .node 2 0 (extsF d.exts) .nil)) := hk
    injection hk with _ q1 q2 q3
    refine ⟨w_inj (c4.resolve_left n1) (d4.resolve_left n2) q1 (bl_eq q2), q3⟩
 obtain ⟨hnext, hk⟩ := hn
 have he : (if c.exts.isEmpty = true then Fo.nil else .node 2 0 (extsF c.exts) .nil) = (if d.exts.isEmpty = true then Fo.nil else .node 2 0 (extsF d.exts) .nil) ∧ joinF (c.entries.map entryF) = joinF (d.entries.map entryF) := by
  by_cases n1 : c.entries.isEmpty = true
  ·by_cases n2 : d.entries.isEmpty = true
   ·rw [if_pos n1, if_pos n2] at hk
    refine ⟨hk, ?_⟩
    rw [List.isEmpty_iff.1 n1, List.isEmpty_iff.1 n2]
   ·rw [if_pos n1, if_neg n2] at hk
    exact absurd hk (exts_seq c)
  ·by_cases n2 : d.entries.isEmpty = true
   ·rw [if_neg n1, if_pos n2] at hk
    exact absurd hk.symm (exts_seq d)
   ·rw [if_neg n1, if_neg n2] at hk
    have hk : Fo.node 0 16 (joinF (c.entries.map entryF)) (if c.exts.isEmpty = true then Fo.nil else .node 2 0 (extsF c.exts) .nil) = Fo.node 0 16 (joinF (d.entries.map entryF)) (if d.exts.isEmpty = true then Fo.nil else .node 2 0 (extsF d.exts) .nil) := hk
    injection hk with _ _ q1 q2
    exact ⟨q2, q1⟩
 obtain ⟨hx, hk⟩ := he
 have hel : c.exts.length = d.exts.length := by
  split at hx
  ·rename_i e1
   split at hx
   ·rename_i e2; rw [List.isEmpty_iff.1 e1, List.isEmpty_iff.1 e2]
   ·cases hx
  ·split at hx
   ·cases hx
   ·injection hx with _ _ hx _
    unfold extsF sq at hx
    injection hx with _ _ hx _
    exact (join_inj extF (fun x => ⟨_, rfl⟩) _ _ hx).1
 obtain ⟨hlen, heach⟩ := join_inj entryF (fun x => ⟨_, rfl⟩) _ _ hk
 exact ⟨hv, halg, hthis, hnext, bl_eq hs, hel, hlen, fun i h1 h2 => entryF_inj (c5 _ (List.getElem_mem h1)) (d5 _ (List.getElem_mem h2)) (heach i h1 h2)⟩
theorem crl_signed {c : CrlV} (s : ByteArray) (sc : c.Small) (ss : s.size ≤ 300) (hc : tbsE c = 0) : tbsE { c with sig := s } = 0 ∧ tbsS { c with sig := s } = tbsS c ∧ (crlS c = crlS { c with sig := s } ↔ c.sig = s) := by
 have sd : ({ c with sig := s } : CrlV).Small := ⟨sc.alg, sc.ain, sc.sets, sc.attrs, sc.this, sc.next, sc.many, sc.entries, sc.few, sc.exts, ss⟩
 refine ⟨hc, rfl, fun h => ?_, fun h => ?_⟩
 ·exact (crl_one sc sd hc hc h).2.2.2.2.1
 ·have : { c with sig := s } = c := by cases c; simp_all
  rw [this]
end Go.Proofs.YtiecbagejdcafaaGreatDoor
/- In whatever order the attributes of a set are handed in, its bytes are the same. In plain words. -/
namespace Go.Proofs.YtiecbagejdcafaaGreatDoor
open Go.RowKit Go.PlainAid
set_option linter.unusedVariables false
theorem kO_hi (out : List ByteArray) (x : ByteArray) : ∀ n t, kO out x n ≤ t → t < n → 0 < cmpL (bl (out.getD t ⟨#[]⟩)) (bl x) := by
 intro n
 induction n with
 |zero => intro t _ h; omega
 |succ n ih =>
  intro t h1 h2
  rw [kO] at h1
  by_cases h : 0 < cmpL (bl (out.getD n ⟨#[]⟩)) (bl x)
  ·rw [if_pos h] at h1
   by_cases ht : t = n
   ·subst ht; exact h
   ·exact ih t h1 (by omega)
  ·rw [if_neg h] at h1; omega
theorem kO_lo (out : List ByteArray) (x : ByteArray) : ∀ n k, kO out x n = k + 1 → ¬ 0 < cmpL (bl (out.getD k ⟨#[]⟩)) (bl x) := by
 intro n
 induction n with
 |zero => intro k h; simp [kO] at h
 |succ n ih =>
  intro k h1
  rw [kO] at h1
  by_cases h : 0 < cmpL (bl (out.getD n ⟨#[]⟩)) (bl x)
  ·rw [if_pos h] at h1; exact ih k h1
  ·rw [if_neg h] at h1
   obtain rfl : n = k := by omega
   exact h
def AscS (l : List ByteArray) : Prop := l.Pairwise (fun x y => cmpL (bl x) (bl y) ≤ 0)
theorem ins_asc {out : List ByteArray} (h : AscS out) (x : ByteArray) : AscS (insP out x) := by
 have hk := kO_le out x out.length
 have hg : ∀ i (hi : i < out.length), out.getD i ⟨#[]⟩ = out[i] := fun i hi => by rw [List.getD_eq_getElem?_getD, List.getElem?_eq_getElem hi]; rfl
 have hp := List.pairwise_iff_getElem.1 h
 unfold AscS insP
 generalize hK : kO out x out.length = K at *
 have hlow : ∀ i (hi : i < out.length), i < K → cmpL (bl out[i]) (bl x) ≤ 0 := fun i hi hik => by
  obtain ⟨K', rfl⟩ : ∃ q, K = q + 1 := ⟨K - 1, by omega⟩
  have h1 := kO_lo out x out.length K' hK
  rw [hg K' (by omega)] at h1
  by_cases e : i = K'
  ·subst e; omega
  ·exact cmpL_trans (hp i K' hi (by omega) (by omega)) (by omega)
 have hhigh : ∀ i (hi : i < out.length), K ≤ i → cmpL (bl x) (bl out[i]) ≤ 0 := fun i hi hik => by
  have h1 := kO_hi out x out.length i (by omega) hi
  rw [hg i hi] at h1
  rw [cmpL_neg]; omega
 rw [List.pairwise_append]
 refine ⟨List.Pairwise.sublist (List.take_sublist _ _) h, List.pairwise_cons.2 ⟨fun b hb => ?_, List.Pairwise.sublist (List.drop_sublist _ _) h⟩, fun a ha b hb => ?_⟩
 ·obtain ⟨i, hi, rfl⟩ := List.getElem_of_mem hb
  rw [List.getElem_drop]
  rw [List.length_drop] at hi
  exact hhigh _ (by omega) (by omega)
 ·obtain ⟨i, hi, rfl⟩ := List.getElem_of_mem ha
  rw [List.length_take] at hi
  rw [List.getElem_take]
  rcases List.mem_cons.1 hb with rfl | hb
  ·exact hlow i (by omega) (by omega)
  ·obtain ⟨j, hj, rfl⟩ := List.getElem_of_mem hb
   rw [List.length_drop] at hj
   rw [List.getElem_drop]
   exact hp i (K + j) (by omega) (by omega) (by omega)
theorem sort_asc (l : List ByteArray) : AscS (sortS l) := by
 have h : ∀ (l acc : List ByteArray), AscS acc → AscS (l.foldl insP acc) := by
  intro l
  induction l with
  |nil => intro acc h; exact h
  |cons x l ih => intro acc h; exact ih _ (ins_asc h x)
 exact h l [] List.Pairwise.nil
theorem ins_perm (out : List ByteArray) (x : ByteArray) : (insP out x).Perm (x :: out) := by
 unfold insP
 refine List.perm_middle.trans ?_
 rw [List.take_append_drop]
theorem sort_perm (l : List ByteArray) : (sortS l).Perm l := by
 have h : ∀ (l acc : List ByteArray), (l.foldl insP acc).Perm (acc ++ l) := by
  intro l
  induction l with
  |nil => intro acc; rw [List.append_nil]; exact List.Perm.refl _
  |cons x l ih =>
   intro acc
   refine (ih _).trans (((ins_perm acc x).append_right l).trans ?_)
   rw [List.cons_append]
   exact List.perm_middle.symm
 have := h l []
 rwa [List.nil_append] at this
theorem asc_one : ∀ (A B : List ByteArray), (∀ x ∈ A, ∀ y ∈ A, cmpL (bl x) (bl y) = 0 → x = y) → AscS A → AscS B → A.Perm B → A = B := by
 intro A
 induction A with
 |nil => intro B _ _ _ h; exact (List.nil_perm.1 h).symm
 |cons a A ih =>
  intro B hq hA hB h
  cases B with
  |nil => exact absurd h.symm (by simp)
  |cons b B =>
   have ha := List.pairwise_cons.1 hA
   have hb := List.pairwise_cons.1 hB
   have mab : b ∈ a :: A := h.symm.subset (List.mem_cons_self ..)
   have mba : a ∈ b :: B := h.subset (List.mem_cons_self ..)
   have e : a = b := by
    rcases List.mem_cons.1 mab with e | m1
    ·exact e.symm
    ·rcases List.mem_cons.1 mba with e | m2
     ·exact e
     ·have h1 := ha.1 b m1
      have h2 := hb.1 a m2
      refine hq a (List.mem_cons_self ..) b mab ?_
      rw [cmpL_neg] at h2; omega
   subst e
   rw [ih B (fun x hx y hy => hq x (List.mem_cons_of_mem _ hx) y (List.mem_cons_of_mem _ hy)) ha.2 hb.2 (List.Perm.cons_inv h)]
theorem sort_turn (l : List ByteArray) (hq : ∀ x ∈ l, ∀ y ∈ l, cmpL (bl x) (bl y) = 0 → x = y) : sortS l.reverse = sortS l := by
 refine (asc_one _ _ (fun x hx y hy => hq x ((sort_perm l).subset hx) y ((sort_perm l).subset hy)) (sort_asc l) (sort_asc _) ?_).symm
 exact (sort_perm l).trans ((List.reverse_perm l).symm.trans (sort_perm _).symm)
/-! ### two elements that are held alike are one -/
theorem cmp_zero_pad : ∀ (n : Nat) (a b : List Int), a.length ≤ n → a.length ≤ b.length → cmpL a b = 0 → b = a ++ List.replicate (b.length - a.length) 0 := by
 intro n
 induction n with
 |zero =>
  intro a b ha hab h
  obtain rfl := nil_of_len ha
  clear ha hab
  rw [List.nil_append, List.length_nil, Nat.sub_zero]
  induction b with
  |nil => rfl
  |cons y r ih =>
   rw [cmpL] at h
   by_cases e : cmp1 0 y = 0
   ·rw [if_neg (by omega)] at h
    rw [List.length_cons, List.replicate_succ, ← cmp1_zero.1 e, ← ih h]
   ·rw [if_pos e] at h; exact absurd h e
 |succ n ih =>
  intro a b ha hab h
  cases a with
  |nil => exact (by
    have := ih [] b (Nat.zero_le _) (Nat.zero_le _) h
    exact this)
  |cons x a =>
   cases b with
   |nil => simp at hab
   |cons y b =>
    rw [cmpL] at h
    by_cases e : cmp1 x y = 0
    ·rw [if_neg (by omega)] at h
     have := ih a b (by simpa using ha) (by simpa using hab) h
     rw [cmp1_zero.1 e, List.cons_append, List.length_cons, List.length_cons, Nat.add_sub_add_right, ← this]
    ·rw [if_pos e] at h; exact absurd h e
theorem seq_alike {k m : Fo} (hk : (sq k).Ok) (hm : (sq m).Ok) (h : cmpL (sq k).enc (sq m).enc = 0) : (sq k).enc = (sq m).enc := by
 have key : ∀ k m : Fo, (sq k).Ok → (sq m).Ok → cmpL (sq k).enc (sq m).enc = 0 → (sq k).enc.length ≤ (sq m).enc.length → (sq k).enc = (sq m).enc := by
  intro k m hk hm h hle
  have hp := cmp_zero_pad _ _ _ (Nat.le_refl _) hle h
  have ek : (sq k).enc = hdPut 0 16 true (k.enc.length : Int) ++ k.enc := by unfold sq; simp [Fo.enc]
  have em : (sq m).enc = hdPut 0 16 true (m.enc.length : Int) ++ m.enc := by unfold sq; simp [Fo.enc]
  generalize hz : List.replicate ((sq m).enc.length - (sq k).enc.length) (0 : Int) = Z at hp
  rw [ek, em, List.append_assoc] at hp
  obtain ⟨_, _, _, hn, e⟩ := put_inj hm.1 hk.1 hp
  have hZ : Z = [] := by
   have := congrArg List.length e
   rw [List.length_append] at this
   exact List.length_eq_zero_iff.1 (by omega)
  rw [hZ, List.append_nil] at e
  rw [ek, em, e]
 rcases Nat.le_total (sq k).enc.length (sq m).enc.length with hle | hle
 ·exact key k m hk hm h hle
 ·refine (key m k hm hk ?_ hle).symm
  rw [cmpL_neg]; omega
theorem sq_enc {X Y : Fo} (h : X.enc = Y.enc) : (sq X).enc = (sq Y).enc := by unfold sq; simp only [Fo.enc, h]
theorem attrF_ok {a : AttrV} (h : a.Small) (ho : attrOk a = true) : (attrF a).Ok := Fo.ok_of _ (attrF_pre ho) (by have := attrF_len h ho; omega)
theorem flat_enc (l : List Fo) (h : ∀ f ∈ l, f.Ok) : l.flatMap Fo.enc = (l.map encS).flatMap bl := by
 induction l with
 |nil => rfl
 |cons f l ih =>
  rw [List.flatMap_cons, List.map_cons, List.flatMap_cons, ih (fun g hg => h g (List.mem_cons_of_mem _ hg))]
  unfold encS
  rw [bl_str (Fo.isB (h f (List.mem_cons_self ..)))]
theorem setF_turn {l : List AttrV} (hs : ∀ a ∈ l, a.Small) (ho : setOk l = true) : (setF l.reverse).enc = (setF l).enc := by
 obtain ⟨_, h2⟩ := setOk_iff.1 ho
 have hok : ∀ a ∈ l, (attrF a).Ok := fun a ha => attrF_ok (hs a ha) (h2 a ha)
 have hin : (joinF (sortF (l.reverse.map attrF))).enc = (joinF (sortF (l.map attrF))).enc := by
  rw [joinF_enc, joinF_enc, flat_enc _ (fun f hf => ?_), flat_enc _ (fun f hf => ?_), sortF_map, sortF_map, List.map_reverse, List.map_reverse, sort_turn]
  ·intro x hx y hy e
   obtain ⟨f, hf, rfl⟩ := List.mem_map.1 hx
   obtain ⟨f', hf', rfl⟩ := List.mem_map.1 hy
   obtain ⟨a, ha, rfl⟩ := List.mem_map.1 hf
   obtain ⟨b, hb, rfl⟩ := List.mem_map.1 hf'
   unfold encS at e ⊢
   rw [bl_str (Fo.isB (hok a ha)), bl_str (Fo.isB (hok b hb))] at e
   exact congrArg strOfNums (seq_alike (k := Fo.leaf 0 6 (oL a.oid) (lf a.tag (bl a.text))) (m := Fo.leaf 0 6 (oL b.oid) (lf b.tag (bl b.text))) (hok a ha) (hok b hb) e)
  ·obtain ⟨a, ha, rfl⟩ := List.mem_map.1 ((sortF_mem _ f).1 hf)
   exact hok a (by first | exact ha | exact List.mem_reverse.1 ha)
  ·obtain ⟨a, ha, rfl⟩ := List.mem_map.1 ((sortF_mem _ f).1 hf)
   exact hok a (by first | exact ha | exact List.mem_reverse.1 ha)
 show hdPut 0 17 true ((joinF (sortF (l.reverse.map attrF))).enc.length : Int) ++ (joinF (sortF (l.reverse.map attrF))).enc ++ [] = hdPut 0 17 true ((joinF (sortF (l.map attrF))).enc.length : Int) ++ (joinF (sortF (l.map attrF))).enc ++ []
 rw [hin]
theorem setOk_turn (l : List AttrV) : setOk l.reverse = setOk l := by
 rw [Bool.eq_iff_iff, setOk_iff, setOk_iff]
 simp
theorem nameS_turn (l : List (List AttrV)) (hs : ∀ s ∈ l, ∀ a ∈ s, a.Small) : nameOk (l.map List.reverse) = nameOk l ∧ nameS (l.map List.reverse) = nameS l := by
 have h1 : nameOk (l.map List.reverse) = nameOk l := by
  rw [Bool.eq_iff_iff, nameOk_iff, nameOk_iff]
  constructor
  ·intro h s hs'
   rw [← setOk_turn]
   exact h _ (List.mem_map.2 ⟨s, hs', rfl⟩)
  ·intro h s hs'
   obtain ⟨q, hq, rfl⟩ := List.mem_map.1 hs'
   rw [setOk_turn]
   exact h q hq
 refine ⟨h1, ?_⟩
 unfold nameS
 rw [h1]
 by_cases h : nameOk l = true
 ·rw [if_pos h, if_pos h]
  have hj : (joinF ((l.map List.reverse).map setF)).enc = (joinF (l.map setF)).enc := by
   rw [joinF_enc, joinF_enc, List.map_map, List.flatMap_map, List.flatMap_map]
   have : ∀ m : List (List AttrV), (∀ s ∈ m, s ∈ l) → m.flatMap (fun a => ((setF ∘ List.reverse) a).enc) = m.flatMap (fun a => (setF a).enc) := by
    intro m
    induction m with
    |nil => intro _; simp only [List.flatMap_nil]
    |cons s m ih =>
     intro hm
     rw [List.flatMap_cons, List.flatMap_cons, ih (fun q hq => hm q (List.mem_cons_of_mem _ hq))]
     have hsl := hm s (List.mem_cons_self ..)
     show (setF s.reverse).enc ++ _ = _
     rw [setF_turn (hs s hsl) (nameOk_iff.1 h s hsl)]
   exact this l (fun _ h => h)
  unfold encS nameF
  rw [sq_enc hj]
 ·rw [if_neg h, if_neg h]
end Go.Proofs.YtiecbagejdcafaaGreatDoor
