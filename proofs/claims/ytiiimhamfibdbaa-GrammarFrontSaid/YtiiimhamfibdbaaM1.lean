/- The grammar of a list of revoked certificates, in plain words: the parts, which element each is, what may come next; the part of each event. It holds of numbers alone, under no condition on the program. -/
import Derived.Test.YtiiimhamfibdbaaP0
import Derived.Test.YtiiimhamfibdbaaV1
namespace Go.Proofs.Ytiiimhamfibdbaa
open Go.PlainAid
set_option linter.unusedVariables false
abbrev GSlot := Int × Bool × Bool
def rowG (p : Int) : List GSlot :=
 if p = 0 then [(1, false, false)]
 else if p = 1 then [(2, false, false), (4, false, false), (22, false, false)]
 else if p = 2 then [(3, true, false), (4, false, false), (7, false, false), (11, false, false), (12, true, false), (13, true, false), (21, true, false)]
 else if p = 4 then [(5, false, false), (6, true, false)]
 else if p = 6 then [(6, true, true)]
 else if p = 7 then [(8, true, true)]
 else if p = 8 then [(9, false, true)]
 else if p = 9 then [(5, false, false), (10, false, false)]
 else if p = 13 then [(14, false, true)]
 else if p = 14 then [(15, false, false), (16, false, false), (17, true, false)]
 else if p = 17 then [(18, false, true)]
 else if p = 18 then [(5, false, false), (19, true, false), (20, false, false)]
 else if p = 21 then [(17, false, false)]
 else []
def fitsG (p c t : Int) (f : Bool) (n : Int) : Bool :=
 if p = 6 then true
 else if p = 21 then decide (c = 2) && f && decide (t = 0)
 else if c ≠ 0 then false
 else if p = 8 then f && decide (t = 17)
 else if 0 < (rowG p).length then f && decide (t = 16)
 else if f = true then false
 else if p = 3 then decide (t = 2) && decide (n = 1)
 else if p = 5 then decide (t = 6)
 else if p = 10 then decide (t = 12) || decide (t = 19) || decide (t = 22)
 else if p = 11 ∨ p = 12 ∨ p = 16 then decide (t = 23) || decide (t = 24)
 else if p = 15 then decide (t = 2)
 else if p = 19 then decide (t = 1)
 else if p = 20 then decide (t = 4)
 else decide (t = 3)
def scanG (c t : Int) (f : Bool) (n : Int) : Bool → Nat → List GSlot → Option (Nat × Int)
 |_, _, [] => none
 |came, k, s :: r => if (came = false ∨ s.2.2 = true) ∧ fitsG s.1 c t f n = true then some (k, s.1) else if came = false ∧ s.2.1 = false then none else scanG c t f n false (k + 1) r
def overG : Bool → List GSlot → Bool
 |_, [] => true
 |came, s :: r => (came || s.2.1) && overG false r
structure GO where
 p : Int
 k : Nat
 came : Bool
structure GS where
 op : List GO
 leaf : Int
 ver : Bool
 part : Int
def GS.new : GS := ⟨[⟨0, 0, false⟩], 0, false, 0⟩
def GS.head (s : GS) (c t : Int) (f : Bool) (n : Int) : GS :=
 match s.op with
 |[] => { s with part := 0 }
 |o :: r =>
  match scanG c t f n o.came o.k ((rowG o.p).drop o.k) with
  |none => { s with part := 0 }
  |some (k, p) => { s with op := ⟨o.p, k, true⟩ :: r, part := if s.ver = false ∧ (p = 21 ∨ p = 17 ∧ o.p = 14) then 0 else p }
def GS.push (s : GS) (e : Ev) : GS :=
 if e.k = 1 then { s.head e.c e.t e.f e.n with op := ⟨(s.head e.c e.t e.f e.n).part, 0, false⟩ :: (s.head e.c e.t e.f e.n).op }
 else if e.k = 2 then { s.head e.c e.t e.f e.n with leaf := (s.head e.c e.t e.f e.n).part, ver := s.ver || decide ((s.head e.c e.t e.f e.n).part = 3) }
 else if e.k = 3 then { s with part := if s.leaf = 3 ∧ e.b ≠ 1 ∨ s.leaf = 19 ∧ e.b ≠ 255 then 0 else s.leaf }
 else if e.k = 4 then { s with part := s.leaf }
 else match s.op with
  |[] => { s with part := 0 }
  |o :: r => { s with op := r, part := if overG o.came ((rowG o.p).drop o.k) = true then o.p else 0 }
def GS.parts : GS → List Ev → List Int
 |_, [] => []
 |s, e :: r => if (s.push e).part = 0 then [] else (s.push e).part :: (s.push e).parts r
def GS.run : GS → List Ev → GS
 |s, [] => s
 |s, e :: r => (s.push e).run r
def partsG (l : List Ev) : List Int := GS.new.parts l
theorem GS.parts_len (l : List Ev) : ∀ s : GS, (s.parts l).length ≤ l.length := by
 induction l with
 |nil => intro s; exact Nat.le_refl _
 |cons e r ih =>
  intro s
  unfold GS.parts
  split
  ·exact Nat.zero_le _
  ·rw [List.length_cons, List.length_cons]; exact Nat.succ_le_succ (ih _)
theorem GS.parts_take (l : List Ev) : ∀ (s : GS) (n : Nat), s.parts (l.take n) = (s.parts l).take n := by
 induction l with
 |nil => intro s n; simp [GS.parts]
 |cons e r ih =>
  intro s n
  cases n with
  |zero => simp [GS.parts]
  |succ n =>
   rw [List.take_succ_cons]
   unfold GS.parts
   split
   ·simp
   ·rw [List.take_succ_cons, ih]
theorem GS.run_append (l m : List Ev) : ∀ (s : GS), s.run (l ++ m) = (s.run l).run m := by
 induction l with
 |nil => intro s; rfl
 |cons e r ih => intro s; exact ih _
end Go.Proofs.Ytiiimhamfibdbaa
/- The first thing that is wrong with a text as a list of revoked certificates, in plain words: an element, a content, or a part; what stands behind plays no part; what is encoded is a list. -/
namespace Go.Proofs.Ytiiimhamfibdbaa
open Go.PlainAid
set_option linter.unusedVariables false
def gF (L : List Ev) : Option (Nat × Int) :=
 if 0 ≤ vF L ∧ vF L ≤ ((partsG L).length : Int) then some ((vF L).toNat, 7) else if (partsG L).length < L.length then some ((partsG L).length, 8) else none
def gramW (b : ByteArray) (dep : Int) : Int × Int :=
 match gF (evW b dep).1 with
 |some (i, e) => (e, atOf (evW b dep).1 i)
 |none => ((evW b dep).2.1, ((evW b dep).2.2 : Int))
theorem parts_le (L : List Ev) : (partsG L).length ≤ L.length := GS.parts_len L _
theorem parts_left (L R : List Ev) : partsG L = (partsG (L ++ R)).take L.length := by
 have h := GS.parts_take (L ++ R) GS.new L.length
 rw [List.take_left] at h
 exact h
theorem gF_lt {L : List Ev} (hf : VS.all VS.new L) {i : Nat} {e : Int} (h : gF L = some (i, e)) : i < L.length ∧ (e = 7 ∨ e = 8) := by
 obtain ⟨⟨f1, f2⟩, _⟩ := v_bad hf
 unfold gF at h
 split at h
 ·rename_i hc
  injection h with h
  simp only [Prod.mk.injEq] at h
  exact ⟨by omega, .inl h.2.symm⟩
 ·split at h
  ·rename_i hc
   injection h with h
   simp only [Prod.mk.injEq] at h
   exact ⟨by omega, .inr h.2.symm⟩
  ·cases h
theorem gF_front {L R : List Ev} (hf : VS.all VS.new (L ++ R)) : (∀ x, gF L = some x → gF (L ++ R) = some x) ∧ (gF L = none → gF (L ++ R) = none ∨ ∃ i e, gF (L ++ R) = some (i, e) ∧ L.length ≤ i) := by
 obtain ⟨k1, k2⟩ := vF_front hf
 obtain ⟨⟨f1, f2⟩, _⟩ := v_bad hf
 obtain ⟨⟨g1, g2⟩, _⟩ := v_bad ((VS.all_append _ _ _).1 hf).1
 have hp := parts_left L R
 have hl := congrArg List.length hp
 rw [List.length_take] at hl
 have h1 := parts_le L
 have h2 := parts_le (L ++ R)
 have hlen : (L ++ R).length = L.length + R.length := List.length_append
 obtain ⟨a, ha⟩ : ∃ a, (partsG L).length = a := ⟨_, rfl⟩
 obtain ⟨c, hc⟩ : ∃ c, (partsG (L ++ R)).length = c := ⟨_, rfl⟩
 rw [ha] at hl h1
 rw [hc] at hl h2
 have eL : gF L = if 0 ≤ vF L ∧ vF L ≤ (a : Int) then some ((vF L).toNat, 7) else if a < L.length then some (a, 8) else none := by subst ha; rfl
 have eR : gF (L ++ R) = if 0 ≤ vF (L ++ R) ∧ vF (L ++ R) ≤ (c : Int) then some ((vF (L ++ R)).toNat, 7) else if c < (L ++ R).length then some (c, 8) else none := by subst hc; rfl
 rw [eL, eR]
 rw [hlen] at *
 generalize vF L = A at *
 generalize vF (L ++ R) = B at *
 refine ⟨fun x hx => ?_, fun hx => ?_⟩
 ·by_cases h0 : 0 ≤ A ∧ A ≤ (a : Int)
  ·rw [if_pos h0] at hx
   have hB := k1 h0.1
   rw [if_pos (by omega), hB]; exact hx
  ·rw [if_neg h0] at hx
   by_cases h3 : a < L.length
   ·rw [if_pos h3] at hx
    have hac : a = c := by omega
    rw [if_neg (by omega), if_pos (by omega), ← hac]; exact hx
   ·rw [if_neg h3] at hx; cases hx
 ·by_cases h0 : 0 ≤ A ∧ A ≤ (a : Int)
  ·rw [if_pos h0] at hx; cases hx
  ·rw [if_neg h0] at hx
   by_cases h3 : a < L.length
   ·rw [if_pos h3] at hx; cases hx
   ·by_cases h4 : 0 ≤ B ∧ B ≤ (c : Int)
    ·rw [if_pos h4]; exact .inr ⟨_, _, rfl, by omega⟩
    ·rw [if_neg h4]
     by_cases h5 : c < L.length + R.length
     ·rw [if_pos h5]; exact .inr ⟨_, _, rfl, by omega⟩
     ·rw [if_neg h5]; exact .inl rfl
theorem gramW_some {b : ByteArray} {dep : Int} {L : List Ev} {E : Int} {P : Nat} (h : evW b dep = (L, E, P)) {i : Nat} {e : Int} (hg : gF L = some (i, e)) : gramW b dep = (e, atOf L i) := by
 unfold gramW; rw [h]; simp only [hg]
theorem gramW_none {b : ByteArray} {dep : Int} {L : List Ev} {E : Int} {P : Nat} (h : evW b dep = (L, E, P)) (hg : gF L = none) : gramW b dep = (E, (P : Int)) := by
 unfold gramW; rw [h]; simp only [hg]
theorem gram_front {b : ByteArray} {dep : Int} {n : Nat} (hs : b.size ≤ maxLen) (hn : n ≤ b.size) {e f at_ on : Int} (h : gramW b dep = (e, at_)) (h' : gramW (b.extract 0 n) dep = (f, on)) :
  (on < n ∧ f = e ∧ on = at_) ∨ (on = n ∧ (f = 0 ∨ f = 2) ∧ (e = 0 ∨ (n : Int) ≤ at_)) := by
 obtain ⟨L, E, P, hw⟩ : ∃ L e p, evW b dep = (L, e, p) := ⟨_, _, _, rfl⟩
 obtain ⟨L', E', P', hw'⟩ : ∃ L e p, evW (b.extract 0 n) dep = (L, e, p) := ⟨_, _, _, rfl⟩
 have hf := evW_fits hs hw
 rcases evW_front2 hn hw hw' with ⟨rfl, rfl, rfl, h4, h5⟩ | ⟨R, rfl, h2, h3, rfl, h5, h6⟩
 ·left
  cases hg : gF L' with
  |some x =>
   obtain ⟨i, k⟩ := x
   rw [gramW_some hw hg] at h
   rw [gramW_some hw' hg] at h'
   simp only [Prod.mk.injEq] at h h'
   obtain ⟨x, hx, hxa⟩ := atOf_mem (l := L') (i := i) (gF_lt hf hg).1
   have := h5 x hx
   omega
  |none =>
   rw [gramW_none hw hg] at h
   rw [gramW_none hw' hg] at h'
   simp only [Prod.mk.injEq] at h h'
   omega
 ·obtain ⟨k1, k2⟩ := gF_front hf
  cases hg : gF L' with
  |some x =>
   left
   obtain ⟨i, k⟩ := x
   rw [gramW_some hw (k1 _ hg)] at h
   rw [gramW_some hw' hg] at h'
   have hi := (gF_lt ((VS.all_append _ _ _).1 hf).1 hg).1
   rw [atOf_left hi] at h
   obtain ⟨x, hx, hxa⟩ := atOf_mem (l := L') (i := i) hi
   have := h3 x hx
   simp only [Prod.mk.injEq] at h h'
   omega
  |none =>
   right
   rw [gramW_none hw' hg] at h'
   simp only [Prod.mk.injEq] at h'
   obtain ⟨rfl, rfl⟩ := h'
   refine ⟨rfl, h5, ?_⟩
   rcases k2 hg with hk | ⟨i, k, hk, hik⟩
   ·rw [gramW_none hw hk] at h
    simp only [Prod.mk.injEq] at h
    omega
   ·rw [gramW_some hw hk] at h
    obtain ⟨x, hx, hxa⟩ := atOf_right (l := L') (r := R) (i := i) hik (gF_lt hf hk).1
    have := h2 x hx
    simp only [Prod.mk.injEq] at h
    omega
end Go.Proofs.Ytiiimhamfibdbaa
/- The parts that are open along a text's events: never fewer than one, never more than the depth allows, until one is wrong. Plain. -/
namespace Go.Proofs.Ytiiimhamfibdbaa
open Go.PlainAid
set_option linter.unusedVariables false
theorem GS.head_len (s : GS) (c t : Int) (f : Bool) (n : Int) : (s.head c t f n).op.length = s.op.length := by
 unfold GS.head
 split
 ·rename_i h; rw [h]
 ·rename_i o r h
  split
  ·show s.op.length = _; rfl
  ·rw [h]; rfl
theorem GS.push_len (s : GS) (e : Ev) (h : s.op ≠ []) : ((s.push e).op.length : Int) = if e.k = 1 then (s.op.length : Int) + 1 else if e.k = 2 ∨ e.k = 3 ∨ e.k = 4 then (s.op.length : Int) else (s.op.length : Int) - 1 := by
 unfold GS.push
 by_cases h1 : e.k = 1
 ·rw [if_pos h1, if_pos h1]
  show (((s.head e.c e.t e.f e.n).op.length + 1 : Nat) : Int) = _
  rw [GS.head_len]; rfl
 ·rw [if_neg h1, if_neg h1]
  by_cases h2 : e.k = 2
  ·rw [if_pos h2, if_pos (.inl h2)]
   show (((s.head e.c e.t e.f e.n).op.length : Nat) : Int) = _
   rw [GS.head_len]
  ·rw [if_neg h2]
   by_cases h3 : e.k = 3
   ·rw [if_pos h3]
    show (s.op.length : Int) = _
    rw [if_pos (show e.k = 2 ∨ e.k = 3 ∨ e.k = 4 from .inr (.inl h3))]
   ·rw [if_neg h3]
    by_cases h4 : e.k = 4
    ·rw [if_pos h4]
     show (s.op.length : Int) = _
     rw [if_pos (show e.k = 2 ∨ e.k = 3 ∨ e.k = 4 from .inr (.inr h4))]
    ·rw [if_neg h4, if_neg (by omega)]
     cases hq : s.op with
     |nil => exact absurd hq h
     |cons o r => simp
def GS.fine (M : Int) : GS → List Ev → Prop
 |_, [] => True
 |s, e :: r => s.op ≠ [] ∧ ((s.push e).op.length : Int) ≤ M + 1 ∧ ((s.push e).part ≠ 0 → (s.push e).fine M r)
theorem GS.fine_of {b : ByteArray} {M : Int} (l : List Ev) : ∀ (s : GS) (n : NS), (s.op.length : Int) = n.o + 1 → 0 ≤ n.o → (∀ e ∈ l, 1 ≤ e.k ∧ e.k ≤ 5) → NS.all b M n l → s.fine M l := by
 induction l with
 |nil => intro s n _ _ _ _; exact trivial
 |cons e r ih =>
  intro s n hl h0 hk h
  obtain ⟨hg, hr⟩ := h
  have hne : s.op ≠ [] := by
   intro q; rw [q] at hl; simp at hl; omega
  have hp := GS.push_len s e hne
  have hlo := hg.lo
  have hhi := hg.hi
  have he := hk e (List.mem_cons_self ..)
  have hn : ((s.push e).op.length : Int) = (n.next e).o + 1 := by
   rw [hp]
   show _ = (if e.k = 1 then n.o + 1 else if e.k = 5 then n.o - 1 else n.o) + 1
   by_cases q1 : e.k = 1
   ·rw [if_pos q1, if_pos q1]; omega
   ·rw [if_neg q1, if_neg q1]
    by_cases q5 : e.k = 5
    ·rw [if_neg (by omega), if_pos q5]; omega
    ·rw [if_pos (by omega), if_neg q5]; omega
  exact ⟨hne, by omega, fun _ => ih _ (n.next e) hn hlo (fun x hx => hk x (List.mem_cons_of_mem _ hx)) hr⟩
end Go.Proofs.Ytiiimhamfibdbaa
/- Which events a grammar is ever given: one that enters is constructed, a byte and an end come behind a primitive one's head. Plain. -/
namespace Go.Proofs.Ytiiimhamfibdbaa
open Go.PlainAid
set_option linter.unusedVariables false
def GS.can (s : GS) (e : Ev) : Prop := (e.k = 1 → e.f = true) ∧ (e.k = 3 ∨ e.k = 4 → s.leaf ≠ 0)
def GS.cans : GS → List Ev → Prop
 |_, [] => True
 |s, e :: r => s.can e ∧ ((s.push e).part ≠ 0 → (s.push e).cans r)
theorem GS.push_leaf (s : GS) (e : Ev) : (s.push e).leaf = if e.k = 2 then (s.push e).part else s.leaf := by
 have hh : ∀ c t f n, (s.head c t f n).leaf = s.leaf := fun c t f n => by
  unfold GS.head
  split
  ·rfl
  ·split <;> rfl
 unfold GS.push
 by_cases h1 : e.k = 1
 ·rw [if_pos h1, if_neg (show ¬ e.k = 2 by omega)]; exact hh ..
 ·rw [if_neg h1]
  by_cases h2 : e.k = 2
  ·rw [if_pos h2, if_pos h2]
  ·rw [if_neg h2, if_neg h2]
   by_cases h3 : e.k = 3
   ·rw [if_pos h3]
   ·rw [if_neg h3]
    by_cases h4 : e.k = 4
    ·rw [if_pos h4]
    ·rw [if_neg h4]
     split <;> rfl
theorem GS.cans_of {b : ByteArray} {M : Int} (l : List Ev) : ∀ (s : GS) (n : NS), (n.f = true → s.leaf ≠ 0) → (∀ e ∈ l, 1 ≤ e.k ∧ e.k ≤ 5) → (∀ e ∈ l, e.k = 1 → e.f = true) → NS.all b M n l → s.cans l := by
 induction l with
 |nil => intro s n _ _ _ _; exact trivial
 |cons e r ih =>
  intro s n hn hk hf h
  obtain ⟨hg, hr⟩ := h
  have hl := hg.leaf
  have he := hk e (List.mem_cons_self ..)
  have hx : (n.next e).f = if e.k = 2 ∨ e.k = 4 then !n.f else n.f := rfl
  have h3 : e.k = 3 ∨ e.k = 4 → n.f = true := by
   intro h
   rcases h with h | h
   ·exact (hg.byte h).1
   ·rw [hx, if_pos (.inr h), h] at hl
    cases hnf : n.f
    ·rw [hnf] at hl; simp at hl
    ·rfl
  refine ⟨⟨hf e (List.mem_cons_self ..), fun h => hn (h3 h)⟩, fun hp => ih _ (n.next e) (fun h => ?_) (fun x hx => hk x (List.mem_cons_of_mem _ hx)) (fun x hx => hf x (List.mem_cons_of_mem _ hx)) hr⟩
  rw [GS.push_leaf]
  by_cases h2 : e.k = 2
  ·rw [if_pos h2]; exact hp
  ·rw [if_neg h2]
   rw [h] at hl
   by_cases h4 : e.k = 3
   ·exact hn (h3 (.inl h4))
   ·rw [decide_eq_false h2, decide_eq_false h4] at hl; simp at hl
theorem popE_k : ∀ (st : List Int) (p : Nat), ∀ e ∈ popE st p, e.k = 5 := by
 intro st
 induction st with
 |nil => intro p e he; simp [popE] at he
 |cons x r ih =>
  intro p e he
  rw [popE] at he
  split at he
  ·rcases List.mem_cons.1 he with rfl | h
   ·rfl
   ·exact ih p e h
  ·simp at he
theorem evW_cons {b : ByteArray} {dep : Int} {L : List Ev} {E : Int} {P : Nat} (h : evW b dep = (L, E, P)) : ∀ e ∈ L, e.k = 1 → e.f = true := by
 obtain ⟨m, h1, h2, h3⟩ := evW_upto h
 have hpop : ∀ (st : List Int) (p : Nat), ∀ e ∈ popE st p, e.k = 1 → e.f = true := fun st p e he hk => by
  have := popE_k st p e he; omega
 refine allTo_ind (Q := fun m acc => ∀ e ∈ acc, e.k = 1 → e.f = true) (fun e he => by simp at he) (fun i m m' acc l hi hat hQ hs => ?_) P h1 m L h2
 obtain ⟨ho, hdn, hc⟩ := EM.step_cases hs
 intro e he
 rcases List.mem_append.1 he with he | he
 ·exact hQ e he
 ·rcases hc with ⟨g1, rfl, rfl⟩ | ⟨g1, rfl, rfl⟩ | ⟨g1, g2, g3, rfl, rfl⟩ | ⟨g1, g2, c, t, f, n, g, g3, g4, rfl, rfl⟩
  ·rcases List.mem_cons.1 he with rfl | he
   ·intro hk; exact absurd hk (by show ¬ (3 : Int) = 1; decide)
   ·rcases List.mem_cons.1 he with rfl | he
    ·intro hk; exact absurd hk (by show ¬ (4 : Int) = 1; decide)
    ·exact hpop _ _ e he
  ·rcases List.mem_cons.1 he with rfl | he
   ·intro hk; exact absurd hk (by show ¬ (3 : Int) = 1; decide)
   ·simp at he
  ·simp at he
  ·unfold headL at he
   split at he
   ·rename_i hf
    rcases List.mem_cons.1 he with rfl | he
    ·intro _; exact hf
    ·exact hpop _ _ e he
   ·split at he
    ·rcases List.mem_cons.1 he with rfl | he
     ·intro hk; exact absurd hk (by show ¬ (2 : Int) = 1; decide)
     ·rcases List.mem_cons.1 he with rfl | he
      ·intro hk; exact absurd hk (by show ¬ (4 : Int) = 1; decide)
      ·exact hpop _ _ e he
    ·rcases List.mem_cons.1 he with rfl | he
     ·intro hk; exact absurd hk (by show ¬ (2 : Int) = 1; decide)
     ·simp at he
theorem evW_cans {b : ByteArray} {dep : Int} {L : List Ev} {E : Int} {P : Nat} (h : evW b dep = (L, E, P)) (hk : ∀ e ∈ L, 1 ≤ e.k ∧ e.k ≤ 5) : GS.cans GS.new L :=
 GS.cans_of L GS.new ⟨0, false, 0⟩ (fun h => by cases h) hk (evW_cons h) (evW_nest h).1
end Go.Proofs.Ytiiimhamfibdbaa
/- The places of a row as the landed code counts them, in plain words: they and the document's are one. It holds of numbers alone, under no condition on the program. -/
namespace Go.Proofs.Ytiiimhamfibdbaa
open Go.PlainAid
set_option linter.unusedVariables false
abbrev GPl := Int × Int
def slotP (s : GSlot) : List GPl := if s.2.1 = true then (if s.2.2 = true then [(s.1, 2)] else [(s.1, 1)]) else if s.2.2 = true then [(s.1, 0), (s.1, 2)] else [(s.1, 0)]
def flatP (l : List GSlot) : List GPl := l.flatMap slotP
def rowP (p : Int) : List GPl := flatP (rowG p)
def remP : Bool → List GSlot → List GPl
 |_, [] => []
 |false, s :: r => flatP (s :: r)
 |true, s :: r => if s.2.2 = true then (s.1, 2) :: flatP r else flatP r
def mayP (v : Bool) (p : Int) : Bool := v || (decide (p ≠ 17) && decide (p ≠ 21))
def scanP (v : Bool) (c t : Int) (f : Bool) (n : Int) : Nat → List GPl → Option (Nat × Int)
 |_, [] => none
 |i, q :: r => if fitsG q.1 c t f n = true ∧ mayP v q.1 = true then some (if q.2 = 2 then i else i + 1, q.1) else if q.2 = 0 then none else scanP v c t f n (i + 1) r
def overP : List GPl → Bool
 |[] => true
 |q :: r => decide (q.2 ≠ 0) && overP r
theorem flatP_cons (s : GSlot) (r : List GSlot) : flatP (s :: r) = slotP s ++ flatP r := by simp [flatP]
theorem remP_false (l : List GSlot) : remP false l = flatP l := by cases l <;> rfl
theorem overP_append (l m : List GPl) : overP (l ++ m) = (overP l && overP m) := by
 induction l with
 |nil => rfl
 |cons q r ih => show (decide (q.2 ≠ 0) && overP (r ++ m)) = _; rw [ih]; show _ = ((decide (q.2 ≠ 0) && overP r) && overP m); rw [Bool.and_assoc]
theorem overP_slot (s : GSlot) : overP (slotP s) = s.2.1 := by
 obtain ⟨x, a, b⟩ := s
 cases a <;> cases b <;> rfl
theorem overP_flat (l : List GSlot) : overP (flatP l) = overG false l := by
 induction l with
 |nil => rfl
 |cons s r ih => rw [flatP_cons, overP_append, ih, overP_slot]; rfl
theorem overP_rem (came : Bool) (l : List GSlot) : overP (remP came l) = overG came l := by
 cases came with
 |false => rw [remP_false]; exact overP_flat l
 |true =>
  cases l with
  |nil => rfl
  |cons s r =>
   obtain ⟨x, a, b⟩ := s
   show overP (if b = true then (x, 2) :: flatP r else flatP r) = ((true || a) && overG false r)
   cases b
   ·rw [if_neg (by decide), overP_flat]; simp
   ·rw [if_pos rfl]
    show (decide ((2 : Int) ≠ 0) && overP (flatP r)) = _
    rw [overP_flat]; simp
def SpL : List GSlot → Prop
 |[] => True
 |s :: r => ((s.1 = 17 ∨ s.1 = 21) → r = [] ∧ s.2.2 = false) ∧ SpL r
theorem SpL_drop (l : List GSlot) : ∀ k, SpL l → SpL (l.drop k) := by
 induction l with
 |nil => intro k _; simp [SpL]
 |cons s r ih =>
  intro k h
  cases k with
  |zero => exact h
  |succ k => exact ih k h.2
theorem mayP_other {v : Bool} {p : Int} (h : ¬ (v = false ∧ (p = 17 ∨ p = 21))) : mayP v p = true := by
 cases v
 ·have h1 : p ≠ 17 := fun e => h ⟨rfl, .inl e⟩
  have h2 : p ≠ 21 := fun e => h ⟨rfl, .inr e⟩
  simp [mayP, h1, h2]
 ·rfl
theorem mayP_none {v : Bool} {p : Int} (h : v = false ∧ (p = 17 ∨ p = 21)) : mayP v p = false := by
 obtain ⟨rfl, h | h⟩ := h <;> simp [mayP, h]
def Same (v : Bool) (c t : Int) (f : Bool) (n : Int) (i : Nat) (rem : List GPl) (k : Nat) (rest : List GSlot) : Option (Nat × Int) → Prop
 |none => scanP v c t f n i rem = none
 |some (k', x) => if v = false ∧ (x = 17 ∨ x = 21) then scanP v c t f n i rem = none else ∃ i', scanP v c t f n i rem = some (i', x) ∧ i ≤ i' ∧ k ≤ k' ∧ rem.drop (i' - i) = remP true (rest.drop (k' - k))
theorem Same.later {v : Bool} {c t : Int} {f : Bool} {n : Int} {i : Nat} {rem : List GPl} {k : Nat} {s : GSlot} {rest : List GSlot} {q : GPl} {o : Option (Nat × Int)} (h : Same v c t f n (i + 1) rem (k + 1) rest o) (hs : scanP v c t f n i (q :: rem) = scanP v c t f n (i + 1) rem) : Same v c t f n i (q :: rem) k (s :: rest) o := by
 cases o with
 |none => show _ = _; rw [hs]; exact h
 |some y =>
  obtain ⟨k', x⟩ := y
  have h : if v = false ∧ (x = 17 ∨ x = 21) then scanP v c t f n (i + 1) rem = none else ∃ i', scanP v c t f n (i + 1) rem = some (i', x) ∧ i + 1 ≤ i' ∧ k + 1 ≤ k' ∧ rem.drop (i' - (i + 1)) = remP true (rest.drop (k' - (k + 1))) := h
  show if v = false ∧ (x = 17 ∨ x = 21) then scanP v c t f n i (q :: rem) = none else _
  split
  ·rename_i hx; rw [if_pos hx] at h; rw [hs]; exact h
  ·rename_i hx
   rw [if_neg hx] at h
   obtain ⟨i', h1, h2, h3, h4⟩ := h
   refine ⟨i', by rw [hs]; exact h1, by omega, by omega, ?_⟩
   rw [show i' - i = (i' - (i + 1)) + 1 by omega, show k' - k = (k' - (k + 1)) + 1 by omega, List.drop_succ_cons, List.drop_succ_cons]
   exact h4
theorem Same.skip {v : Bool} {c t : Int} {f : Bool} {n : Int} {i : Nat} {rem : List GPl} {k : Nat} {s : GSlot} {rest : List GSlot} {o : Option (Nat × Int)} (h : Same v c t f n i rem (k + 1) rest o) : Same v c t f n i rem k (s :: rest) o := by
 cases o with
 |none => exact h
 |some y =>
  obtain ⟨k', x⟩ := y
  have h : if v = false ∧ (x = 17 ∨ x = 21) then scanP v c t f n i rem = none else ∃ i', scanP v c t f n i rem = some (i', x) ∧ i ≤ i' ∧ k + 1 ≤ k' ∧ rem.drop (i' - i) = remP true (rest.drop (k' - (k + 1))) := h
  show if v = false ∧ (x = 17 ∨ x = 21) then scanP v c t f n i rem = none else _
  split
  ·rename_i hx; rw [if_pos hx] at h; exact h
  ·rename_i hx
   rw [if_neg hx] at h
   obtain ⟨i', h1, h2, h3, h4⟩ := h
   refine ⟨i', h1, h2, by omega, ?_⟩
   rw [show k' - k = (k' - (k + 1)) + 1 by omega, List.drop_succ_cons]
   exact h4
theorem scan_flat (v : Bool) (c t : Int) (f : Bool) (n : Int) (l : List GSlot) : ∀ (i k : Nat), (v = true ∨ SpL l) → Same v c t f n i (flatP l) k l (scanG c t f n false k l) := by
 induction l with
 |nil => intro i k _; rfl
 |cons s r ih =>
  intro i k hv
  have hr : v = true ∨ SpL r := hv.imp id (·.2)
  obtain ⟨x, a, b⟩ := s
  have IH := ih (i + 1) (k + 1) hr
  rw [flatP_cons]
  by_cases hf : fitsG x c t f n = true
  ·have e1 : scanG c t f n false k ((x, a, b) :: r) = some (k, x) := by rw [scanG, if_pos ⟨.inl rfl, hf⟩]
   rw [e1]
   by_cases hx : v = false ∧ (x = 17 ∨ x = 21)
   ·have hm := mayP_none hx
    obtain ⟨rfl, rfl⟩ : r = [] ∧ b = false := by
     rcases hv with h | h
     ·rw [hx.1] at h; cases h
     ·exact h.1 hx.2
    show if v = false ∧ (x = 17 ∨ x = 21) then _ else _
    rw [if_pos hx]
    cases a
    ·show scanP v c t f n i [(x, 0)] = none
     rw [scanP, if_neg (by rw [hm]; simp), if_pos rfl]
    ·show scanP v c t f n i [(x, 1)] = none
     rw [scanP, if_neg (by rw [hm]; simp), if_neg (show ¬ (1 : Int) = 0 by decide)]; rfl
   ·have hm := mayP_other hx
    show if v = false ∧ (x = 17 ∨ x = 21) then _ else _
    rw [if_neg hx]
    cases a <;> cases b
    ·refine ⟨i + 1, ?_, by omega, by omega, ?_⟩
     ·show scanP v c t f n i ((x, 0) :: flatP r) = _
      rw [scanP, if_pos ⟨hf, hm⟩]; rfl
     ·rw [show i + 1 - i = 1 by omega, Nat.sub_self]; rfl
    ·refine ⟨i + 1, ?_, by omega, by omega, ?_⟩
     ·show scanP v c t f n i ((x, 0) :: (x, 2) :: flatP r) = _
      rw [scanP, if_pos ⟨hf, hm⟩]; rfl
     ·rw [show i + 1 - i = 1 by omega, Nat.sub_self]; rfl
    ·refine ⟨i + 1, ?_, by omega, by omega, ?_⟩
     ·show scanP v c t f n i ((x, 1) :: flatP r) = _
      rw [scanP, if_pos ⟨hf, hm⟩]; rfl
     ·rw [show i + 1 - i = 1 by omega, Nat.sub_self]; rfl
    ·refine ⟨i, ?_, by omega, by omega, ?_⟩
     ·show scanP v c t f n i ((x, 2) :: flatP r) = _
      rw [scanP, if_pos ⟨hf, hm⟩]; rfl
     ·rw [Nat.sub_self, Nat.sub_self]; rfl
  ·cases a
   ·have e1 : scanG c t f n false k ((x, false, b) :: r) = none := by rw [scanG, if_neg (by rintro ⟨_, h⟩; exact hf h), if_pos ⟨rfl, rfl⟩]
    rw [e1]
    cases b
    ·show scanP v c t f n i ((x, 0) :: flatP r) = none
     rw [scanP, if_neg (by rintro ⟨h, _⟩; exact hf h), if_pos rfl]
    ·show scanP v c t f n i ((x, 0) :: (x, 2) :: flatP r) = none
     rw [scanP, if_neg (by rintro ⟨h, _⟩; exact hf h), if_pos rfl]
   ·have e1 : scanG c t f n false k ((x, true, b) :: r) = scanG c t f n false (k + 1) r := by rw [scanG, if_neg (by rintro ⟨_, h⟩; exact hf h), if_neg (by rintro ⟨_, h⟩; cases h)]
    rw [e1]
    cases b
    ·exact IH.later (by rw [scanP, if_neg (by rintro ⟨h, _⟩; exact hf h), if_neg (show ¬ (1 : Int) = 0 by decide)])
    ·exact IH.later (by rw [scanP, if_neg (by rintro ⟨h, _⟩; exact hf h), if_neg (show ¬ (2 : Int) = 0 by decide)])
theorem scan_rem (v : Bool) (c t : Int) (f : Bool) (n : Int) (l : List GSlot) (came : Bool) (i k : Nat) (hv : v = true ∨ SpL l) : Same v c t f n i (remP came l) k l (scanG c t f n came k l) := by
 cases came with
 |false => rw [remP_false]; exact scan_flat v c t f n l i k hv
 |true =>
  cases l with
  |nil => rfl
  |cons s r =>
   have hr : v = true ∨ SpL r := hv.imp id (·.2)
   obtain ⟨x, a, b⟩ := s
   cases b
   ·have e1 : scanG c t f n true k ((x, a, false) :: r) = scanG c t f n false (k + 1) r := by rw [scanG, if_neg (by rintro ⟨h | h, _⟩ <;> cases h), if_neg (by rintro ⟨h, _⟩; cases h)]
    rw [e1]
    exact (scan_flat v c t f n r i (k + 1) hr).skip
   ·have hx : ¬ (v = false ∧ (x = 17 ∨ x = 21)) := by
     rintro ⟨h1, h2⟩
     rcases hv with h | h
     ·rw [h1] at h; cases h
     ·exact absurd (h.1 h2).2 (show ¬ (true = false) by decide)
    have hm := mayP_other hx
    by_cases hf : fitsG x c t f n = true
    ·have e1 : scanG c t f n true k ((x, a, true) :: r) = some (k, x) := by rw [scanG, if_pos ⟨.inr rfl, hf⟩]
     rw [e1]
     show if v = false ∧ (x = 17 ∨ x = 21) then _ else _
     rw [if_neg hx]
     refine ⟨i, ?_, by omega, by omega, ?_⟩
     ·show scanP v c t f n i ((x, 2) :: flatP r) = _
      rw [scanP, if_pos ⟨hf, hm⟩]; rfl
     ·rw [Nat.sub_self, Nat.sub_self]; rfl
    ·have e1 : scanG c t f n true k ((x, a, true) :: r) = scanG c t f n false (k + 1) r := by rw [scanG, if_neg (by rintro ⟨_, h⟩; exact hf h), if_neg (by rintro ⟨h, _⟩; cases h)]
     rw [e1]
     exact (scan_flat v c t f n r (i + 1) (k + 1) hr).later (by
      show scanP v c t f n i ((x, 2) :: flatP r) = _
      rw [scanP, if_neg (by rintro ⟨h, _⟩; exact hf h), if_neg (show ¬ (2 : Int) = 0 by decide)])
/-! ### The rows -/
theorem rowG_cases {Q : Int → List GSlot → Prop} (h0 : Q 0 [(1, false, false)]) (h1 : Q 1 [(2, false, false), (4, false, false), (22, false, false)])
  (h2 : Q 2 [(3, true, false), (4, false, false), (7, false, false), (11, false, false), (12, true, false), (13, true, false), (21, true, false)])
  (h4 : Q 4 [(5, false, false), (6, true, false)]) (h6 : Q 6 [(6, true, true)]) (h7 : Q 7 [(8, true, true)]) (h8 : Q 8 [(9, false, true)]) (h9 : Q 9 [(5, false, false), (10, false, false)])
  (h13 : Q 13 [(14, false, true)]) (h14 : Q 14 [(15, false, false), (16, false, false), (17, true, false)]) (h17 : Q 17 [(18, false, true)]) (h18 : Q 18 [(5, false, false), (19, true, false), (20, false, false)])
  (h21 : Q 21 [(17, false, false)]) (hn : ∀ p, Q p []) (p : Int) : Q p (rowG p) := by
 by_cases e0 : p = 0
 ·subst e0; exact h0
 by_cases e1 : p = 1
 ·subst e1; exact h1
 by_cases e2 : p = 2
 ·subst e2; exact h2
 by_cases e4 : p = 4
 ·subst e4; exact h4
 by_cases e6 : p = 6
 ·subst e6; exact h6
 by_cases e7 : p = 7
 ·subst e7; exact h7
 by_cases e8 : p = 8
 ·subst e8; exact h8
 by_cases e9 : p = 9
 ·subst e9; exact h9
 by_cases e13 : p = 13
 ·subst e13; exact h13
 by_cases e14 : p = 14
 ·subst e14; exact h14
 by_cases e17 : p = 17
 ·subst e17; exact h17
 by_cases e18 : p = 18
 ·subst e18; exact h18
 by_cases e21 : p = 21
 ·subst e21; exact h21
 have e : rowG p = [] := by unfold rowG; rw [if_neg e0, if_neg e1, if_neg e2, if_neg e4, if_neg e6, if_neg e7, if_neg e8, if_neg e9, if_neg e13, if_neg e14, if_neg e17, if_neg e18, if_neg e21]
 rw [e]; exact hn p
theorem rowG_sp (p : Int) : SpL (rowG p) := by
 refine rowG_cases (Q := fun p l => SpL l) ?_ ?_ ?_ ?_ ?_ ?_ ?_ ?_ ?_ ?_ ?_ ?_ ?_ ?_ p <;> simp [SpL]
theorem rowG_one (p : Int) : ∀ s ∈ rowG p, 1 ≤ s.1 ∧ s.1 ≤ 22 ∧ (s.1 = 17 → p = 14 ∨ p = 21) := by
 refine rowG_cases (Q := fun p l => ∀ s ∈ l, 1 ≤ s.1 ∧ s.1 ≤ 22 ∧ (s.1 = 17 → p = 14 ∨ p = 21)) ?_ ?_ ?_ ?_ ?_ ?_ ?_ ?_ ?_ ?_ ?_ ?_ ?_ ?_ p <;> simp
theorem slotP_mem {s : GSlot} {q : GPl} (h : q ∈ slotP s) : q.1 = s.1 ∧ 0 ≤ q.2 ∧ q.2 ≤ 2 := by
 obtain ⟨x, a, b⟩ := s
 cases a <;> cases b <;> simp [slotP] at h
 ·subst h; exact ⟨rfl, by simp, by simp⟩
 ·rcases h with rfl | rfl <;> exact ⟨rfl, by simp, by simp⟩
 ·subst h; exact ⟨rfl, by simp, by simp⟩
 ·subst h; exact ⟨rfl, by simp, by simp⟩
theorem rowP_one (p : Int) : ∀ q ∈ rowP p, 1 ≤ q.1 ∧ q.1 ≤ 22 ∧ 0 ≤ q.2 ∧ q.2 ≤ 2 := by
 intro q hq
 obtain ⟨s, hs, h⟩ := List.mem_flatMap.1 hq
 obtain ⟨h1, h2, h3⟩ := slotP_mem h
 obtain ⟨h4, h5, _⟩ := rowG_one p s hs
 rw [h1]
 exact ⟨h4, h5, h2, h3⟩
theorem rowP_len (p : Int) : (rowP p).length ≤ 7 := by
 unfold rowP
 refine rowG_cases (Q := fun p l => (flatP l).length ≤ 7) ?_ ?_ ?_ ?_ ?_ ?_ ?_ ?_ ?_ ?_ ?_ ?_ ?_ ?_ p <;> first | decide | (intro _; decide)
theorem scanG_mem {c t : Int} {f : Bool} {n : Int} : ∀ {l : List GSlot} {came : Bool} {k k' : Nat} {x : Int}, scanG c t f n came k l = some (k', x) → ∃ s ∈ l, s.1 = x := by
 intro l
 induction l with
 |nil => intro came k k' x h; cases h
 |cons s r ih =>
  intro came k k' x h
  rw [scanG] at h
  split at h
  ·injection h with h
   simp only [Prod.mk.injEq] at h
   exact ⟨s, List.mem_cons_self .., h.2⟩
  ·split at h
   ·cases h
   ·obtain ⟨s', h1, h2⟩ := ih h
    exact ⟨s', List.mem_cons_of_mem _ h1, h2⟩
def PlAt (o : GO) (i : Nat) : Prop := i ≤ (rowP o.p).length ∧ (rowP o.p).drop i = remP o.came ((rowG o.p).drop o.k)
theorem plAt_zero (p : Int) : PlAt ⟨p, 0, false⟩ 0 := ⟨Nat.zero_le _, by rw [List.drop_zero, List.drop_zero, remP_false]; rfl⟩
theorem PlAt.head {o : GO} {i : Nat} (h : PlAt o i) (v : Bool) (hv : o.p = 21 → v = true) (c t : Int) (f : Bool) (n : Int) :
  (match scanG c t f n o.came o.k ((rowG o.p).drop o.k) with
   |none => scanP v c t f n i ((rowP o.p).drop i) = none
   |some (k, p) => if v = false ∧ (p = 21 ∨ p = 17 ∧ o.p = 14) then scanP v c t f n i ((rowP o.p).drop i) = none else ∃ i', scanP v c t f n i ((rowP o.p).drop i) = some (i', p) ∧ PlAt ⟨o.p, k, true⟩ i') := by
 obtain ⟨h1, h2⟩ := h
 have hS := scan_rem v c t f n ((rowG o.p).drop o.k) o.came i o.k (by right; exact SpL_drop _ _ (rowG_sp o.p))
 rw [← h2] at hS
 cases hq : scanG c t f n o.came o.k ((rowG o.p).drop o.k) with
 |none => rw [hq] at hS; exact hS
 |some y =>
  obtain ⟨k, p⟩ := y
  obtain ⟨s, hs, hsp⟩ := scanG_mem hq
  have hm := (rowG_one o.p s (List.mem_of_mem_drop hs)).2.2
  rw [hsp] at hm
  have hiff : (v = false ∧ (p = 17 ∨ p = 21)) ↔ (v = false ∧ (p = 21 ∨ p = 17 ∧ o.p = 14)) := by
   constructor
   ·rintro ⟨a, b | b⟩
    ·rcases hm b with q | q
     ·exact ⟨a, .inr ⟨b, q⟩⟩
     ·have := hv q; rw [a] at this; cases this
    ·exact ⟨a, .inl b⟩
   ·rintro ⟨a, b | b⟩
    ·exact ⟨a, .inr b⟩
    ·exact ⟨a, .inl b.1⟩
  rw [hq] at hS
  have hS : if v = false ∧ (p = 17 ∨ p = 21) then scanP v c t f n i ((rowP o.p).drop i) = none else ∃ i', scanP v c t f n i ((rowP o.p).drop i) = some (i', p) ∧ i ≤ i' ∧ o.k ≤ k ∧ ((rowP o.p).drop i).drop (i' - i) = remP true (((rowG o.p).drop o.k).drop (k - o.k)) := hS
  show if v = false ∧ (p = 21 ∨ p = 17 ∧ o.p = 14) then _ else _
  by_cases hx : v = false ∧ (p = 17 ∨ p = 21)
  ·rw [if_pos hx] at hS
   rw [if_pos (hiff.1 hx)]; exact hS
  ·rw [if_neg hx] at hS
   rw [if_neg (fun h => hx (hiff.2 h))]
   obtain ⟨i', g1, g2, g3, g4⟩ := hS
   refine ⟨i', g1, ?_, ?_⟩
   ·have hb : ∀ (l : List GPl) (j : Nat), scanP v c t f n j l = some (i', p) → i' ≤ j + l.length := by
     intro l
     induction l with
     |nil => intro j h; cases h
     |cons q r ih =>
      intro j h
      rw [scanP] at h
      split at h
      ·injection h with h
       simp only [Prod.mk.injEq] at h
       have h := h.1
       rw [List.length_cons]
       split at h <;> omega
      ·split at h
       ·cases h
       ·have := ih _ h
        rw [List.length_cons]; omega
    have h9 := hb _ _ g1
    rw [List.length_drop] at h9
    show i' ≤ (rowP o.p).length
    omega
   ·rw [List.drop_drop, List.drop_drop, show i + (i' - i) = i' by omega, show o.k + (k - o.k) = k by omega] at g4
    exact g4
theorem PlAt.over {o : GO} {i : Nat} (h : PlAt o i) : overP ((rowP o.p).drop i) = overG o.came ((rowG o.p).drop o.k) := by rw [h.2, overP_rem]
end Go.Proofs.Ytiiimhamfibdbaa
/- The events of a text come as a grammar wants them. Plain. -/
namespace Go.Proofs.Ytiiimhamfibdbaa
open Go.PlainAid
set_option linter.unusedVariables false
theorem GS.fine_mono {M N : Int} (h : M ≤ N) : ∀ (l : List Ev) (s : GS), s.fine M l → s.fine N l := by
 intro l
 induction l with
 |nil => intro s _; exact trivial
 |cons e r ih => intro s k; exact ⟨k.1, Int.le_trans k.2.1 (by omega), fun h0 => ih _ (k.2.2 h0)⟩
theorem VS.kinds {l : List Ev} : ∀ {s : VS}, VS.all s l → ∀ e ∈ l, 1 ≤ e.k ∧ e.k ≤ 5 := by
 induction l with
 |nil => intro s _ e he; simp at he
 |cons x l ih =>
  intro s h e he
  rcases List.mem_cons.1 he with rfl | h2
  ·have := h.1.k; omega
  ·exact ih h.2 e h2
theorem evW_fine {b : ByteArray} {dep : Int} {L : List Ev} {E : Int} {P : Nat} (hs : b.size ≤ maxLen) (h : evW b dep = (L, E, P)) : GS.fine 64 GS.new L ∧ ∀ e ∈ L, 1 ≤ e.k ∧ e.k ≤ 5 := by
 have hk := VS.kinds (evW_fits hs h)
 have hm := evMost_le dep
 exact ⟨GS.fine_mono (by omega) _ _ (GS.fine_of L GS.new ⟨0, false, 0⟩ rfl (Int.le_refl _) hk (evW_nest h).1), hk⟩
end Go.Proofs.Ytiiimhamfibdbaa
