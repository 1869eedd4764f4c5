/- Contents of all elements in plain words: with which byte one is wrong, whatever its tag, and that this is the first of its beginnings that is. It holds of lists of numbers alone, under no condition on the program. -/
import Derived.Test.YtiiimhamfibdbaaP0
import Derived.Test.YtiiimhamfibdbaaW3
import Derived.Test.YtiiimhamfibdbaaE4
namespace Go.Proofs.Ytiiimhamfibdbaa
open Go.PlainAid
set_option linter.unusedVariables false
def nWl (tag n : Int) (l : List Int) : Int := nW tag n l.length (g l 0) (g l 1)
def bWl (n : Int) (l : List Int) : Int :=
 if n < 1 then 0 else if 0 < l.length ∧ cB (g l 0) n = false then 1 else if 1 < n ∧ (l.length : Int) = n ∧ cE (g l 0) (g l (l.length - 1)) = false then n else -1
def vW (tag n : Int) (l : List Int) : Int :=
 if tag = 1 ∨ tag = 2 ∨ tag = 5 ∨ tag = 10 then nWl tag n l else if tag = 6 then oidWrong n l else if tag = 3 then bWl n l else if tag = 23 ∨ tag = 24 then whW tag n l else txW tag n l
def FirstAt (W : List Int → Int) (l : List Int) : Prop := (-1 ≤ W l ∧ W l ≤ l.length) ∧ ∀ i, i ≤ l.length → W (l.take i) = if 0 ≤ W l ∧ W l ≤ i then W l else -1
theorem first_of_can {W : List Int → Int} {can : List Int → Prop}
  (h : ∀ l, (W l = -1 ∧ ∀ j, j ≤ l.length → can (l.take j)) ∨ (∃ m : Nat, m ≤ l.length ∧ W l = (m : Int) ∧ ¬ can (l.take m) ∧ ∀ j, j < m → can (l.take j))) (l : List Int) : FirstAt W l := by
 refine ⟨?_, fun i hi => ?_⟩
 ·rcases h l with ⟨h1, _⟩ | ⟨m, h1, h2, _⟩
  ·rw [h1]; omega
  ·rw [h2]; omega
 ·have hlen : (l.take i).length = i := by rw [List.length_take]; omega
  have ht : ∀ j, j ≤ i → (l.take i).take j = l.take j := fun j hj => by rw [List.take_take, Nat.min_eq_left hj]
  rcases h l with ⟨h1, h2⟩ | ⟨m, h1, h2, h3, h4⟩
  ·rw [h1, if_neg (by omega)]
   rcases h (l.take i) with ⟨k1, _⟩ | ⟨k, k1, k2, k3, _⟩
   ·exact k1
   ·rw [hlen] at k1
    rw [ht k k1] at k3
    exact absurd (h2 k (by omega)) k3
  ·rw [h2]
   by_cases hm : m ≤ i
   ·rw [if_pos (by omega)]
    rcases h (l.take i) with ⟨k1, k2⟩ | ⟨k, k1, k2, k3, k4⟩
    ·have := k2 m (by omega)
     rw [ht m hm] at this
     exact absurd this h3
    ·rw [hlen] at k1
     rw [ht k k1] at k3
     rw [k2]
     have : ¬ k < m := fun hk => k3 (h4 k hk)
     have : ¬ m < k := fun hk => by
      have := k4 m hk
      rw [ht m hm] at this
      exact h3 this
     omega
   ·rw [if_neg (by omega)]
    rcases h (l.take i) with ⟨k1, _⟩ | ⟨k, k1, k2, k3, _⟩
    ·exact k1
    ·rw [hlen] at k1
     rw [ht k k1] at k3
     exact absurd (h4 k (by omega)) k3
theorem tx_first (tag n : Int) (l : List Int) : FirstAt (txW tag n) l := by
 refine first_of_can (can := canT tag n) (fun l => ?_) l
 unfold txW
 rcases wrF_spec (fun i => decide (canT tag n (l.take i))) (l.length + 1) 0 with ⟨h1, h2⟩ | ⟨m, _, h2, h3, h4, h5⟩
 ·exact .inl ⟨h1, fun j hj => of_decide_eq_true (h2 j (by omega) (by omega))⟩
 ·exact .inr ⟨m, by omega, h3, fun hc => h4 (decide_eq_true hc), fun j hj => of_decide_eq_true (h5 j (by omega) hj)⟩
theorem wh_first (tag n : Int) (l : List Int) : FirstAt (whW tag n) l := by
 refine first_of_can (can := canP tag n) (fun l => ?_) l
 unfold whW
 rcases whF_spec tag n l (l.length + 1) 0 with ⟨h1, h2⟩ | ⟨m, _, h2, h3, h4, h5⟩
 ·exact .inl ⟨h1, fun j hj => h2 j (by omega) (by omega)⟩
 ·exact .inr ⟨m, by omega, h3, h4, fun j hj => h5 j (by omega) hj⟩
theorem oW_take (n : Int) (l : List Int) : ∀ (f : Bool) (i k : Nat), k ≤ l.length → oW n f i (l.take k) = if 0 ≤ oW n f i l ∧ oW n f i l ≤ ((i + k : Nat) : Int) then oW n f i l else -1 := by
 induction l with
 |nil =>
  intro f i k hk
  have e : oW n f i [] = -1 := rfl
  rw [List.take_nil, e, if_neg (by omega)]
 |cons c r ih =>
  intro f i k hk
  have hr := oW_range n (c :: r) f i
  cases k with
  |zero =>
   rw [List.take_zero]
   show (-1 : Int) = _
   rw [if_neg (by omega)]
  |succ k =>
   rw [List.take_succ_cons, oW_cons, oW_cons]
   by_cases h : (c = 128 ∧ f = true) ∨ ((i : Int) = n - 1 ∧ 127 < c)
   ·rw [if_pos h, if_pos h, if_pos (by omega)]
   ·rw [if_neg h, if_neg h, ih _ _ _ (by simp at hk; omega), show i + 1 + k = i + (k + 1) by omega]
theorem oid_first (n : Int) (l : List Int) : FirstAt (oidWrong n) l := by
 unfold FirstAt oidWrong
 by_cases h : n < 1
 ·rw [if_pos h]
  refine ⟨by omega, fun i hi => ?_⟩
  rw [if_pos h, if_pos (by omega)]
 ·rw [if_neg h]
  have hr := oW_range n l true 0
  refine ⟨by omega, fun i hi => ?_⟩
  rw [if_neg h, oW_take n l true 0 i hi, Nat.zero_add]
theorem g_takeV {l : List Int} {i j : Nat} (h : j < i) : g (l.take i) j = g l j := g_take h
theorem num_first (tag n : Int) (l : List Int) : FirstAt (nWl tag n) l := by
 have hlen : ∀ i, i ≤ l.length → (l.take i).length = i := fun i hi => by rw [List.length_take]; omega
 refine ⟨⟨(nW_range _ _ _ _ _).1, nW_len _ _ _ _ _⟩, fun i hi => ?_⟩
 unfold nWl
 rw [hlen i hi]
 by_cases h2 : 2 ≤ i
 ·rw [g_takeV (by omega), g_takeV (by omega)]
  generalize g l 0 = x
  generalize g l 1 = y
  unfold nW
  repeat' split
  all_goals omega
 ·by_cases h1 : i = 1
  ·subst h1
   rw [g_takeV (by omega)]
   generalize g (l.take 1) 1 = z
   generalize g l 0 = x
   generalize g l 1 = y
   unfold nW
   repeat' split
   all_goals omega
  ·obtain rfl : i = 0 := by omega
   generalize g (l.take 0) 0 = u
   generalize g (l.take 0) 1 = z
   generalize g l 0 = x
   generalize g l 1 = y
   unfold nW
   repeat' split
   all_goals omega
theorem bits_first (n : Int) (l : List Int) (hn : (l.length : Int) ≤ n) : FirstAt (bWl n) l := by
 have hlen : ∀ i, i ≤ l.length → (l.take i).length = i := fun i hi => by rw [List.length_take]; omega
 have hrng : -1 ≤ bWl n l ∧ bWl n l ≤ l.length := by
  unfold bWl
  repeat' split
  all_goals omega
 refine ⟨hrng, fun i hi => ?_⟩
 by_cases hc : n < 1
 ·have el : ∀ m, bWl n m = 0 := fun m => by unfold bWl; rw [if_pos hc]
  rw [el, el, if_pos (by omega)]
 ·by_cases hi0 : i = 0
  ·subst hi0
   have ei : bWl n (l.take 0) = -1 := by unfold bWl; rw [if_neg hc, hlen 0 (by omega), if_neg (by omega), if_neg (by omega)]
   have el : bWl n l ≠ 0 := by
    unfold bWl
    rw [if_neg hc]
    repeat' split
    all_goals omega
   rw [ei, if_neg (by omega)]
  ·by_cases h1 : cB (g l 0) n = false
   ·have el : bWl n l = 1 := by unfold bWl; rw [if_neg hc, if_pos ⟨by omega, h1⟩]
    have ei : bWl n (l.take i) = 1 := by unfold bWl; rw [if_neg hc, hlen i hi, g_takeV (by omega), if_pos ⟨by omega, h1⟩]
    rw [el, ei, if_pos (by omega)]
   ·by_cases hil : i = l.length
    ·rw [hil, List.take_length]
     split
     ·rfl
     ·omega
    ·have ei : bWl n (l.take i) = -1 := by unfold bWl; rw [if_neg hc, hlen i hi, g_takeV (by omega), if_neg (fun h => h1 h.2), if_neg (by omega)]
     have el : bWl n l = -1 ∨ bWl n l = l.length := by
      unfold bWl
      rw [if_neg hc, if_neg (fun h => h1 h.2)]
      split
      ·right; omega
      ·left; rfl
     rw [ei, if_neg (by omega)]
theorem v_first (tag n : Int) (l : List Int) (hn : (l.length : Int) ≤ max n 0) : FirstAt (vW tag n) l := by
 have key : ∀ W : List Int → Int, vW tag n = W → FirstAt W l → FirstAt (vW tag n) l := fun W h hf => by rw [h]; exact hf
 by_cases h1 : tag = 1 ∨ tag = 2 ∨ tag = 5 ∨ tag = 10
 ·exact key (nWl tag n) (by funext l; unfold vW; rw [if_pos h1]) (num_first tag n l)
 ·by_cases h2 : tag = 6
  ·exact key (oidWrong n) (by funext l; unfold vW; rw [if_neg h1, if_pos h2]) (oid_first n l)
  ·by_cases h3 : tag = 3
   ·by_cases h0 : 0 ≤ n
    ·exact key (bWl n) (by funext l; unfold vW; rw [if_neg h1, if_neg h2, if_pos h3]) (bits_first n l (by omega))
    ·refine key (bWl n) (by funext l; unfold vW; rw [if_neg h1, if_neg h2, if_pos h3]) ?_
     obtain rfl : l = [] := List.length_eq_zero_iff.1 (by omega)
     unfold FirstAt bWl
     rw [if_pos (by omega)]
     refine ⟨by omega, fun i hi => ?_⟩
     rw [if_pos (by omega), if_pos (by omega)]
   ·by_cases h4 : tag = 23 ∨ tag = 24
    ·exact key (whW tag n) (by funext l; unfold vW; rw [if_neg h1, if_neg h2, if_neg h3, if_pos h4]) (wh_first tag n l)
    ·exact key (txW tag n) (by funext l; unfold vW; rw [if_neg h1, if_neg h2, if_neg h3, if_neg h4]) (tx_first tag n l)
end Go.Proofs.Ytiiimhamfibdbaa
/- Layer 9: what a byte that brings no error does, case by case; and that elements begin, and are over, one within the other. In plain words. -/
namespace Go.Proofs.Ytiiimhamfibdbaa
open Go.RowKit Go.PlainAid
set_option linter.unusedVariables false
theorem EM.step_cases {d : Nat} {m m' : EM} {x : Int} {l : List Ev} (h : m.step d x = (0, l, m')) : m.over = 0 ∧ m.done = false ∧
  ((m.leaf = 1 ∧ l = evByte m.at_ x :: evEnd m.at_ :: popE m.st m.at_ ∧ m' = EM.fin m.st (m.at_ + 1)) ∨
  (1 < m.leaf ∧ l = [evByte m.at_ x] ∧ m' = { m with leaf := m.leaf - 1, at_ := m.at_ + 1 }) ∨
  (m.leaf ≤ 0 ∧ m.st.head? ≠ some 0 ∧ (hdGet (m.hd ++ [x])).2.2.2.2.2 = 2 ∧ l = [] ∧ m' = { m with st := pays m.st 1, hd := m.hd ++ [x], at_ := m.at_ + 1 }) ∨
  (m.leaf ≤ 0 ∧ m.st.head? ≠ some 0 ∧ ∃ c t f n g, hdGet (m.hd ++ [x]) = (c, t, f, n, g, 0) ∧ headE d (pays m.st 1) f n = 0 ∧ l = headL (pays m.st 1) m.at_ c t f n ∧ m' = headM (pays m.st 1) m.at_ f n)) := by
 have hok := EM.step_ok (d := d) (m := m) (x := x) (by rw [h])
 refine ⟨hok.2.2.1, hok.2.2.2, ?_⟩
 have hov := hok.2.2.1
 have hdn := hok.2.2.2
 unfold EM.step at h
 rw [if_neg (by simpa using hov), if_neg (by simp [hdn])] at h
 by_cases h2 : 0 < m.leaf
 ·rw [if_pos h2] at h
  by_cases h3 : m.leaf = 1
  ·rw [if_pos h3] at h
   simp only [Prod.mk.injEq] at h
   exact .inl ⟨h3, h.2.1.symm, h.2.2.symm⟩
  ·rw [if_neg h3] at h
   simp only [Prod.mk.injEq] at h
   exact .inr (.inl ⟨by omega, h.2.1.symm, h.2.2.symm⟩)
 ·rw [if_neg h2] at h
  by_cases h4 : m.st.head? = some 0
  ·rw [if_pos h4] at h; simp at h
  ·rw [if_neg h4] at h
   by_cases h5 : (hdGet (m.hd ++ [x])).2.2.2.2.2 = 2
   ·rw [if_pos h5] at h
    simp only [Prod.mk.injEq] at h
    exact .inr (.inr (.inl ⟨by omega, h4, h5, h.2.1.symm, h.2.2.symm⟩))
   ·rw [if_neg h5] at h
    by_cases h6 : (hdGet (m.hd ++ [x])).2.2.2.2.2 ≠ 0
    ·rw [if_pos h6] at h
     simp only [Prod.mk.injEq] at h
     exact absurd h.1 h6
    ·rw [if_neg h6] at h
     obtain ⟨c, t, f, n, g, e, hg⟩ : ∃ c t f n g e, hdGet (m.hd ++ [x]) = (c, t, f, n, g, e) := ⟨_, _, _, _, _, _, rfl⟩
     rw [hg] at h h6
     simp only at h h6
     obtain rfl : e = 0 := by simpa using h6
     by_cases h7 : headE d (pays m.st 1) f n ≠ 0
     ·rw [if_pos h7] at h
      simp only [Prod.mk.injEq] at h
      exact absurd h.1 h7
     ·rw [if_neg h7] at h
      simp only [Prod.mk.injEq] at h
      exact .inr (.inr (.inr ⟨by omega, h4, c, t, f, n, g, hg, by simpa using h7, h.2.1.symm, h.2.2.symm⟩))
theorem allTo_step {b : ByteArray} {dep : Int} {i : Nat} (h : i < b.size) {m' : EM} {acc' : List Ev} (ha : allTo b dep (i + 1) = some (m', acc')) :
  ∃ m acc l, allTo b dep i = some (m, acc) ∧ m.step (evMost dep) (bt b i) = (0, l, m') ∧ acc' = acc ++ l := by
 unfold allTo at ha ⊢
 rw [bl_take_succ b i h, EM.all_append] at ha
 cases hq : EM.all (evMost dep) EM.new ((bl b).take i) [] with
 |none => rw [hq] at ha; cases ha
 |some q =>
  rw [hq] at ha
  have ha : EM.all (evMost dep) q.1 [bt b i] q.2 = some (m', acc') := ha
  rw [EM.all] at ha
  by_cases h1 : (q.1.step (evMost dep) (bt b i)).1 ≠ 0
  ·rw [if_pos h1] at ha; cases ha
  ·rw [if_neg h1] at ha
   have h1 : (q.1.step (evMost dep) (bt b i)).1 = 0 := by simpa using h1
   have ha : some ((q.1.step (evMost dep) (bt b i)).2.2, q.2 ++ (q.1.step (evMost dep) (bt b i)).2.1) = some (m', acc') := ha
   simp only [Option.some.injEq, Prod.mk.injEq] at ha
   refine ⟨q.1, q.2, (q.1.step (evMost dep) (bt b i)).2.1, rfl, ?_, ha.2.symm⟩
   rw [← ha.1, ← h1]
theorem allTo_ind {b : ByteArray} {dep : Int} {Q : EM → List Ev → Prop} (h0 : Q EM.new []) (hs : ∀ (i : Nat) (m m' : EM) (acc l : List Ev), i < b.size → m.at_ = i → Q m acc → m.step (evMost dep) (bt b i) = (0, l, m') → Q m' (acc ++ l)) :
  ∀ (i : Nat), i ≤ b.size → ∀ (m : EM) (acc : List Ev), allTo b dep i = some (m, acc) → Q m acc := by
 intro i
 induction i with
 |zero =>
  intro _ m acc h
  rw [allTo_zero] at h
  simp only [Option.some.injEq, Prod.mk.injEq] at h
  obtain ⟨rfl, rfl⟩ := h
  exact h0
 |succ i ih =>
  intro hi m' acc' h
  obtain ⟨m, acc, l, h1, h2, rfl⟩ := allTo_step (by omega) h
  exact hs i m m' acc l (by omega) (allTo_at (by omega) h1).1 (ih (by omega) m acc h1) h2
theorem evW_upto {b : ByteArray} {dep : Int} {L : List Ev} {E : Int} {P : Nat} (h : evW b dep = (L, E, P)) : ∃ m, P ≤ b.size ∧ allTo b dep P = some (m, L) ∧ (E = 0 → m.done = true ∧ P = b.size) := by
 have hall : ∀ n, n ≤ b.size → (∃ m acc, allTo b dep n = some (m, acc)) ∨ ∃ i, i < b.size ∧ ∃ m acc, allTo b dep i = some (m, acc) ∧ (m.step (evMost dep) (bt b i)).1 ≠ 0 := by
  intro n
  induction n with
  |zero => intro _; exact .inl ⟨_, _, allTo_zero b dep⟩
  |succ n ih =>
   intro hn
   rcases ih (by omega) with ⟨m, acc, ha⟩ | hb
   ·by_cases h1 : (m.step (evMost dep) (bt b n)).1 = 0
    ·left
     obtain ⟨e, l, m', hs⟩ : ∃ e l m', m.step (evMost dep) (bt b n) = (e, l, m') := ⟨_, _, _, rfl⟩
     rw [hs] at h1
     obtain rfl : e = 0 := h1
     exact ⟨_, _, allTo_succ (by omega) ha hs⟩
    ·exact .inr ⟨n, by omega, m, acc, ha, h1⟩
   ·exact .inr hb
 rcases hall b.size (Nat.le_refl _) with ⟨m, acc, ha⟩ | ⟨i, hi, m, acc, ha, he⟩
 ·have := allTo_end ha
  rw [h] at this
  simp only [Prod.mk.injEq] at this
  obtain ⟨rfl, h2, rfl⟩ := this
  refine ⟨m, Nat.le_refl _, ha, fun h0 => ⟨?_, rfl⟩⟩
  by_cases hd : m.done = true
  ·exact hd
  ·rw [if_neg hd] at h2; omega
 ·obtain ⟨e, l, m', hs⟩ : ∃ e l m', m.step (evMost dep) (bt b i) = (e, l, m') := ⟨_, _, _, rfl⟩
  rw [hs] at he
  have := allTo_err hi ha hs he
  rw [h] at this
  simp only [Prod.mk.injEq] at this
  obtain ⟨rfl, rfl, rfl⟩ := this
  exact ⟨m, by omega, ha, fun h0 => absurd h0 he⟩
/-! ### One within the other -/
structure NS where
 o : Int
 f : Bool
 p : Int
def NS.next (s : NS) (e : Ev) : NS := ⟨if e.k = 1 then s.o + 1 else if e.k = 5 then s.o - 1 else s.o, if e.k = 2 ∨ e.k = 4 then !s.f else s.f, e.at_⟩
structure NS.good (b : ByteArray) (M : Int) (s : NS) (e : Ev) : Prop where
 low : s.p ≤ e.at_
 high : e.at_ < b.size
 zero : 0 ≤ e.at_
 byte : e.k = 3 → s.f = true ∧ e.b = bt b e.at_.toNat
 lo : 0 ≤ (s.next e).o
 hi : (s.next e).o ≤ M
 leaf : (s.next e).f = (decide (e.k = 2) || decide (e.k = 3))
def NS.all (b : ByteArray) (M : Int) : NS → List Ev → Prop
 |_, [] => True
 |s, e :: r => s.good b M e ∧ NS.all b M (s.next e) r
def NS.run : NS → List Ev → NS
 |s, [] => s
 |s, e :: r => NS.run (s.next e) r
theorem NS.run_append (l r : List Ev) : ∀ s, NS.run s (l ++ r) = NS.run (NS.run s l) r := by
 induction l with
 |nil => intro s; rfl
 |cons e l ih => intro s; exact ih _
theorem NS.all_append {b : ByteArray} {M : Int} (l r : List Ev) : ∀ s, NS.all b M s (l ++ r) ↔ NS.all b M s l ∧ NS.all b M (NS.run s l) r := by
 induction l with
 |nil => intro s; exact ⟨fun h => ⟨trivial, h⟩, fun h => h.2⟩
 |cons e l ih => intro s; rw [List.cons_append, NS.all, NS.all, ih, and_assoc]; rfl
theorem NS.mk_good {b : ByteArray} {M : Int} {s s' : NS} {e : Ev} {p : Nat} (hn : s.next e = s') (ha : e.at_ = (p : Int)) (hp : p < b.size) (hq : s.p ≤ p) (hb : e.k = 3 → s.f = true ∧ e.b = bt b p) (h0 : 0 ≤ s'.o) (h1 : s'.o ≤ M) (hf : s'.f = (decide (e.k = 2) || decide (e.k = 3))) : s.good b M e :=
 ⟨by rw [ha]; exact hq, by rw [ha]; omega, by rw [ha]; omega, by rw [ha]; exact hb, by rw [hn]; exact h0, by rw [hn]; exact h1, by rw [hn]; exact hf⟩
theorem NS.pop {b : ByteArray} {M : Int} {p : Nat} (hp : p < b.size) : ∀ (st : List Int) (q : Int), q ≤ p → (st.length : Int) ≤ M → NS.all b M ⟨st.length, false, q⟩ (popE st p) ∧ ∃ q', q' ≤ (p : Int) ∧ NS.run ⟨st.length, false, q⟩ (popE st p) = ⟨(popS st).length, false, q'⟩ := by
 intro st
 induction st with
 |nil => intro q hq hM; exact ⟨trivial, q, hq, rfl⟩
 |cons x r ih =>
  intro q hq hM
  rw [popE, popS]
  by_cases h : x = 0
  ·rw [if_pos h, if_pos h]
   have hn : NS.next ⟨((x :: r).length : Int), false, q⟩ (evExit p) = ⟨(r.length : Int), false, p⟩ := by
    unfold NS.next evExit
    simp
   have hM2 : (r.length : Int) ≤ M := by simp at hM; omega
   obtain ⟨i1, i2⟩ := ih p (Int.le_refl _) hM2
   refine ⟨⟨NS.mk_good hn rfl hp hq (fun h => absurd h (by show ¬ (5 : Int) = 3; decide)) (by show 0 ≤ (r.length : Int); omega) hM2 rfl, by rw [hn]; exact i1⟩, ?_⟩
   show ∃ q', q' ≤ (p : Int) ∧ NS.run (NS.next _ _) _ = _
   rw [hn]; exact i2
  ·rw [if_neg h, if_neg h]; exact ⟨trivial, q, hq, rfl⟩
structure Nest (b : ByteArray) (d : Nat) (m : EM) (acc : List Ev) : Prop where
 all : NS.all b d ⟨0, false, 0⟩ acc
 run : ∃ q, q ≤ (m.at_ : Int) ∧ NS.run ⟨0, false, 0⟩ acc = ⟨m.st.length, decide (0 < m.leaf), q⟩
 len : m.st.length ≤ d
 over : m.done = true → m.st = [] ∧ m.leaf = 0
 hd : IsB m.hd
theorem nest_new (b : ByteArray) (d : Nat) : Nest b d EM.new [] := ⟨trivial, ⟨0, Int.le_refl _, rfl⟩, Nat.zero_le _, (fun h => by cases h), IsB.nil⟩
theorem nest_fin {b : ByteArray} {d : Nat} {acc l : List Ev} {st : List Int} {p : Nat} (hp : p < b.size) (hd : st.length ≤ d) (h : NS.all b d ⟨0, false, 0⟩ (acc ++ l)) {q : Int} (hq : q ≤ p) (hr : NS.run ⟨0, false, 0⟩ (acc ++ l) = ⟨st.length, false, q⟩) : Nest b d (EM.fin st (p + 1)) (acc ++ (l ++ popE st p)) := by
 obtain ⟨i1, q', i2, i3⟩ := NS.pop (b := b) (M := d) hp st q hq (by omega)
 rw [← List.append_assoc]
 refine ⟨(NS.all_append _ _ _).2 ⟨h, by rw [hr]; exact i1⟩, ⟨q', by show q' ≤ ((p + 1 : Nat) : Int); omega, by rw [NS.run_append, hr, i3]; rfl⟩, Nat.le_trans (popS_len st) hd, fun h => ⟨by simpa [EM.fin] using h, rfl⟩, IsB.nil⟩
theorem nest_step {b : ByteArray} {dep : Int} (i : Nat) (m m' : EM) (acc l : List Ev) (hi : i < b.size) (hat : m.at_ = i) (hQ : Nest b (evMost dep) m acc) (h : m.step (evMost dep) (bt b i) = (0, l, m')) : Nest b (evMost dep) m' (acc ++ l) := by
 obtain ⟨ho, hdn, hc⟩ := EM.step_cases h
 obtain ⟨q, hq, hr⟩ := hQ.run
 have hb0 := bt_nonneg b i
 have hb1 := bt_le b i
 subst hat
 have hlen := hQ.len
 have hM : (m.st.length : Int) ≤ (evMost dep : Nat) := by omega
 have hz : (0 : Int) ≤ (m.st.length : Int) := by omega
 rcases hc with ⟨h1, rfl, rfl⟩ | ⟨h1, rfl, rfl⟩ | ⟨h1, h2, h3, rfl, rfl⟩ | ⟨h1, h2, c, t, f, n, g, h3, h4, rfl, rfl⟩
 ·have hr2 : NS.run ⟨0, false, 0⟩ acc = ⟨m.st.length, true, q⟩ := by rw [hr, h1]; rfl
  have n1 : NS.next ⟨m.st.length, true, q⟩ (evByte m.at_ (bt b m.at_)) = ⟨m.st.length, true, m.at_⟩ := by unfold NS.next evByte; simp
  have n2 : NS.next ⟨m.st.length, true, m.at_⟩ (evEnd m.at_) = ⟨m.st.length, false, m.at_⟩ := by unfold NS.next evEnd; simp
  refine nest_fin (l := [evByte m.at_ (bt b m.at_), evEnd m.at_]) hi hlen ((NS.all_append _ _ _).2 ⟨hQ.all, ?_⟩) (Int.le_refl _) ?_
  ·rw [hr2]
   refine ⟨NS.mk_good n1 rfl hi hq (fun _ => ⟨rfl, rfl⟩) hz hM rfl, ?_⟩
   rw [n1]
   exact ⟨NS.mk_good n2 rfl hi (Int.le_refl _) (fun h => absurd h (by show ¬ (4 : Int) = 3; decide)) hz hM rfl, trivial⟩
  ·rw [NS.run_append, hr2]
   show NS.run (NS.next (NS.next _ _) _) [] = _
   rw [n1, n2]; rfl
 ·have hr2 : NS.run ⟨0, false, 0⟩ acc = ⟨m.st.length, true, q⟩ := by rw [hr, decide_eq_true (by omega : 0 < m.leaf)]
  have n1 : NS.next ⟨m.st.length, true, q⟩ (evByte m.at_ (bt b m.at_)) = ⟨m.st.length, true, m.at_⟩ := by unfold NS.next evByte; simp
  refine ⟨(NS.all_append _ _ _).2 ⟨hQ.all, ?_⟩, ⟨(m.at_ : Int), by show (m.at_ : Int) ≤ ((m.at_ + 1 : Nat) : Int); omega, ?_⟩, hlen, fun h => ?_, hQ.hd⟩
  ·rw [hr2]
   exact ⟨NS.mk_good n1 rfl hi hq (fun _ => ⟨rfl, rfl⟩) hz hM rfl, trivial⟩
  ·rw [NS.run_append, hr2]
   show NS.next _ _ = _
   rw [n1]
   show _ = NS.mk (m.st.length : Int) (decide (0 < m.leaf - 1)) _
   rw [decide_eq_true (by omega : 0 < m.leaf - 1)]
  ·have h : m.done = true := h
   rw [hdn] at h; cases h
 ·rw [List.append_nil]
  refine ⟨hQ.all, ⟨q, by show q ≤ ((m.at_ + 1 : Nat) : Int); omega, ?_⟩, by show (pays m.st 1).length ≤ _; rw [pays_length]; exact hlen, fun h => ?_, hQ.hd.append (IsB.cons hb0 hb1 IsB.nil)⟩
  ·rw [hr]
   show _ = NS.mk ((pays m.st 1).length : Int) (decide (0 < m.leaf)) q
   rw [pays_length]
  ·have h : m.done = true := h
   rw [hdn] at h; cases h
 ·have hbd := hdGet_bd (m.hd ++ [bt b m.at_]) (hQ.hd.append (IsB.cons hb0 hb1 IsB.nil))
  rw [h3] at hbd
  obtain ⟨_, _, _, _, hn0, hn1⟩ := hbd
  simp only at hn0 hn1
  have hr2 : NS.run ⟨0, false, 0⟩ acc = ⟨m.st.length, false, q⟩ := by rw [hr, decide_eq_false (by omega : ¬ 0 < m.leaf)]
  have hpl := pays_length m.st 1
  cases f with
  |true =>
   rw [headL_open, headM_open]
   have hroom := headE_room h4
   rw [hpl] at hroom
   have hcl : (n :: pays (pays m.st 1) n).length = m.st.length + 1 := by rw [List.length_cons, pays_length, hpl]
   have n1 : NS.next ⟨m.st.length, false, q⟩ (evEnter m.at_ c t true n) = ⟨((n :: pays (pays m.st 1) n).length : Nat), false, m.at_⟩ := by rw [hcl]; unfold NS.next evEnter; simp
   refine nest_fin (l := [evEnter m.at_ c t true n]) hi (by rw [hcl]; exact hroom) ((NS.all_append _ _ _).2 ⟨hQ.all, ?_⟩) (Int.le_refl _) ?_
   ·rw [hr2]
    exact ⟨NS.mk_good n1 rfl hi hq (fun h => absurd h (by show ¬ (1 : Int) = 3; decide)) (by show 0 ≤ (((n :: pays (pays m.st 1) n).length : Nat) : Int); omega) (by show (((n :: pays (pays m.st 1) n).length : Nat) : Int) ≤ _; rw [hcl]; omega) rfl, trivial⟩
   ·rw [NS.run_append, hr2]
    show NS.next _ _ = _
    rw [n1]
  |false =>
   have n1 : NS.next ⟨m.st.length, false, q⟩ (evLeaf m.at_ c t false n) = ⟨m.st.length, true, m.at_⟩ := by unfold NS.next evLeaf; simp
   have n2 : NS.next ⟨m.st.length, true, m.at_⟩ (evEnd m.at_) = ⟨m.st.length, false, m.at_⟩ := by unfold NS.next evEnd; simp
   by_cases hn : n = 0
   ·subst hn
    rw [headL_none, headM_none]
    refine nest_fin (l := [evLeaf m.at_ c t false 0, evEnd m.at_]) hi (by rw [hpl]; exact hlen) ((NS.all_append _ _ _).2 ⟨hQ.all, ?_⟩) (Int.le_refl _) ?_
    ·rw [hr2]
     refine ⟨NS.mk_good n1 rfl hi hq (fun h => absurd h (by show ¬ (2 : Int) = 3; decide)) hz hM rfl, ?_⟩
     rw [n1]
     exact ⟨NS.mk_good n2 rfl hi (Int.le_refl _) (fun h => absurd h (by show ¬ (4 : Int) = 3; decide)) hz hM rfl, trivial⟩
    ·rw [NS.run_append, hr2, hpl]
     show NS.run (NS.next (NS.next _ _) _) [] = _
     rw [n1, n2]; rfl
   ·rw [headL_leaf hn, headM_leaf hn]
    refine ⟨(NS.all_append _ _ _).2 ⟨hQ.all, ?_⟩, ⟨(m.at_ : Int), by show (m.at_ : Int) ≤ ((m.at_ + 1 : Nat) : Int); omega, ?_⟩, by show (pays _ _).length ≤ _; rw [pays_length, hpl]; exact hlen, (fun h => by cases h), IsB.nil⟩
    ·rw [hr2]
     exact ⟨NS.mk_good n1 rfl hi hq (fun h => absurd h (by show ¬ (2 : Int) = 3; decide)) hz hM rfl, trivial⟩
    ·rw [NS.run_append, hr2]
     show NS.next _ _ = NS.mk ((pays (pays m.st 1) n).length : Int) (decide (0 < n)) _
     rw [n1, pays_length, hpl, decide_eq_true (by omega : 0 < n)]
theorem evW_nest {b : ByteArray} {dep : Int} {L : List Ev} {E : Int} {P : Nat} (h : evW b dep = (L, E, P)) : NS.all b (evMost dep) ⟨0, false, 0⟩ L ∧ (E = 0 → ∃ q, NS.run ⟨0, false, 0⟩ L = ⟨0, false, q⟩) := by
 obtain ⟨m, h1, h2, h3⟩ := evW_upto h
 have hN := allTo_ind (Q := fun m acc => Nest b (evMost dep) m acc) (nest_new b _) (fun i m m' acc l hi hat hQ hs => nest_step i m m' acc l hi hat hQ hs) P h1 m L h2
 refine ⟨hN.all, fun he => ?_⟩
 obtain ⟨hd, _⟩ := h3 he
 obtain ⟨q, _, hr⟩ := hN.run
 obtain ⟨o1, o2⟩ := hN.over hd
 refine ⟨q, ?_⟩
 rw [hr, o1, o2]; rfl
end Go.Proofs.Ytiiimhamfibdbaa
/- Layer 9: what a text's beginning brings about, in plain words. -/
namespace Go.Proofs.Ytiiimhamfibdbaa
open Go.RowKit Go.PlainAid
set_option linter.unusedVariables false
theorem popE_at (st : List Int) (p : Nat) : ∀ e ∈ popE st p, e.at_ = (p : Int) := by
 induction st with
 |nil => intro e he; simp [popE] at he
 |cons x r ih =>
  intro e he
  rw [popE] at he
  by_cases h : x = 0
  ·rw [if_pos h] at he
   rcases List.mem_cons.1 he with rfl | h2
   ·rfl
   ·exact ih e h2
  ·rw [if_neg h] at he; simp at he
theorem EM.step_at {d : Nat} {m : EM} {x : Int} : ∀ e ∈ (m.step d x).2.1, e.at_ = (m.at_ : Int) := by
 intro e he
 unfold EM.step at he
 by_cases h0 : m.over ≠ 0
 ·rw [if_pos h0] at he; simp at he
 ·rw [if_neg h0] at he
  by_cases h1 : m.done = true
  ·rw [if_pos h1] at he; simp at he
  ·rw [if_neg h1] at he
   by_cases h2 : 0 < m.leaf
   ·rw [if_pos h2] at he
    by_cases h3 : m.leaf = 1
    ·rw [if_pos h3] at he
     rcases List.mem_cons.1 he with rfl | h4
     ·rfl
     ·rcases List.mem_cons.1 h4 with rfl | h5
      ·rfl
      ·exact popE_at _ _ e h5
    ·rw [if_neg h3] at he
     have : e = evByte m.at_ x := by simpa using he
     subst this; rfl
   ·rw [if_neg h2] at he
    by_cases h4 : m.st.head? = some 0
    ·rw [if_pos h4] at he; simp at he
    ·rw [if_neg h4] at he
     by_cases h5 : (hdGet (m.hd ++ [x])).2.2.2.2.2 = 2
     ·rw [if_pos h5] at he; simp at he
     ·rw [if_neg h5] at he
      by_cases h6 : (hdGet (m.hd ++ [x])).2.2.2.2.2 ≠ 0
      ·rw [if_pos h6] at he; simp at he
      ·rw [if_neg h6] at he
       by_cases h7 : headE d (pays m.st 1) (hdGet (m.hd ++ [x])).2.2.1 (hdGet (m.hd ++ [x])).2.2.2.1 ≠ 0
       ·rw [if_pos h7] at he; simp at he
       ·rw [if_neg h7] at he
        have he : e ∈ headL (pays m.st 1) m.at_ (hdGet (m.hd ++ [x])).1 (hdGet (m.hd ++ [x])).2.1 (hdGet (m.hd ++ [x])).2.2.1 (hdGet (m.hd ++ [x])).2.2.2.1 := he
        generalize (hdGet (m.hd ++ [x])).2.2.1 = f at he
        generalize (hdGet (m.hd ++ [x])).2.2.2.1 = n at he
        cases f with
        |true =>
         rw [headL_open] at he
         rcases List.mem_cons.1 he with rfl | h8
         ·rfl
         ·exact popE_at _ _ e h8
        |false =>
         by_cases hn : n = 0
         ·subst hn
          rw [headL_none] at he
          rcases List.mem_cons.1 he with rfl | h8
          ·rfl
          ·rcases List.mem_cons.1 h8 with rfl | h9
           ·rfl
           ·exact popE_at _ _ e h9
         ·rw [headL_leaf hn] at he
          have := List.mem_singleton.1 he
          subst this; rfl
theorem EM.run_at (d : Nat) (l : List Int) : ∀ (m : EM) (acc : List Ev), m.over = 0 → ∃ R, (EM.run d m l acc).1 = acc ++ R ∧ ∀ e ∈ R, (m.at_ : Int) ≤ e.at_ ∧ e.at_ < (EM.run d m l acc).2.2 := by
 induction l with
 |nil => intro m acc _; exact ⟨[], by simp [EM.run], by simp⟩
 |cons x l ih =>
  intro m acc h0
  rw [EM.run]
  by_cases h1 : (m.step d x).1 ≠ 0
  ·rw [if_pos h1]; exact ⟨[], by simp, by simp⟩
  ·rw [if_neg h1]
   obtain ⟨s1, s2, _, _⟩ := EM.step_ok (d := d) (m := m) (x := x) (by simpa using h1)
   obtain ⟨R, r1, r2⟩ := ih (m.step d x).2.2 (acc ++ (m.step d x).2.1) s2
   refine ⟨(m.step d x).2.1 ++ R, by rw [r1, List.append_assoc], ?_⟩
   have hge : m.at_ + 1 ≤ (EM.run d (m.step d x).2.2 l (acc ++ (m.step d x).2.1)).2.2 := by
    cases hq : EM.all d (m.step d x).2.2 l (acc ++ (m.step d x).2.1) with
    |none => have := (EM.all_none d l _ _ hq s2).2.2.1; omega
    |some q =>
     rw [EM.run_done d hq]
     have := (EM.all_at d l _ _ hq s2).1
     show m.at_ + 1 ≤ q.1.at_
     omega
   intro e he
   rcases List.mem_append.1 he with h2 | h2
   ·rw [EM.step_at e h2]; omega
   ·have := r2 e h2
    omega
end Go.Proofs.Ytiiimhamfibdbaa
/- Events in plain words: which of a text's events is the first that is wrong, and what a checker that sees them one by one knows. They hold of lists alone, under no condition on the program. -/
namespace Go.Proofs.Ytiiimhamfibdbaa
open Go.RowKit Go.PlainAid
set_option linter.unusedVariables false
def cameL : List Ev → List Int
 |[] => []
 |e :: r => if e.k = 3 then e.b :: cameL r else []
def vEv (e : Ev) (r : List Ev) : Int :=
 if e.c ≠ 0 then -1 else if e.k = 1 then (if e.t = 16 ∨ e.t = 17 then -1 else 0) else if e.k ≠ 2 then -1
 else if e.t = 0 ∨ e.t = 16 ∨ e.t = 17 then 0 else vW e.t e.n (cameL r)
def vF : List Ev → Int
 |[] => -1
 |e :: r => if 0 ≤ vEv e r then vEv e r else if 0 ≤ vF r then vF r + 1 else -1
structure VC where
 c : Int
 t : Int
 n : Int
 l : List Int
structure VS where
 bad : Bool
 cur : Option VC
def vBad (q : VC) : Bool := decide (q.c = 0 ∧ (q.t = 0 ∨ q.t = 16 ∨ q.t = 17 ∨ 0 ≤ vW q.t q.n q.l))
def VC.and (q : VC) (b : Int) : VC := ⟨q.c, q.t, q.n, q.l ++ [b]⟩
def VS.new : VS := ⟨false, none⟩
def VS.next (s : VS) (e : Ev) : VS :=
 if e.k = 1 then ⟨s.bad || decide (e.c = 0 ∧ ¬ e.t = 16 ∧ ¬ e.t = 17), none⟩
 else if e.k = 2 then ⟨s.bad || vBad ⟨e.c, e.t, e.n, []⟩, some ⟨e.c, e.t, e.n, []⟩⟩
 else if e.k = 3 then (match s.cur with | none => s | some q => ⟨s.bad || vBad (q.and e.b), some (q.and e.b)⟩)
 else ⟨s.bad, none⟩
def VS.run : VS → List Ev → VS
 |s, [] => s
 |s, e :: r => VS.run (s.next e) r
structure VS.fits (s : VS) (e : Ev) : Prop where
 k : e.k = 1 ∨ e.k = 2 ∨ e.k = 3 ∨ e.k = 4 ∨ e.k = 5
 c : 0 ≤ e.c ∧ e.c ≤ 3
 t : 0 ≤ e.t ∧ e.t ≤ 268435455
 n : 0 ≤ e.n ∧ e.n ≤ 2305843009213693951
 b : 0 ≤ e.b ∧ e.b ≤ 255
 a : 0 ≤ e.at_ ∧ e.at_ ≤ 9223372036854775807
 byte : e.k = 3 → ∃ q, s.cur = some q ∧ (q.l.length : Int) < q.n
def VS.all : VS → List Ev → Prop
 |_, [] => True
 |s, e :: r => s.fits e ∧ VS.all (s.next e) r
theorem VS.run_append (l r : List Ev) : ∀ s, VS.run s (l ++ r) = VS.run (VS.run s l) r := by
 induction l with
 |nil => intro s; rfl
 |cons e l ih => intro s; exact ih _
theorem VS.all_append (l r : List Ev) : ∀ s, VS.all s (l ++ r) ↔ VS.all s l ∧ VS.all (VS.run s l) r := by
 induction l with
 |nil => intro s; exact ⟨fun h => ⟨trivial, h⟩, fun h => h.2⟩
 |cons e l ih => intro s; rw [List.cons_append, VS.all, VS.all, ih, and_assoc]; rfl
section
variable {s : VS} {e : Ev}
theorem VS.next1 (h : e.k = 1) : s.next e = ⟨s.bad || decide (e.c = 0 ∧ ¬ e.t = 16 ∧ ¬ e.t = 17), none⟩ := by unfold VS.next; rw [if_pos h]
theorem VS.next2 (h : e.k = 2) : s.next e = ⟨s.bad || vBad ⟨e.c, e.t, e.n, []⟩, some ⟨e.c, e.t, e.n, []⟩⟩ := by unfold VS.next; rw [if_neg (by omega), if_pos h]
theorem VS.next3 {q : VC} (h : e.k = 3) (hc : s.cur = some q) : s.next e = ⟨s.bad || vBad (q.and e.b), some (q.and e.b)⟩ := by unfold VS.next; rw [if_neg (by omega), if_neg (by omega), if_pos h, hc]
theorem VS.next4 (h1 : e.k ≠ 1) (h2 : e.k ≠ 2) (h3 : e.k ≠ 3) : s.next e = ⟨s.bad, none⟩ := by unfold VS.next; rw [if_neg h1, if_neg h2, if_neg h3]
end
theorem VS.bad_next {s : VS} (e : Ev) (h : s.bad = true) : (s.next e).bad = true := by
 unfold VS.next
 split
 ·simp [h]
 ·split
  ·simp [h]
  ·split
   ·split
    ·exact h
    ·simp [h]
   ·exact h
theorem VS.bad_run (l : List Ev) : ∀ {s : VS}, s.bad = true → (VS.run s l).bad = true := by
 induction l with
 |nil => intro s h; exact h
 |cons e l ih => intro s h; exact ih (VS.bad_next e h)
structure VS.Ok (s : VS) : Prop where
 len : ∀ q, s.cur = some q → (q.l.length : Int) ≤ max q.n 0
 good : ∀ q, s.cur = some q → s.bad = false → vBad q = false
 top : ∀ q, s.cur = some q → q.n ≤ 2305843009213693951
theorem VS.ok_new : VS.new.Ok := ⟨(fun q h => by cases h), (fun q h => by cases h), (fun q h => by cases h)⟩
theorem VS.ok_next {s : VS} {e : Ev} (h : s.Ok) (hf : s.fits e) : (s.next e).Ok := by
 rcases hf.k with h1 | h1 | h1 | h1 | h1
 ·rw [VS.next1 h1]; exact ⟨(fun q h => by cases h), (fun q h => by cases h), (fun q h => by cases h)⟩
 ·rw [VS.next2 h1]
  refine ⟨fun q hq => ?_, fun q hq hb => ?_, fun q hq => ?_⟩
  ·cases hq; show (0 : Int) ≤ _; omega
  ·cases hq
   have hb : (s.bad || vBad ⟨e.c, e.t, e.n, []⟩) = false := hb
   rw [Bool.or_eq_false_iff] at hb
   exact hb.2
  ·cases hq; exact hf.n.2
 ·obtain ⟨q, hq, hlt⟩ := hf.byte h1
  rw [VS.next3 h1 hq]
  refine ⟨fun p hp => ?_, fun p hp hb => ?_, fun p hp => by cases hp; exact h.top q hq⟩
  ·cases hp
   show ((q.l ++ [e.b]).length : Int) ≤ max q.n 0
   rw [List.length_append, List.length_singleton]; omega
  ·cases hp
   have hb : (s.bad || vBad (q.and e.b)) = false := hb
   rw [Bool.or_eq_false_iff] at hb
   exact hb.2
 ·rw [VS.next4 (by omega) (by omega) (by omega)]; exact ⟨(fun q h => by cases h), (fun q h => by cases h), (fun q h => by cases h)⟩
 ·rw [VS.next4 (by omega) (by omega) (by omega)]; exact ⟨(fun q h => by cases h), (fun q h => by cases h), (fun q h => by cases h)⟩
theorem VS.ok_run (l : List Ev) : ∀ {s : VS}, s.Ok → VS.all s l → (VS.run s l).Ok := by
 induction l with
 |nil => intro s h _; exact h
 |cons e l ih => intro s h ha; exact ih (VS.ok_next h ha.1) ha.2
theorem cameL_of {e : Ev} {r : List Ev} (h : e.k = 3) : cameL (e :: r) = e.b :: cameL r := by rw [cameL, if_pos h]
theorem cameL_no {e : Ev} {r : List Ev} (h : e.k ≠ 3) : cameL (e :: r) = [] := by rw [cameL, if_neg h]
theorem came_len (r : List Ev) : ∀ {s : VS} {q : VC}, VS.all s r → s.cur = some q → (q.l.length : Int) ≤ max q.n 0 → ((q.l ++ cameL r).length : Int) ≤ max q.n 0 := by
 induction r with
 |nil => intro s q _ _ h; rw [cameL, List.append_nil]; exact h
 |cons e r ih =>
  intro s q ha hq h
  by_cases h3 : e.k = 3
  ·rw [cameL_of h3]
   obtain ⟨p, hp, hlt⟩ := ha.1.byte h3
   rw [hq] at hp
   cases hp
   have := ih (s := s.next e) (q := q.and e.b) ha.2 (by rw [VS.next3 h3 hq]) (by show ((q.l ++ [e.b]).length : Int) ≤ max q.n 0; rw [List.length_append, List.length_singleton]; omega)
   have h9 : (((q.l ++ [e.b]) ++ cameL r).length : Int) ≤ max q.n 0 := this
   rw [List.append_assoc] at h9
   exact h9
  ·rw [cameL_no h3, List.append_nil]; exact h
def vFrom (s : VS) (r : List Ev) : Int :=
 match s.cur with
 |none => vF r
 |some q => if q.c = 0 ∧ 0 ≤ vW q.t q.n (q.l ++ cameL r) then vW q.t q.n (q.l ++ cameL r) - q.l.length - 1 else vF r
theorem vFrom_none {s : VS} {r : List Ev} (h : s.cur = none) : vFrom s r = vF r := by unfold vFrom; rw [h]
theorem vFrom_some {s : VS} {r : List Ev} {q : VC} (h : s.cur = some q) : vFrom s r = if q.c = 0 ∧ 0 ≤ vW q.t q.n (q.l ++ cameL r) then vW q.t q.n (q.l ++ cameL r) - q.l.length - 1 else vF r := by unfold vFrom; rw [h]
theorem vF_cons (e : Ev) (r : List Ev) : vF (e :: r) = if 0 ≤ vEv e r then vEv e r else if 0 ≤ vF r then vF r + 1 else -1 := rfl
theorem vEv_no {e : Ev} (r : List Ev) (h1 : e.k ≠ 1) (h2 : e.k ≠ 2) : vEv e r = -1 := by
 unfold vEv
 by_cases h : e.c ≠ 0
 ·rw [if_pos h]
 ·rw [if_neg h, if_neg h1, if_pos h2]
theorem vEv_other {e : Ev} (r : List Ev) (h : ¬ e.c = 0) : vEv e r = -1 := by unfold vEv; rw [if_pos h]
theorem vEv_enter {e : Ev} (r : List Ev) (h : e.c = 0) (h1 : e.k = 1) : vEv e r = if e.t = 16 ∨ e.t = 17 then -1 else 0 := by unfold vEv; rw [if_neg (fun x => x h), if_pos h1]
theorem vEv_leaf {e : Ev} (r : List Ev) (h : e.c = 0) (h1 : e.k = 2) : vEv e r = if e.t = 0 ∨ e.t = 16 ∨ e.t = 17 then 0 else vW e.t e.n (cameL r) := by unfold vEv; rw [if_neg (fun x => x h), if_neg (by omega), if_neg (by omega)]
theorem vBad_false {q : VC} (h : vBad q = false) (h0 : q.c = 0) : ¬ q.t = 0 ∧ ¬ q.t = 16 ∧ ¬ q.t = 17 ∧ ¬ 0 ≤ vW q.t q.n q.l := by
 unfold vBad at h
 have h := of_decide_eq_false h
 refine ⟨fun h1 => h ⟨h0, .inl h1⟩, fun h1 => h ⟨h0, .inr (.inl h1)⟩, fun h1 => h ⟨h0, .inr (.inr (.inl h1))⟩, fun h1 => h ⟨h0, .inr (.inr (.inr h1))⟩⟩
theorem vFrom_other {s : VS} {e : Ev} {r : List Ev} (ho : s.Ok) (hb : s.bad = false) (h3 : e.k ≠ 3) : vFrom s (e :: r) = vF (e :: r) := by
 cases hc : s.cur with
 |none => exact vFrom_none hc
 |some q =>
  rw [vFrom_some hc, cameL_no h3, List.append_nil, if_neg]
  rintro ⟨h0, h1⟩
  exact (vBad_false (ho.good q hc hb) h0).2.2.2 h1
theorem vFrom_cons {s : VS} {e : Ev} {r : List Ev} (ho : s.Ok) (hb : s.bad = false) (ha : VS.all s (e :: r)) :
  vFrom s (e :: r) = if (s.next e).bad = true then 0 else if 0 ≤ vFrom (s.next e) r then vFrom (s.next e) r + 1 else -1 := by
 obtain ⟨hf, har⟩ := ha
 rcases hf.k with h1 | h1 | h1 | h1 | h1
 ·rw [vFrom_other ho hb (by omega), VS.next1 h1, vF_cons, vFrom_none rfl, hb]
  by_cases hc : e.c = 0
  ·rw [vEv_enter r hc h1]
   by_cases ht : e.t = 16 ∨ e.t = 17
   ·rw [if_pos ht, if_neg (show ¬ (0 : Int) ≤ -1 by omega), if_neg (show ¬ (false || decide (e.c = 0 ∧ ¬ e.t = 16 ∧ ¬ e.t = 17)) = true by simp; omega)]
   ·rw [if_neg ht, if_pos (show (0 : Int) ≤ 0 by omega), if_pos (show (false || decide (e.c = 0 ∧ ¬ e.t = 16 ∧ ¬ e.t = 17)) = true by simp; omega)]
  ·rw [vEv_other r hc, if_neg (show ¬ (0 : Int) ≤ -1 by omega), if_neg (show ¬ (false || decide (e.c = 0 ∧ ¬ e.t = 16 ∧ ¬ e.t = 17)) = true by simp [hc])]
 ·rw [vFrom_other ho hb (by omega), VS.next2 h1, vF_cons, vFrom_some rfl, hb]
  have hl := came_len r (s := s.next e) (q := ⟨e.c, e.t, e.n, []⟩) har (by rw [VS.next2 h1]) (by show (0 : Int) ≤ _; omega)
  have hl : ((cameL r).length : Int) ≤ max e.n 0 := hl
  show _ = if (false || vBad ⟨e.c, e.t, e.n, []⟩) = true then 0 else if 0 ≤ (if e.c = 0 ∧ 0 ≤ vW e.t e.n ([] ++ cameL r) then vW e.t e.n ([] ++ cameL r) - ((0 : Nat) : Int) - 1 else vF r) then (if e.c = 0 ∧ 0 ≤ vW e.t e.n ([] ++ cameL r) then vW e.t e.n ([] ++ cameL r) - ((0 : Nat) : Int) - 1 else vF r) + 1 else -1
  rw [List.nil_append, Bool.false_or]
  obtain ⟨⟨f1, f2⟩, f3⟩ := v_first e.t e.n (cameL r) hl
  have f30 := f3 0 (Nat.zero_le _)
  rw [List.take_zero] at f30
  by_cases hc : e.c = 0
  ·rw [vEv_leaf r hc h1]
   by_cases ht : e.t = 0 ∨ e.t = 16 ∨ e.t = 17
   ·have hv : vBad ⟨e.c, e.t, e.n, []⟩ = true := by
     unfold vBad
     refine decide_eq_true ⟨hc, ?_⟩
     rcases ht with h | h | h
     ·exact .inl h
     ·exact .inr (.inl h)
     ·exact .inr (.inr (.inl h))
    rw [if_pos ht, if_pos (show (0 : Int) ≤ 0 by omega), if_pos hv]
   ·rw [if_neg ht]
    have hvd : vBad ⟨e.c, e.t, e.n, []⟩ = decide (vW e.t e.n (cameL r) = 0) := by
     unfold vBad
     refine decide_eq_decide.2 ⟨?_, ?_⟩
     ·rintro ⟨_, h | h | h | h⟩
      ·exact absurd (.inl h) ht
      ·exact absurd (.inr (.inl h)) ht
      ·exact absurd (.inr (.inr h)) ht
      ·have h : 0 ≤ vW e.t e.n [] := h
       rw [f30] at h
       split at h <;> omega
     ·intro h
      refine ⟨hc, .inr (.inr (.inr ?_))⟩
      show 0 ≤ vW e.t e.n []
      rw [f30, if_pos (by omega)]; omega
    rw [hvd]
    generalize vW e.t e.n (cameL r) = W at *
    by_cases hW : W = 0
    ·rw [if_pos (show (0 : Int) ≤ W by omega), if_pos (decide_eq_true hW), hW]
    ·rw [if_neg (show ¬ decide (W = 0) = true by simpa using hW)]
     by_cases hW0 : 0 ≤ W
     ·have hp : e.c = 0 ∧ 0 ≤ W := ⟨hc, hW0⟩
      rw [if_pos hW0, if_pos hp, if_pos (show 0 ≤ W - ((0 : Nat) : Int) - 1 by omega)]; omega
     ·rw [if_neg hW0, if_neg (fun h : e.c = 0 ∧ 0 ≤ W => hW0 h.2)]
  ·have hv : vBad ⟨e.c, e.t, e.n, []⟩ = false := by unfold vBad; exact decide_eq_false (fun h => hc h.1)
   rw [vEv_other r hc, if_neg (show ¬ (0 : Int) ≤ -1 by omega), hv, if_neg (show ¬ false = true by simp), if_neg (fun h : e.c = 0 ∧ 0 ≤ vW e.t e.n (cameL r) => hc h.1)]
 ·obtain ⟨q, hq, hlt⟩ := hf.byte h1
  have hl := came_len (e :: r) (s := s) (q := q) ⟨hf, har⟩ hq (ho.len q hq)
  rw [vFrom_some hq, VS.next3 h1 hq, vFrom_some rfl, hb, vF_cons, vEv_no r (by omega) (by omega)]
  rw [cameL_of h1] at hl ⊢
  show (if q.c = 0 ∧ 0 ≤ vW q.t q.n (q.l ++ e.b :: cameL r) then vW q.t q.n (q.l ++ e.b :: cameL r) - q.l.length - 1 else if (0 : Int) ≤ -1 then -1 else if 0 ≤ vF r then vF r + 1 else -1) = if (false || vBad (q.and e.b)) = true then 0 else if 0 ≤ (if q.c = 0 ∧ 0 ≤ vW q.t q.n ((q.l ++ [e.b]) ++ cameL r) then vW q.t q.n ((q.l ++ [e.b]) ++ cameL r) - (q.l ++ [e.b]).length - 1 else vF r) then (if q.c = 0 ∧ 0 ≤ vW q.t q.n ((q.l ++ [e.b]) ++ cameL r) then vW q.t q.n ((q.l ++ [e.b]) ++ cameL r) - (q.l ++ [e.b]).length - 1 else vF r) + 1 else -1
  rw [Bool.false_or, List.append_assoc, List.singleton_append, List.length_append, List.length_singleton, if_neg (show ¬ (0 : Int) ≤ -1 by omega)]
  by_cases hc : q.c = 0
  ·obtain ⟨g1, g2, g3, g4⟩ := vBad_false (ho.good q hq hb) hc
   obtain ⟨⟨f1, f2⟩, f3⟩ := v_first q.t q.n _ hl
   have f30 := f3 q.l.length (by rw [List.length_append]; omega)
   have f31 := f3 (q.l.length + 1) (by rw [List.length_append, List.length_cons]; omega)
   rw [List.take_left] at f30
   have ht : (q.l ++ e.b :: cameL r).take (q.l.length + 1) = q.l ++ [e.b] := by
    rw [show q.l ++ e.b :: cameL r = (q.l ++ [e.b]) ++ cameL r by simp]
    exact List.take_left' (by simp)
   rw [ht] at f31
   have hvd : vBad (q.and e.b) = decide (0 ≤ vW q.t q.n (q.l ++ [e.b])) := by
    unfold vBad VC.and
    refine decide_eq_decide.2 ⟨?_, fun h => ⟨hc, .inr (.inr (.inr h))⟩⟩
    rintro ⟨_, h | h | h | h⟩
    ·exact absurd h g1
    ·exact absurd h g2
    ·exact absurd h g3
    ·exact h
   rw [hvd, f31]
   rw [f30] at g4
   generalize vW q.t q.n (q.l ++ e.b :: cameL r) = W at *
   by_cases hW0 : 0 ≤ W
   ·have hWl : (q.l.length : Int) < W := by
     by_cases hle : W ≤ q.l.length
     ·rw [if_pos ⟨hW0, hle⟩] at g4; exact absurd hW0 g4
     ·omega
    have hp : q.c = 0 ∧ 0 ≤ W := ⟨hc, hW0⟩
    rw [if_pos hp, if_pos hp]
    by_cases hW1 : W = (q.l.length : Int) + 1
    ·have hx : (0 : Int) ≤ (if 0 ≤ W ∧ W ≤ ((q.l.length + 1 : Nat) : Int) then W else -1) := by rw [if_pos (by omega)]; exact hW0
     rw [decide_eq_true hx, if_pos rfl]; omega
    ·have hx : ¬ (0 : Int) ≤ (if 0 ≤ W ∧ W ≤ ((q.l.length + 1 : Nat) : Int) then W else -1) := by rw [if_neg (by omega)]; omega
     rw [decide_eq_false hx, if_neg (show ¬ false = true by simp), if_pos (show 0 ≤ W - ((q.l.length + 1 : Nat) : Int) - 1 by omega)]; omega
   ·have hx : ¬ (0 : Int) ≤ (if 0 ≤ W ∧ W ≤ ((q.l.length + 1 : Nat) : Int) then W else -1) := by rw [if_neg (fun h => hW0 h.1)]; omega
    have hn : ¬ (q.c = 0 ∧ 0 ≤ W) := fun h => hW0 h.2
    rw [if_neg hn, decide_eq_false hx, if_neg (show ¬ false = true by simp), if_neg hn]
  ·have hv : vBad (q.and e.b) = false := by unfold vBad VC.and; exact decide_eq_false (fun h => hc h.1)
   have hn : ¬ (q.c = 0 ∧ 0 ≤ vW q.t q.n (q.l ++ e.b :: cameL r)) := fun h => hc h.1
   rw [if_neg hn, if_neg hn, hv, if_neg (show ¬ false = true by simp)]
 ·rw [vFrom_other ho hb (by omega), VS.next4 (by omega) (by omega) (by omega), vF_cons, vFrom_none rfl, hb, vEv_no r (by omega) (by omega), if_neg (show ¬ (0 : Int) ≤ -1 by omega), if_neg (show ¬ false = true by simp)]
 ·rw [vFrom_other ho hb (by omega), VS.next4 (by omega) (by omega) (by omega), vF_cons, vFrom_none rfl, hb, vEv_no r (by omega) (by omega), if_neg (show ¬ (0 : Int) ≤ -1 by omega), if_neg (show ¬ false = true by simp)]
theorem v_run (r : List Ev) : ∀ {s : VS}, s.Ok → s.bad = false → VS.all s r →
  (-1 ≤ vFrom s r ∧ vFrom s r < r.length) ∧ ∀ i, i ≤ r.length → (VS.run s (r.take i)).bad = decide (0 ≤ vFrom s r ∧ vFrom s r < i) := by
 induction r with
 |nil =>
  intro s ho hb _
  have h : vFrom s [] = -1 := by
   cases hc : s.cur with
   |none => rw [vFrom_none hc]; rfl
   |some q =>
    rw [vFrom_some hc, cameL, List.append_nil, if_neg]
    ·rfl
    ·rintro ⟨h0, h1⟩
     exact (vBad_false (ho.good q hc hb) h0).2.2.2 h1
  rw [h]
  refine ⟨⟨by omega, by simp⟩, fun i hi => ?_⟩
  rw [List.take_nil]
  show s.bad = _
  rw [hb, decide_eq_false (by omega)]
 |cons e r ih =>
  intro s ho hb ha
  have hv := vFrom_cons ho hb ha
  rw [hv]
  by_cases hs : (s.next e).bad = true
  ·rw [if_pos hs]
   refine ⟨⟨by omega, by rw [List.length_cons]; omega⟩, fun i hi => ?_⟩
   cases i with
   |zero => show s.bad = _; rw [hb, decide_eq_false (by omega)]
   |succ i =>
    rw [List.take_succ_cons]
    show (VS.run (s.next e) (r.take i)).bad = _
    rw [VS.bad_run _ hs, decide_eq_true (by omega)]
  ·rw [if_neg hs]
   have hs' : (s.next e).bad = false := by simpa using hs
   obtain ⟨⟨i1, i2⟩, i3⟩ := ih (VS.ok_next ho ha.1) hs' ha.2
   refine ⟨⟨by split <;> omega, by rw [List.length_cons]; split <;> omega⟩, fun i hi => ?_⟩
   cases i with
   |zero =>
    show s.bad = _
    rw [hb, decide_eq_false]
    split <;> omega
   |succ i =>
    rw [List.take_succ_cons]
    show (VS.run (s.next e) (r.take i)).bad = _
    rw [i3 i (by simpa using hi)]
    refine decide_eq_decide.2 ?_
    split <;> omega
theorem v_bad {l : List Ev} (h : VS.all VS.new l) : (-1 ≤ vF l ∧ vF l < l.length) ∧ ∀ i, i ≤ l.length → (VS.run VS.new (l.take i)).bad = decide (0 ≤ vF l ∧ vF l < i) := by
 have := v_run l VS.ok_new rfl h
 rw [vFrom_none rfl] at this
 exact this
theorem vF_front {l r : List Ev} (h : VS.all VS.new (l ++ r)) : (0 ≤ vF l → vF (l ++ r) = vF l) ∧ (vF l < 0 → vF (l ++ r) < 0 ∨ (l.length : Int) ≤ vF (l ++ r)) := by
 have hl := ((VS.all_append l r _).1 h).1
 obtain ⟨⟨a1, a2⟩, a3⟩ := v_bad h
 obtain ⟨⟨b1, b2⟩, b3⟩ := v_bad hl
 have key : ∀ i, i ≤ l.length → ((0 ≤ vF (l ++ r) ∧ vF (l ++ r) < (i : Int)) ↔ (0 ≤ vF l ∧ vF l < (i : Int))) := by
  intro i hi
  have h1 := a3 i (by rw [List.length_append]; omega)
  have h2 := b3 i hi
  rw [List.take_append_of_le_length hi, h2] at h1
  exact (decide_eq_decide.1 h1).symm
 refine ⟨fun h0 => ?_, fun h0 => ?_⟩
 ·obtain ⟨n, hn⟩ := Int.eq_ofNat_of_zero_le h0
  have k1 := key n (by omega)
  have k2 := key (n + 1) (by omega)
  rw [hn] at k1 k2 ⊢
  omega
 ·have := key l.length (Nat.le_refl _)
  omega
end Go.Proofs.Ytiiimhamfibdbaa
/- Contents of all elements in plain words: the events that a machine brings about come in an order that a checker can take, and what is told of a text, of its beginnings, and of right elements. They hold of lists alone, under no condition on the program. -/
namespace Go.Proofs.Ytiiimhamfibdbaa
open Go.RowKit Go.PlainAid
set_option linter.unusedVariables false
structure VM (m : EM) (acc : List Ev) : Prop where
 all : VS.all VS.new acc
 cur : 0 < m.leaf → ∃ q, (VS.run VS.new acc).cur = some q ∧ q.n - q.l.length = m.leaf
 hd : IsB m.hd
theorem vm_new : VM EM.new [] := ⟨trivial, (fun h => absurd h (by decide)), IsB.nil⟩
section
variable {s : VS} {p : Nat}
theorem fit_enter (hp : p ≤ maxLen) {c t n : Int} {f : Bool} (hc : 0 ≤ c ∧ c ≤ 3) (ht : 0 ≤ t ∧ t ≤ 268435455) (hn : 0 ≤ n ∧ n ≤ 2305843009213693951) : s.fits (evEnter p c t f n) :=
 ⟨.inl rfl, hc, ht, hn, by show (0 : Int) ≤ 0 ∧ (0 : Int) ≤ 255; omega, by show (0 : Int) ≤ (p : Int) ∧ (p : Int) ≤ _; unfold maxLen at hp; omega, fun h => absurd h (by show ¬ (1 : Int) = 3; decide)⟩
theorem fit_leaf (hp : p ≤ maxLen) {c t n : Int} {f : Bool} (hc : 0 ≤ c ∧ c ≤ 3) (ht : 0 ≤ t ∧ t ≤ 268435455) (hn : 0 ≤ n ∧ n ≤ 2305843009213693951) : s.fits (evLeaf p c t f n) :=
 ⟨.inr (.inl rfl), hc, ht, hn, by show (0 : Int) ≤ 0 ∧ (0 : Int) ≤ 255; omega, by show (0 : Int) ≤ (p : Int) ∧ (p : Int) ≤ _; unfold maxLen at hp; omega, fun h => absurd h (by show ¬ (2 : Int) = 3; decide)⟩
theorem fit_byte (hp : p ≤ maxLen) {x : Int} (hx : 0 ≤ x ∧ x ≤ 255) (h : ∃ q, s.cur = some q ∧ (q.l.length : Int) < q.n) : s.fits (evByte p x) :=
 ⟨.inr (.inr (.inl rfl)), by show (0 : Int) ≤ 0 ∧ (0 : Int) ≤ 3; omega, by show (0 : Int) ≤ 0 ∧ (0 : Int) ≤ _; omega, by show (0 : Int) ≤ 0 ∧ (0 : Int) ≤ _; omega, hx, by show (0 : Int) ≤ (p : Int) ∧ (p : Int) ≤ _; unfold maxLen at hp; omega, fun _ => h⟩
theorem fit_end (hp : p ≤ maxLen) : s.fits (evEnd p) :=
 ⟨.inr (.inr (.inr (.inl rfl))), by show (0 : Int) ≤ 0 ∧ (0 : Int) ≤ 3; omega, by show (0 : Int) ≤ 0 ∧ (0 : Int) ≤ _; omega, by show (0 : Int) ≤ 0 ∧ (0 : Int) ≤ _; omega, by show (0 : Int) ≤ 0 ∧ (0 : Int) ≤ 255; omega, by show (0 : Int) ≤ (p : Int) ∧ (p : Int) ≤ _; unfold maxLen at hp; omega, fun h => absurd h (by show ¬ (4 : Int) = 3; decide)⟩
theorem fit_exit (hp : p ≤ maxLen) : s.fits (evExit p) :=
 ⟨.inr (.inr (.inr (.inr rfl))), by show (0 : Int) ≤ 0 ∧ (0 : Int) ≤ 3; omega, by show (0 : Int) ≤ 0 ∧ (0 : Int) ≤ _; omega, by show (0 : Int) ≤ 0 ∧ (0 : Int) ≤ _; omega, by show (0 : Int) ≤ 0 ∧ (0 : Int) ≤ 255; omega, by show (0 : Int) ≤ (p : Int) ∧ (p : Int) ≤ _; unfold maxLen at hp; omega, fun h => absurd h (by show ¬ (5 : Int) = 3; decide)⟩
end
theorem fit_pop {p : Nat} (hp : p ≤ maxLen) (st : List Int) : ∀ s : VS, VS.all s (popE st p) := by
 induction st with
 |nil => intro s; exact trivial
 |cons x r ih =>
  intro s
  rw [popE]
  by_cases h : x = 0
  ·rw [if_pos h]; exact ⟨fit_exit hp, ih _⟩
  ·rw [if_neg h]; exact trivial
theorem vm_step {b : ByteArray} {dep : Int} (hs : b.size ≤ maxLen) (i : Nat) (m m' : EM) (acc l : List Ev) (hi : i < b.size) (hat : m.at_ = i) (hQ : VM m acc) (h : m.step (evMost dep) (bt b i) = (0, l, m')) : VM m' (acc ++ l) := by
 obtain ⟨ho, hdn, hc⟩ := EM.step_cases h
 have hb0 := bt_nonneg b i
 have hb1 := bt_le b i
 subst hat
 have hp : m.at_ ≤ maxLen := by omega
 rcases hc with ⟨h1, rfl, rfl⟩ | ⟨h1, rfl, rfl⟩ | ⟨h1, h2, h3, rfl, rfl⟩ | ⟨h1, h2, c, t, f, n, g, h3, h4, rfl, rfl⟩
 ·obtain ⟨q, q1, q2⟩ := hQ.cur (by omega)
  refine ⟨(VS.all_append _ _ _).2 ⟨hQ.all, fit_byte hp ⟨hb0, hb1⟩ ⟨q, q1, by omega⟩, fit_end hp, fit_pop hp _ _⟩, (fun h => absurd h (by show ¬ (0 : Int) < 0; decide)), IsB.nil⟩
 ·obtain ⟨q, q1, q2⟩ := hQ.cur (by omega)
  refine ⟨(VS.all_append _ _ _).2 ⟨hQ.all, fit_byte hp ⟨hb0, hb1⟩ ⟨q, q1, by omega⟩, trivial⟩, fun _ => ⟨q.and (bt b m.at_), ?_, ?_⟩, hQ.hd⟩
  ·rw [VS.run_append]
   show (VS.next _ _).cur = _
   rw [VS.next3 rfl q1]; rfl
  ·show q.n - ((q.l ++ [bt b m.at_]).length : Int) = m.leaf - 1
   rw [List.length_append, List.length_singleton]; omega
 ·rw [List.append_nil]
  exact ⟨hQ.all, hQ.cur, hQ.hd.append (IsB.cons hb0 hb1 IsB.nil)⟩
 ·have hbd := hdGet_bd (m.hd ++ [bt b m.at_]) (hQ.hd.append (IsB.cons hb0 hb1 IsB.nil))
  rw [h3] at hbd
  obtain ⟨c0, c1, t0, t1, n0, n1⟩ := hbd
  simp only at c0 c1 t0 t1 n0 n1
  cases f with
  |true =>
   rw [headL_open, headM_open]
   exact ⟨(VS.all_append _ _ _).2 ⟨hQ.all, fit_enter hp ⟨c0, c1⟩ ⟨t0, t1⟩ ⟨n0, n1⟩, fit_pop hp _ _⟩, (fun h => absurd h (by show ¬ (0 : Int) < 0; decide)), IsB.nil⟩
  |false =>
   by_cases hn : n = 0
   ·subst hn
    rw [headL_none, headM_none]
    exact ⟨(VS.all_append _ _ _).2 ⟨hQ.all, fit_leaf hp ⟨c0, c1⟩ ⟨t0, t1⟩ ⟨n0, n1⟩, fit_end hp, fit_pop hp _ _⟩, (fun h => absurd h (by show ¬ (0 : Int) < 0; decide)), IsB.nil⟩
   ·rw [headL_leaf hn, headM_leaf hn]
    refine ⟨(VS.all_append _ _ _).2 ⟨hQ.all, fit_leaf hp ⟨c0, c1⟩ ⟨t0, t1⟩ ⟨n0, n1⟩, trivial⟩, fun _ => ⟨⟨c, t, n, []⟩, ?_, ?_⟩, IsB.nil⟩
    ·rw [VS.run_append]
     show (VS.next _ _).cur = _
     rw [VS.next2 rfl]; rfl
    ·show n - ((0 : Nat) : Int) = n
     omega
theorem evW_fits {b : ByteArray} {dep : Int} (hs : b.size ≤ maxLen) {L : List Ev} {E : Int} {P : Nat} (h : evW b dep = (L, E, P)) : VS.all VS.new L := by
 obtain ⟨m, h1, h2, _⟩ := evW_upto h
 exact (allTo_ind (Q := fun m acc => VM m acc) vm_new (fun i m m' acc l hi hat hQ hst => vm_step hs i m m' acc l hi hat hQ hst) P h1 m L h2).all
theorem EM.run_ge (d : Nat) (l : List Int) (m : EM) (acc : List Ev) (h0 : m.over = 0) : m.at_ ≤ (EM.run d m l acc).2.2 := by
 cases hq : EM.all d m l acc with
 |none => exact (EM.all_none d l _ _ hq h0).2.2.1
 |some q =>
  rw [EM.run_done d hq]
  have := (EM.all_at d l _ _ hq h0).1
  show m.at_ ≤ q.1.at_
  omega
theorem evW_front2 {b : ByteArray} {dep : Int} {n : Nat} (hn : n ≤ b.size) {L L' : List Ev} {E E' : Int} {P P' : Nat} (h : evW b dep = (L, E, P)) (h' : evW (b.extract 0 n) dep = (L', E', P')) :
  (L' = L ∧ E' = E ∧ P' = P ∧ P < n ∧ ∀ e ∈ L, e.at_ < (P : Int)) ∨ (∃ R, L = L' ++ R ∧ (∀ e ∈ R, (n : Int) ≤ e.at_) ∧ (∀ e ∈ L', e.at_ < (n : Int)) ∧ P' = n ∧ (E' = 0 ∨ E' = 2) ∧ n ≤ P) := by
 unfold evW evWhole at h h'
 rw [bl_extract _ _ _ hn, List.drop_zero, Nat.sub_zero] at h'
 have hsp : (bl b).take n ++ (bl b).drop n = bl b := List.take_append_drop n (bl b)
 have hlen : ((bl b).take n).length = n := by rw [List.length_take, bl_length]; omega
 rw [← hsp] at h
 cases hq : EM.all (evMost dep) EM.new ((bl b).take n) [] with
 |none =>
  rw [EM.run_none _ _ _ _ hq] at h
  rw [h] at h'
  simp only [Prod.mk.injEq] at h'
  obtain ⟨rfl, rfl, rfl⟩ := h'
  obtain ⟨_, _, _, q4⟩ := EM.all_none _ _ _ _ hq rfl
  rw [h] at q4
  have q4 : P < 0 + ((bl b).take n).length := q4
  obtain ⟨R, r1, r2⟩ := EM.run_at (evMost dep) ((bl b).take n) EM.new [] rfl
  rw [h] at r1 r2
  have r1 : L = [] ++ R := r1
  rw [List.nil_append] at r1
  subst r1
  exact .inl ⟨rfl, rfl, rfl, by omega, fun e he => (r2 e he).2⟩
 |some q =>
  obtain ⟨q1, q2⟩ := EM.all_at _ _ _ _ hq rfl
  have q1 : q.1.at_ = n := by rw [q1, hlen]; show 0 + n = n; omega
  rw [EM.run_done _ hq, q1] at h'
  simp only [Prod.mk.injEq] at h'
  obtain ⟨rfl, hE, rfl⟩ := h'
  rw [EM.run_some _ _ _ _ hq] at h
  obtain ⟨R, r1, r2⟩ := EM.run_at (evMost dep) ((bl b).drop n) q.1 q.2 q2
  have hge := EM.run_ge (evMost dep) ((bl b).drop n) q.1 q.2 q2
  rw [h] at r1 r2 hge
  have hge : q.1.at_ ≤ P := hge
  have r1 : L = q.2 ++ R := r1
  obtain ⟨S, s1, s2⟩ := EM.run_at (evMost dep) ((bl b).take n) EM.new [] rfl
  rw [EM.run_done _ hq, q1] at s1 s2
  have s1 : q.2 = [] ++ S := s1
  rw [List.nil_append] at s1
  refine .inr ⟨R, r1, fun e he => ?_, fun e he => (s2 e (s1 ▸ he)).2, rfl, ?_, by omega⟩
  ·have := (r2 e he).1
   rw [q1] at this; exact this
  ·rw [← hE]
   split
   ·exact .inl rfl
   ·exact .inr rfl
def atOf (l : List Ev) (i : Nat) : Int := match l[i]? with | some e => e.at_ | none => 0
theorem atOf_some {l : List Ev} {i : Nat} {e : Ev} (h : l[i]? = some e) : atOf l i = e.at_ := by unfold atOf; rw [h]
theorem atOf_mem {l : List Ev} {i : Nat} (h : i < l.length) : ∃ e ∈ l, atOf l i = e.at_ := ⟨l[i], List.getElem_mem h, atOf_some (List.getElem?_eq_getElem h)⟩
theorem atOf_left {l r : List Ev} {i : Nat} (h : i < l.length) : atOf (l ++ r) i = atOf l i := by unfold atOf; rw [List.getElem?_append_left h]
theorem atOf_right {l r : List Ev} {i : Nat} (h : l.length ≤ i) (h2 : i < (l ++ r).length) : ∃ e ∈ r, atOf (l ++ r) i = e.at_ := by
 rw [List.length_append] at h2
 unfold atOf
 rw [List.getElem?_append_right h]
 exact atOf_mem (l := r) (by omega)
end Go.Proofs.Ytiiimhamfibdbaa
