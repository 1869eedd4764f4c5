/- Layer 9: what a byte that brings no error does, case by case; and that elements begin, and are over, one within the other. In plain words. -/
import Derived.Test.YtoklcnfpeipalaaE4
namespace Go.Proofs.Ytoklcnfpeipalaa
open Go.RowKit Go.PlainAid
set_option linter.unusedVariables false
/-- A byte that brings no error. -/
theorem EM.step_cases {d : Nat} {m m' : EM} {x : Int} {l : List Ev} (h : m.step d x = (0, l, m')) : m.over = 0 ∧ m.done = false ∧
    ((m.leaf = 1 ∧ l = evByte m.at_ x :: evEnd m.at_ :: popE m.st m.at_ ∧ m' = EM.fin m.st (m.at_ + 1)) ∨
    (1 < m.leaf ∧ l = [evByte m.at_ x] ∧ m' = { m with leaf := m.leaf - 1, at_ := m.at_ + 1 }) ∨
    (m.leaf ≤ 0 ∧ m.st.head? ≠ some 0 ∧ (hdGet (m.hd ++ [x])).2.2.2.2.2 = 2 ∧ l = [] ∧ m' = { m with st := pays m.st 1, hd := m.hd ++ [x], at_ := m.at_ + 1 }) ∨
    (m.leaf ≤ 0 ∧ m.st.head? ≠ some 0 ∧ ∃ c t f n g, hdGet (m.hd ++ [x]) = (c, t, f, n, g, 0) ∧ headE d (pays m.st 1) f n = 0 ∧ l = headL (pays m.st 1) m.at_ c t f n ∧ m' = headM (pays m.st 1) m.at_ f n)) := by
  have hok := EM.step_ok (d := d) (m := m) (x := x) (by rw [h])
  refine ⟨hok.2.2.1, hok.2.2.2, ?_⟩
  have hov := hok.2.2.1
  have hdn := hok.2.2.2
  unfold EM.step at h
  rw [if_neg (by simpa using hov), if_neg (by simp [hdn])] at h
  by_cases h2 : 0 < m.leaf
  · rw [if_pos h2] at h
    by_cases h3 : m.leaf = 1
    · rw [if_pos h3] at h
      simp only [Prod.mk.injEq] at h
      exact .inl ⟨h3, h.2.1.symm, h.2.2.symm⟩
    · rw [if_neg h3] at h
      simp only [Prod.mk.injEq] at h
      exact .inr (.inl ⟨by omega, h.2.1.symm, h.2.2.symm⟩)
  · rw [if_neg h2] at h
    by_cases h4 : m.st.head? = some 0
    · rw [if_pos h4] at h; simp at h
    · rw [if_neg h4] at h
      by_cases h5 : (hdGet (m.hd ++ [x])).2.2.2.2.2 = 2
      · rw [if_pos h5] at h
        simp only [Prod.mk.injEq] at h
        exact .inr (.inr (.inl ⟨by omega, h4, h5, h.2.1.symm, h.2.2.symm⟩))
      · rw [if_neg h5] at h
        by_cases h6 : (hdGet (m.hd ++ [x])).2.2.2.2.2 ≠ 0
        · rw [if_pos h6] at h
          simp only [Prod.mk.injEq] at h
          exact absurd h.1 h6
        · rw [if_neg h6] at h
          obtain ⟨c, t, f, n, g, e, hg⟩ : ∃ c t f n g e, hdGet (m.hd ++ [x]) = (c, t, f, n, g, e) := ⟨_, _, _, _, _, _, rfl⟩
          rw [hg] at h h6
          simp only at h h6
          obtain rfl : e = 0 := by simpa using h6
          by_cases h7 : headE d (pays m.st 1) f n ≠ 0
          · rw [if_pos h7] at h
            simp only [Prod.mk.injEq] at h
            exact absurd h.1 h7
          · rw [if_neg h7] at h
            simp only [Prod.mk.injEq] at h
            exact .inr (.inr (.inr ⟨by omega, h4, c, t, f, n, g, hg, by simpa using h7, h.2.1.symm, h.2.2.symm⟩))
theorem allTo_step {b : ByteArray} {dep : Int} {i : Nat} (h : i < b.size) {m' : EM} {acc' : List Ev} (ha : allTo b dep (i + 1) = some (m', acc')) :
    ∃ m acc l, allTo b dep i = some (m, acc) ∧ m.step (evMost dep) (bt b i) = (0, l, m') ∧ acc' = acc ++ l := by
  unfold allTo at ha ⊢
  rw [bl_take_succ b i h, EM.all_append] at ha
  cases hq : EM.all (evMost dep) EM.new ((bl b).take i) [] with
  | none => rw [hq] at ha; cases ha
  | some q =>
    rw [hq] at ha
    have ha : EM.all (evMost dep) q.1 [bt b i] q.2 = some (m', acc') := ha
    rw [EM.all] at ha
    by_cases h1 : (q.1.step (evMost dep) (bt b i)).1 ≠ 0
    · rw [if_pos h1] at ha; cases ha
    · rw [if_neg h1] at ha
      have h1 : (q.1.step (evMost dep) (bt b i)).1 = 0 := by simpa using h1
      have ha : some ((q.1.step (evMost dep) (bt b i)).2.2, q.2 ++ (q.1.step (evMost dep) (bt b i)).2.1) = some (m', acc') := ha
      simp only [Option.some.injEq, Prod.mk.injEq] at ha
      refine ⟨q.1, q.2, (q.1.step (evMost dep) (bt b i)).2.1, rfl, ?_, ha.2.symm⟩
      rw [← ha.1, ← h1]
/-- What holds at first and is kept by each byte, holds behind all. -/
theorem allTo_ind {b : ByteArray} {dep : Int} {Q : EM → List Ev → Prop} (h0 : Q EM.new []) (hs : ∀ (i : Nat) (m m' : EM) (acc l : List Ev), i < b.size → m.at_ = i → Q m acc → m.step (evMost dep) (bt b i) = (0, l, m') → Q m' (acc ++ l)) :
    ∀ (i : Nat), i ≤ b.size → ∀ (m : EM) (acc : List Ev), allTo b dep i = some (m, acc) → Q m acc := by
  intro i
  induction i with
  | zero =>
    intro _ m acc h
    rw [allTo_zero] at h
    simp only [Option.some.injEq, Prod.mk.injEq] at h
    obtain ⟨rfl, rfl⟩ := h
    exact h0
  | succ i ih =>
    intro hi m' acc' h
    obtain ⟨m, acc, l, h1, h2, rfl⟩ := allTo_step (by omega) h
    exact hs i m m' acc l (by omega) (allTo_at (by omega) h1).1 (ih (by omega) m acc h1) h2
/-- What is told of a text is what came of the bytes ahead of the first one that is wrong. -/
theorem evW_upto {b : ByteArray} {dep : Int} {L : List Ev} {E : Int} {P : Nat} (h : evW b dep = (L, E, P)) : ∃ m, P ≤ b.size ∧ allTo b dep P = some (m, L) ∧ (E = 0 → m.done = true ∧ P = b.size) := by
  have hall : ∀ n, n ≤ b.size → (∃ m acc, allTo b dep n = some (m, acc)) ∨ ∃ i, i < b.size ∧ ∃ m acc, allTo b dep i = some (m, acc) ∧ (m.step (evMost dep) (bt b i)).1 ≠ 0 := by
    intro n
    induction n with
    | zero => intro _; exact .inl ⟨_, _, allTo_zero b dep⟩
    | succ n ih =>
      intro hn
      rcases ih (by omega) with ⟨m, acc, ha⟩ | hb
      · by_cases h1 : (m.step (evMost dep) (bt b n)).1 = 0
        · left
          obtain ⟨e, l, m', hs⟩ : ∃ e l m', m.step (evMost dep) (bt b n) = (e, l, m') := ⟨_, _, _, rfl⟩
          rw [hs] at h1
          obtain rfl : e = 0 := h1
          exact ⟨_, _, allTo_succ (by omega) ha hs⟩
        · exact .inr ⟨n, by omega, m, acc, ha, h1⟩
      · exact .inr hb
  rcases hall b.size (Nat.le_refl _) with ⟨m, acc, ha⟩ | ⟨i, hi, m, acc, ha, he⟩
  · have := allTo_end ha
    rw [h] at this
    simp only [Prod.mk.injEq] at this
    obtain ⟨rfl, h2, rfl⟩ := this
    refine ⟨m, Nat.le_refl _, ha, fun h0 => ⟨?_, rfl⟩⟩
    by_cases hd : m.done = true
    · exact hd
    · rw [if_neg hd] at h2; omega
  · obtain ⟨e, l, m', hs⟩ : ∃ e l m', m.step (evMost dep) (bt b i) = (e, l, m') := ⟨_, _, _, rfl⟩
    rw [hs] at he
    have := allTo_err hi ha hs he
    rw [h] at this
    simp only [Prod.mk.injEq] at this
    obtain ⟨rfl, rfl, rfl⟩ := this
    exact ⟨m, by omega, ha, fun h0 => absurd h0 he⟩
/-! ### One within the other -/
/-- How many are open, whether a primitive one is, and the last place. -/
structure NS where
  o : Int
  f : Bool
  p : Int
def NS.next (s : NS) (e : Ev) : NS := ⟨if e.k = 1 then s.o + 1 else if e.k = 5 then s.o - 1 else s.o, if e.k = 2 ∨ e.k = 4 then !s.f else s.f, e.at_⟩
structure NS.good (b : ByteArray) (M : Int) (s : NS) (e : Ev) : Prop where
  low : s.p ≤ e.at_
  high : e.at_ < b.size
  zero : 0 ≤ e.at_
  byte : e.k = 3 → s.f = true ∧ e.b = bt b e.at_.toNat
  lo : 0 ≤ (s.next e).o
  hi : (s.next e).o ≤ M
  leaf : (s.next e).f = (decide (e.k = 2) || decide (e.k = 3))
def NS.all (b : ByteArray) (M : Int) : NS → List Ev → Prop
  | _, [] => True
  | s, e :: r => s.good b M e ∧ NS.all b M (s.next e) r
def NS.run : NS → List Ev → NS
  | s, [] => s
  | s, e :: r => NS.run (s.next e) r
theorem NS.run_append (l r : List Ev) : ∀ s, NS.run s (l ++ r) = NS.run (NS.run s l) r := by
  induction l with
  | nil => intro s; rfl
  | cons e l ih => intro s; exact ih _
theorem NS.all_append {b : ByteArray} {M : Int} (l r : List Ev) : ∀ s, NS.all b M s (l ++ r) ↔ NS.all b M s l ∧ NS.all b M (NS.run s l) r := by
  induction l with
  | nil => intro s; exact ⟨fun h => ⟨trivial, h⟩, fun h => h.2⟩
  | cons e l ih => intro s; rw [List.cons_append, NS.all, NS.all, ih, and_assoc]; rfl
theorem NS.mk_good {b : ByteArray} {M : Int} {s s' : NS} {e : Ev} {p : Nat} (hn : s.next e = s') (ha : e.at_ = (p : Int)) (hp : p < b.size) (hq : s.p ≤ p) (hb : e.k = 3 → s.f = true ∧ e.b = bt b p) (h0 : 0 ≤ s'.o) (h1 : s'.o ≤ M) (hf : s'.f = (decide (e.k = 2) || decide (e.k = 3))) : s.good b M e :=
  ⟨by rw [ha]; exact hq, by rw [ha]; omega, by rw [ha]; omega, by rw [ha]; exact hb, by rw [hn]; exact h0, by rw [hn]; exact h1, by rw [hn]; exact hf⟩
/-- The ends of constructed elements. -/
theorem NS.pop {b : ByteArray} {M : Int} {p : Nat} (hp : p < b.size) : ∀ (st : List Int) (q : Int), q ≤ p → (st.length : Int) ≤ M → NS.all b M ⟨st.length, false, q⟩ (popE st p) ∧ ∃ q', q' ≤ (p : Int) ∧ NS.run ⟨st.length, false, q⟩ (popE st p) = ⟨(popS st).length, false, q'⟩ := by
  intro st
  induction st with
  | nil => intro q hq hM; exact ⟨trivial, q, hq, rfl⟩
  | cons x r ih =>
    intro q hq hM
    rw [popE, popS]
    by_cases h : x = 0
    · rw [if_pos h, if_pos h]
      have hn : NS.next ⟨((x :: r).length : Int), false, q⟩ (evExit p) = ⟨(r.length : Int), false, p⟩ := by
        unfold NS.next evExit
        simp
      have hM2 : (r.length : Int) ≤ M := by simp at hM; omega
      obtain ⟨i1, i2⟩ := ih p (Int.le_refl _) hM2
      refine ⟨⟨NS.mk_good hn rfl hp hq (fun h => absurd h (by show ¬ (5 : Int) = 3; decide)) (by show 0 ≤ (r.length : Int); omega) hM2 rfl, by rw [hn]; exact i1⟩, ?_⟩
      show ∃ q', q' ≤ (p : Int) ∧ NS.run (NS.next _ _) _ = _
      rw [hn]; exact i2
    · rw [if_neg h, if_neg h]; exact ⟨trivial, q, hq, rfl⟩
/-- What goes with a machine. -/
structure Nest (b : ByteArray) (d : Nat) (m : EM) (acc : List Ev) : Prop where
  all : NS.all b d ⟨0, false, 0⟩ acc
  run : ∃ q, q ≤ (m.at_ : Int) ∧ NS.run ⟨0, false, 0⟩ acc = ⟨m.st.length, decide (0 < m.leaf), q⟩
  len : m.st.length ≤ d
  over : m.done = true → m.st = [] ∧ m.leaf = 0
  hd : IsB m.hd
theorem nest_new (b : ByteArray) (d : Nat) : Nest b d EM.new [] := ⟨trivial, ⟨0, Int.le_refl _, rfl⟩, Nat.zero_le _, (fun h => by cases h), IsB.nil⟩
theorem nest_fin {b : ByteArray} {d : Nat} {acc l : List Ev} {st : List Int} {p : Nat} (hp : p < b.size) (hd : st.length ≤ d) (h : NS.all b d ⟨0, false, 0⟩ (acc ++ l)) {q : Int} (hq : q ≤ p) (hr : NS.run ⟨0, false, 0⟩ (acc ++ l) = ⟨st.length, false, q⟩) : Nest b d (EM.fin st (p + 1)) (acc ++ (l ++ popE st p)) := by
  obtain ⟨i1, q', i2, i3⟩ := NS.pop (b := b) (M := d) hp st q hq (by omega)
  rw [← List.append_assoc]
  refine ⟨(NS.all_append _ _ _).2 ⟨h, by rw [hr]; exact i1⟩, ⟨q', by show q' ≤ ((p + 1 : Nat) : Int); omega, by rw [NS.run_append, hr, i3]; rfl⟩, Nat.le_trans (popS_len st) hd, fun h => ⟨by simpa [EM.fin] using h, rfl⟩, IsB.nil⟩
theorem nest_step {b : ByteArray} {dep : Int} (i : Nat) (m m' : EM) (acc l : List Ev) (hi : i < b.size) (hat : m.at_ = i) (hQ : Nest b (evMost dep) m acc) (h : m.step (evMost dep) (bt b i) = (0, l, m')) : Nest b (evMost dep) m' (acc ++ l) := by
  obtain ⟨ho, hdn, hc⟩ := EM.step_cases h
  obtain ⟨q, hq, hr⟩ := hQ.run
  have hb0 := bt_nonneg b i
  have hb1 := bt_le b i
  subst hat
  have hlen := hQ.len
  have hM : (m.st.length : Int) ≤ (evMost dep : Nat) := by omega
  have hz : (0 : Int) ≤ (m.st.length : Int) := by omega
  rcases hc with ⟨h1, rfl, rfl⟩ | ⟨h1, rfl, rfl⟩ | ⟨h1, h2, h3, rfl, rfl⟩ | ⟨h1, h2, c, t, f, n, g, h3, h4, rfl, rfl⟩
  · have hr2 : NS.run ⟨0, false, 0⟩ acc = ⟨m.st.length, true, q⟩ := by rw [hr, h1]; rfl
    have n1 : NS.next ⟨m.st.length, true, q⟩ (evByte m.at_ (bt b m.at_)) = ⟨m.st.length, true, m.at_⟩ := by unfold NS.next evByte; simp
    have n2 : NS.next ⟨m.st.length, true, m.at_⟩ (evEnd m.at_) = ⟨m.st.length, false, m.at_⟩ := by unfold NS.next evEnd; simp
    refine nest_fin (l := [evByte m.at_ (bt b m.at_), evEnd m.at_]) hi hlen ((NS.all_append _ _ _).2 ⟨hQ.all, ?_⟩) (Int.le_refl _) ?_
    · rw [hr2]
      refine ⟨NS.mk_good n1 rfl hi hq (fun _ => ⟨rfl, rfl⟩) hz hM rfl, ?_⟩
      rw [n1]
      exact ⟨NS.mk_good n2 rfl hi (Int.le_refl _) (fun h => absurd h (by show ¬ (4 : Int) = 3; decide)) hz hM rfl, trivial⟩
    · rw [NS.run_append, hr2]
      show NS.run (NS.next (NS.next _ _) _) [] = _
      rw [n1, n2]; rfl
  · have hr2 : NS.run ⟨0, false, 0⟩ acc = ⟨m.st.length, true, q⟩ := by rw [hr, decide_eq_true (by omega : 0 < m.leaf)]
    have n1 : NS.next ⟨m.st.length, true, q⟩ (evByte m.at_ (bt b m.at_)) = ⟨m.st.length, true, m.at_⟩ := by unfold NS.next evByte; simp
    refine ⟨(NS.all_append _ _ _).2 ⟨hQ.all, ?_⟩, ⟨(m.at_ : Int), by show (m.at_ : Int) ≤ ((m.at_ + 1 : Nat) : Int); omega, ?_⟩, hlen, fun h => ?_, hQ.hd⟩
    · rw [hr2]
      exact ⟨NS.mk_good n1 rfl hi hq (fun _ => ⟨rfl, rfl⟩) hz hM rfl, trivial⟩
    · rw [NS.run_append, hr2]
      show NS.next _ _ = _
      rw [n1]
      show _ = NS.mk (m.st.length : Int) (decide (0 < m.leaf - 1)) _
      rw [decide_eq_true (by omega : 0 < m.leaf - 1)]
    · have h : m.done = true := h
      rw [hdn] at h; cases h
  · rw [List.append_nil]
    refine ⟨hQ.all, ⟨q, by show q ≤ ((m.at_ + 1 : Nat) : Int); omega, ?_⟩, by show (pays m.st 1).length ≤ _; rw [pays_length]; exact hlen, fun h => ?_, hQ.hd.append (IsB.cons hb0 hb1 IsB.nil)⟩
    · rw [hr]
      show _ = NS.mk ((pays m.st 1).length : Int) (decide (0 < m.leaf)) q
      rw [pays_length]
    · have h : m.done = true := h
      rw [hdn] at h; cases h
  · have hbd := hdGet_bd (m.hd ++ [bt b m.at_]) (hQ.hd.append (IsB.cons hb0 hb1 IsB.nil))
    rw [h3] at hbd
    obtain ⟨_, _, _, _, hn0, hn1⟩ := hbd
    simp only at hn0 hn1
    have hr2 : NS.run ⟨0, false, 0⟩ acc = ⟨m.st.length, false, q⟩ := by rw [hr, decide_eq_false (by omega : ¬ 0 < m.leaf)]
    have hpl := pays_length m.st 1
    cases f with
    | true =>
      rw [headL_open, headM_open]
      have hroom := headE_room h4
      rw [hpl] at hroom
      have hcl : (n :: pays (pays m.st 1) n).length = m.st.length + 1 := by rw [List.length_cons, pays_length, hpl]
      have n1 : NS.next ⟨m.st.length, false, q⟩ (evEnter m.at_ c t true n) = ⟨((n :: pays (pays m.st 1) n).length : Nat), false, m.at_⟩ := by rw [hcl]; unfold NS.next evEnter; simp
      refine nest_fin (l := [evEnter m.at_ c t true n]) hi (by rw [hcl]; exact hroom) ((NS.all_append _ _ _).2 ⟨hQ.all, ?_⟩) (Int.le_refl _) ?_
      · rw [hr2]
        exact ⟨NS.mk_good n1 rfl hi hq (fun h => absurd h (by show ¬ (1 : Int) = 3; decide)) (by show 0 ≤ (((n :: pays (pays m.st 1) n).length : Nat) : Int); omega) (by show (((n :: pays (pays m.st 1) n).length : Nat) : Int) ≤ _; rw [hcl]; omega) rfl, trivial⟩
      · rw [NS.run_append, hr2]
        show NS.next _ _ = _
        rw [n1]
    | false =>
      have n1 : NS.next ⟨m.st.length, false, q⟩ (evLeaf m.at_ c t false n) = ⟨m.st.length, true, m.at_⟩ := by unfold NS.next evLeaf; simp
      have n2 : NS.next ⟨m.st.length, true, m.at_⟩ (evEnd m.at_) = ⟨m.st.length, false, m.at_⟩ := by unfold NS.next evEnd; simp
      by_cases hn : n = 0
      · subst hn
        rw [headL_none, headM_none]
        refine nest_fin (l := [evLeaf m.at_ c t false 0, evEnd m.at_]) hi (by rw [hpl]; exact hlen) ((NS.all_append _ _ _).2 ⟨hQ.all, ?_⟩) (Int.le_refl _) ?_
        · rw [hr2]
          refine ⟨NS.mk_good n1 rfl hi hq (fun h => absurd h (by show ¬ (2 : Int) = 3; decide)) hz hM rfl, ?_⟩
          rw [n1]
          exact ⟨NS.mk_good n2 rfl hi (Int.le_refl _) (fun h => absurd h (by show ¬ (4 : Int) = 3; decide)) hz hM rfl, trivial⟩
        · rw [NS.run_append, hr2, hpl]
          show NS.run (NS.next (NS.next _ _) _) [] = _
          rw [n1, n2]; rfl
      · rw [headL_leaf hn, headM_leaf hn]
        refine ⟨(NS.all_append _ _ _).2 ⟨hQ.all, ?_⟩, ⟨(m.at_ : Int), by show (m.at_ : Int) ≤ ((m.at_ + 1 : Nat) : Int); omega, ?_⟩, by show (pays _ _).length ≤ _; rw [pays_length, hpl]; exact hlen, (fun h => by cases h), IsB.nil⟩
        · rw [hr2]
          exact ⟨NS.mk_good n1 rfl hi hq (fun h => absurd h (by show ¬ (2 : Int) = 3; decide)) hz hM rfl, trivial⟩
        · rw [NS.run_append, hr2]
          show NS.next _ _ = NS.mk ((pays (pays m.st 1) n).length : Int) (decide (0 < n)) _
          rw [n1, pays_length, hpl, decide_eq_true (by omega : 0 < n)]
theorem evW_nest {b : ByteArray} {dep : Int} {L : List Ev} {E : Int} {P : Nat} (h : evW b dep = (L, E, P)) : NS.all b (evMost dep) ⟨0, false, 0⟩ L ∧ (E = 0 → ∃ q, NS.run ⟨0, false, 0⟩ L = ⟨0, false, q⟩) := by
  obtain ⟨m, h1, h2, h3⟩ := evW_upto h
  have hN := allTo_ind (Q := fun m acc => Nest b (evMost dep) m acc) (nest_new b _) (fun i m m' acc l hi hat hQ hs => nest_step i m m' acc l hi hat hQ hs) P h1 m L h2
  refine ⟨hN.all, fun he => ?_⟩
  obtain ⟨hd, _⟩ := h3 he
  obtain ⟨q, _, hr⟩ := hN.run
  obtain ⟨o1, o2⟩ := hN.over hd
  refine ⟨q, ?_⟩
  rw [hr, o1, o2]; rfl
end Go.Proofs.Ytoklcnfpeipalaa
