/- Events, in plain words: a machine that takes an element byte by byte, and what the document's reference says of the whole text; they are one. They hold of numbers alone, under no condition on the program. -/
import Derived.Test.YtagigdefghnnhaaHead
namespace Go.Proofs.Ytagigdefghnnhaa
open Go.PlainAid
set_option linter.unusedVariables false
/-- An event: kind, place, class, tag, form, length, byte. -/
structure Ev where
  k : Int
  at_ : Int
  c : Int
  t : Int
  f : Bool
  n : Int
  b : Int
def evEnter (p : Nat) (c t : Int) (f : Bool) (n : Int) : Ev := ⟨1, p, c, t, f, n, 0⟩
def evLeaf (p : Nat) (c t : Int) (f : Bool) (n : Int) : Ev := ⟨2, p, c, t, f, n, 0⟩
def evByte (p : Nat) (x : Int) : Ev := ⟨3, p, 0, 0, false, 0, x⟩
def evEnd (p : Nat) : Ev := ⟨4, p, 0, 0, false, 0, 0⟩
def evExit (p : Nat) : Ev := ⟨5, p, 0, 0, false, 0, 0⟩
/-- The innermost one has so many fewer left. -/
def pays : List Int → Int → List Int
  | [], _ => []
  | x :: r, n => (x - n) :: r
/-- Those that have nothing left are over, the inner ones first. -/
def popS : List Int → List Int
  | [] => []
  | x :: r => if x = 0 then popS r else x :: r
def popE : List Int → Nat → List Ev
  | [], _ => []
  | x :: r, p => if x = 0 then evExit p :: popE r p else []
theorem pays_zero (l : List Int) : pays l 0 = l := by cases l <;> simp [pays]
theorem pays_pays (l : List Int) (a b : Int) : pays (pays l a) b = pays l (a + b) := by cases l <;> simp [pays]; omega
theorem pays_length (l : List Int) (a : Int) : (pays l a).length = l.length := by cases l <;> rfl
/-- A machine: what each open one has left, the bytes of a head that isn't whole, how many bytes of content are to come, how many bytes came, whether all is there, the error. -/
structure EM where
  st : List Int
  hd : List Int
  leaf : Int
  at_ : Nat
  done : Bool
  over : Int
def EM.fin (st : List Int) (p : Nat) : EM := ⟨popS st, [], 0, p, (popS st).isEmpty, 0⟩
/-- What is wrong with a head's last byte. -/
def headE (most : Nat) (st : List Int) (f : Bool) (n : Int) : Int :=
  match st with
  | [] => if f = true ∧ most ≤ 0 then 10 else 0
  | y :: r => if y < n then 5 else if f = true ∧ most ≤ (y :: r).length then 10 else 0
/-- What a whole head brings about; the machine behind it. -/
def headL (st : List Int) (p : Nat) (c t : Int) (f : Bool) (n : Int) : List Ev :=
  if f = true then evEnter p c t f n :: popE (n :: pays st n) p
  else if n = 0 then evLeaf p c t f n :: evEnd p :: popE st p
  else [evLeaf p c t f n]
def headM (st : List Int) (p : Nat) (f : Bool) (n : Int) : EM :=
  if f = true then EM.fin (n :: pays st n) (p + 1)
  else if n = 0 then EM.fin st (p + 1)
  else ⟨pays st n, [], n, p + 1, false, 0⟩
/-- A byte comes: the error, the events, the machine behind it. -/
def EM.step (most : Nat) (m : EM) (x : Int) : Int × List Ev × EM :=
  if m.over ≠ 0 then (m.over, [], m)
  else if m.done = true then (6, [], { m with over := 6 })
  else if 0 < m.leaf then
    (if m.leaf = 1 then (0, evByte m.at_ x :: evEnd m.at_ :: popE m.st m.at_, EM.fin m.st (m.at_ + 1))
     else (0, [evByte m.at_ x], { m with leaf := m.leaf - 1, at_ := m.at_ + 1 }))
  else if m.st.head? = some 0 then (5, [], { m with over := 5 })
  else if (hdGet (m.hd ++ [x])).2.2.2.2.2 = 2 then (0, [], { m with st := pays m.st 1, hd := m.hd ++ [x], at_ := m.at_ + 1 })
  else if (hdGet (m.hd ++ [x])).2.2.2.2.2 ≠ 0 then ((hdGet (m.hd ++ [x])).2.2.2.2.2, [], { m with over := (hdGet (m.hd ++ [x])).2.2.2.2.2 })
  else if headE most (pays m.st 1) (hdGet (m.hd ++ [x])).2.2.1 (hdGet (m.hd ++ [x])).2.2.2.1 ≠ 0 then
    (headE most (pays m.st 1) (hdGet (m.hd ++ [x])).2.2.1 (hdGet (m.hd ++ [x])).2.2.2.1, [], { m with over := headE most (pays m.st 1) (hdGet (m.hd ++ [x])).2.2.1 (hdGet (m.hd ++ [x])).2.2.2.1 })
  else (0, headL (pays m.st 1) m.at_ (hdGet (m.hd ++ [x])).1 (hdGet (m.hd ++ [x])).2.1 (hdGet (m.hd ++ [x])).2.2.1 (hdGet (m.hd ++ [x])).2.2.2.1, headM (pays m.st 1) m.at_ (hdGet (m.hd ++ [x])).2.2.1 (hdGet (m.hd ++ [x])).2.2.2.1)
/-- All bytes: the events, the error, its place. -/
def EM.run (most : Nat) : EM → List Int → List Ev → List Ev × Int × Nat
  | m, [], acc => (acc, if m.done = true then 0 else 2, m.at_)
  | m, x :: r, acc => if (m.step most x).1 ≠ 0 then (acc, (m.step most x).1, m.at_) else EM.run most (m.step most x).2.2 r (acc ++ (m.step most x).2.1)
def EM.new : EM := ⟨[], [], 0, 0, false, 0⟩
def evWhole (most : Nat) (l : List Int) : List Ev × Int × Nat := EM.run most EM.new l []
/-! ### The reference's element, by definition -/
/-- The head that begins at a place: class, tag, form, length; the place of its last byte; the error. -/
def startL (hd : List Int) : List Int → Nat → Int → (Int × Int × Bool × Int) × Nat × Int
  | [], i, _ => ((0, 0, false, 0), i, 2)
  | x :: r, i, e =>
    if (i : Int) = e then ((0, 0, false, 0), i, 5)
    else if (hdGet (hd ++ [x])).2.2.2.2.2 = 0 then (((hdGet (hd ++ [x])).1, (hdGet (hd ++ [x])).2.1, (hdGet (hd ++ [x])).2.2.1, (hdGet (hd ++ [x])).2.2.2.1), i, 0)
    else if (hdGet (hd ++ [x])).2.2.2.2.2 ≠ 2 then ((0, 0, false, 0), i, (hdGet (hd ++ [x])).2.2.2.2.2)
    else startL (hd ++ [x]) r (i + 1) e
def bytesE : List Int → Nat → List Ev
  | [], _ => []
  | x :: r, i => evByte i x :: bytesE r (i + 1)
/-- What an element brings about: the events, the error, the place. -/
structure Told where
  l : List Ev
  e : Int
  at_ : Nat
def leafP (b : List Int) (p : Nat) (n : Int) : Told :=
  if n = 0 then ⟨[evEnd (p - 1)], 0, p⟩
  else if ((b.drop p).length : Int) < n then ⟨bytesE (b.drop p) p, 2, b.length⟩
  else ⟨bytesE ((b.drop p).take n.toNat) p ++ [evEnd (p + n.toNat - 1)], 0, p + n.toNat⟩
/-- Elements one behind the other, up to an end. -/
def loopP (el : Nat → Told) : Nat → Told → Int → Told
  | 0, t, _ => t
  | g + 1, t, e => if (t.at_ : Int) < e then (if (el t.at_).e ≠ 0 then ⟨t.l ++ (el t.at_).l, (el t.at_).e, (el t.at_).at_⟩ else loopP el g ⟨t.l ++ (el t.at_).l, 0, (el t.at_).at_⟩ e) else t
/-- An element that begins at a place, up to an end, with room for so many more within each other. -/
def elemP (b : List Int) : Nat → Nat → Int → Told
  | d, i, e =>
    let s := startL [] (b.drop i) i e
    if s.2.2 ≠ 0 then ⟨[], s.2.2, s.2.1⟩
    else if 0 ≤ e ∧ e - (s.2.1 + 1 : Nat) < s.1.2.2.2 then ⟨[], 5, s.2.1⟩
    else if s.1.2.2.1 = false then ⟨evLeaf s.2.1 s.1.1 s.1.2.1 s.1.2.2.1 s.1.2.2.2 :: (leafP b (s.2.1 + 1) s.1.2.2.2).l, (leafP b (s.2.1 + 1) s.1.2.2.2).e, (leafP b (s.2.1 + 1) s.1.2.2.2).at_⟩
    else match d with
      | 0 => ⟨[], 10, s.2.1⟩
      | d + 1 =>
        let t := loopP (fun i => elemP b d i ((s.2.1 + 1 : Nat) + s.1.2.2.2)) (b.length + 1) ⟨[evEnter s.2.1 s.1.1 s.1.2.1 s.1.2.2.1 s.1.2.2.2], 0, s.2.1 + 1⟩ ((s.2.1 + 1 : Nat) + s.1.2.2.2)
        if t.e ≠ 0 then t else ⟨t.l ++ [evExit (t.at_ - 1)], 0, t.at_⟩
/-! ### They are one -/
/-- The end that a machine's innermost element has. -/
def EndAt (st : List Int) (i : Nat) (e : Int) : Prop := (st = [] ∧ e = -1) ∨ ∃ y q, st = y :: q ∧ 0 ≤ y ∧ e = i + y
theorem EndAt.step {st : List Int} {i : Nat} {e : Int} (h : EndAt st i e) (hne : (i : Int) ≠ e) : EndAt (pays st 1) (i + 1) e := by
  rcases h with ⟨rfl, rfl⟩ | ⟨y, q, rfl, h0, rfl⟩
  · exact .inl ⟨rfl, rfl⟩
  · exact .inr ⟨y - 1, q, rfl, by omega, by omega⟩
theorem head_run (most : Nat) (r : List Int) : ∀ (st hd : List Int) (i : Nat) (e : Int) (acc : List Ev), EndAt st i e →
    ((startL hd r i e).2.2 ≠ 0 → EM.run most ⟨st, hd, 0, i, false, 0⟩ r acc = (acc, (startL hd r i e).2.2, (startL hd r i e).2.1)) ∧
    ((startL hd r i e).2.2 = 0 → ∃ k, (startL hd r i e).2.1 = i + k ∧ k < r.length ∧ EndAt (pays st ((k : Int) + 1)) (i + k + 1) e ∧
      ∃ g, hdGet (hd ++ r.take (k + 1)) = ((startL hd r i e).1.1, (startL hd r i e).1.2.1, (startL hd r i e).1.2.2.1, (startL hd r i e).1.2.2.2, g, 0) ∧
      EM.run most ⟨st, hd, 0, i, false, 0⟩ r acc =
        if headE most (pays st ((k : Int) + 1)) (startL hd r i e).1.2.2.1 (startL hd r i e).1.2.2.2 ≠ 0 then (acc, headE most (pays st ((k : Int) + 1)) (startL hd r i e).1.2.2.1 (startL hd r i e).1.2.2.2, i + k)
        else EM.run most (headM (pays st ((k : Int) + 1)) (i + k) (startL hd r i e).1.2.2.1 (startL hd r i e).1.2.2.2) (r.drop (k + 1)) (acc ++ headL (pays st ((k : Int) + 1)) (i + k) (startL hd r i e).1.1 (startL hd r i e).1.2.1 (startL hd r i e).1.2.2.1 (startL hd r i e).1.2.2.2)) := by
  induction r with
  | nil =>
    intro st hd i e acc he
    refine ⟨fun _ => rfl, fun h => absurd h (by simp [startL])⟩
  | cons x r ih =>
    intro st hd i e acc he
    by_cases h5 : (i : Int) = e
    · have hs : startL hd (x :: r) i e = ((0, 0, false, 0), i, 5) := by rw [startL, if_pos h5]
      have h0 : st.head? = some 0 := by
        rcases he with ⟨rfl, h⟩ | ⟨y, q, rfl, h0, h⟩
        · omega
        · have : y = 0 := by omega
          subst this; rfl
      rw [hs]
      refine ⟨fun _ => ?_, fun h => absurd h (by simp)⟩
      have hst : EM.step most ⟨st, hd, 0, i, false, 0⟩ x = (5, [], ⟨st, hd, 0, i, false, 5⟩) := by
        unfold EM.step
        rw [if_neg (by simp), if_neg (by simp), if_neg (by simp), if_pos h0]
      rw [EM.run, hst]; rfl
    · have hn0 : st.head? ≠ some 0 := by
        rcases he with ⟨rfl, h⟩ | ⟨y, q, rfl, h0, h⟩
        · simp
        · simp; omega
      by_cases g2 : (hdGet (hd ++ [x])).2.2.2.2.2 = 2
      · have hs : startL hd (x :: r) i e = startL (hd ++ [x]) r (i + 1) e := by
          rw [startL, if_neg h5, if_neg (by rw [g2]; decide), if_neg (by rw [g2]; decide)]
        have hst : EM.step most ⟨st, hd, 0, i, false, 0⟩ x = (0, [], ⟨pays st 1, hd ++ [x], 0, i + 1, false, 0⟩) := by
          unfold EM.step
          rw [if_neg (by simp), if_neg (by simp), if_neg (by simp), if_neg hn0, if_pos g2]
        have hrun : EM.run most ⟨st, hd, 0, i, false, 0⟩ (x :: r) acc = EM.run most ⟨pays st 1, hd ++ [x], 0, i + 1, false, 0⟩ r acc := by
          rw [EM.run, hst, if_neg (by simp)]
          simp
        rw [hs, hrun]
        obtain ⟨i1, i2⟩ := ih (pays st 1) (hd ++ [x]) (i + 1) e acc (he.step h5)
        refine ⟨i1, fun h => ?_⟩
        obtain ⟨k, k1, k2, k3, g, k4, k5⟩ := i2 h
        refine ⟨k + 1, by omega, by simp; omega, ?_, g, ?_, ?_⟩
        · rw [pays_pays, show (1 : Int) + ((k : Int) + 1) = (((k + 1 : Nat) : Int) + 1) by omega, show i + 1 + k + 1 = i + (k + 1) + 1 by omega] at k3
          exact k3
        · rw [List.take_succ_cons, ← k4, List.append_assoc]; rfl
        · rw [k5, pays_pays, show (1 : Int) + ((k : Int) + 1) = (((k + 1 : Nat) : Int) + 1) by omega, show i + 1 + k = i + (k + 1) by omega, List.drop_succ_cons]
      · by_cases g0 : (hdGet (hd ++ [x])).2.2.2.2.2 = 0
        · have hs : startL hd (x :: r) i e = (((hdGet (hd ++ [x])).1, (hdGet (hd ++ [x])).2.1, (hdGet (hd ++ [x])).2.2.1, (hdGet (hd ++ [x])).2.2.2.1), i, 0) := by
            rw [startL, if_neg h5, if_pos g0]
          rw [hs]
          refine ⟨fun h => absurd rfl h, fun _ => ⟨0, rfl, by simp, ?_, (hdGet (hd ++ [x])).2.2.2.2.1, ?_, ?_⟩⟩
          · exact he.step h5
          · show hdGet (hd ++ [x]) = _
            rw [← g0]
          · have hst : EM.step most ⟨st, hd, 0, i, false, 0⟩ x = if headE most (pays st 1) (hdGet (hd ++ [x])).2.2.1 (hdGet (hd ++ [x])).2.2.2.1 ≠ 0 then
                (headE most (pays st 1) (hdGet (hd ++ [x])).2.2.1 (hdGet (hd ++ [x])).2.2.2.1, [], ⟨st, hd, 0, i, false, headE most (pays st 1) (hdGet (hd ++ [x])).2.2.1 (hdGet (hd ++ [x])).2.2.2.1⟩)
                else (0, headL (pays st 1) i (hdGet (hd ++ [x])).1 (hdGet (hd ++ [x])).2.1 (hdGet (hd ++ [x])).2.2.1 (hdGet (hd ++ [x])).2.2.2.1, headM (pays st 1) i (hdGet (hd ++ [x])).2.2.1 (hdGet (hd ++ [x])).2.2.2.1) := by
              unfold EM.step
              rw [if_neg (by simp), if_neg (by simp), if_neg (by simp), if_neg hn0, if_neg g2, if_neg (by rw [g0]; simp)]
            by_cases hE : headE most (pays st 1) (hdGet (hd ++ [x])).2.2.1 (hdGet (hd ++ [x])).2.2.2.1 = 0
            · rw [if_neg (by simpa using hE)] at hst
              rw [EM.run, hst]
              show (if (0 : Int) ≠ 0 then _ else _) = if headE most (pays st 1) (hdGet (hd ++ [x])).2.2.1 (hdGet (hd ++ [x])).2.2.2.1 ≠ 0 then _ else _
              rw [if_neg (by simp), if_neg (by simpa using hE)]; rfl
            · rw [if_pos hE] at hst
              rw [EM.run, hst]
              show (if headE most (pays st 1) (hdGet (hd ++ [x])).2.2.1 (hdGet (hd ++ [x])).2.2.2.1 ≠ 0 then _ else _) = if headE most (pays st 1) (hdGet (hd ++ [x])).2.2.1 (hdGet (hd ++ [x])).2.2.2.1 ≠ 0 then _ else _
              rw [if_pos hE, if_pos hE]; rfl
        · have hs : startL hd (x :: r) i e = ((0, 0, false, 0), i, (hdGet (hd ++ [x])).2.2.2.2.2) := by
            rw [startL, if_neg h5, if_neg g0, if_pos g2]
          rw [hs]
          refine ⟨fun _ => ?_, fun h => absurd h g0⟩
          have hst : EM.step most ⟨st, hd, 0, i, false, 0⟩ x = ((hdGet (hd ++ [x])).2.2.2.2.2, [], ⟨st, hd, 0, i, false, (hdGet (hd ++ [x])).2.2.2.2.2⟩) := by
            unfold EM.step
            rw [if_neg (by simp), if_neg (by simp), if_neg (by simp), if_neg hn0, if_neg g2, if_pos g0]
          rw [EM.run, hst, if_pos g0]
/-- A primitive one's content. -/
theorem leaf_run (most : Nat) (st : List Int) : ∀ (n : Nat) (r : List Int) (i : Nat) (acc : List Ev),
    EM.run most ⟨st, [], (n : Int) + 1, i, false, 0⟩ r acc =
      if r.length < n + 1 then (acc ++ bytesE r i, 2, i + r.length)
      else EM.run most (EM.fin st (i + n + 1)) (r.drop (n + 1)) (acc ++ bytesE (r.take (n + 1)) i ++ evEnd (i + n) :: popE st (i + n)) := by
  intro n
  induction n with
  | zero =>
    intro r i acc
    cases r with
    | nil => simp [EM.run, bytesE]
    | cons x r =>
      rw [EM.run]
      have hst : EM.step most ⟨st, [], ((0 : Nat) : Int) + 1, i, false, 0⟩ x = (0, evByte i x :: evEnd i :: popE st i, EM.fin st (i + 1)) := by
        unfold EM.step
        rw [if_neg (by simp), if_neg (by simp), if_pos (by simp), if_pos (by simp)]
      rw [hst, if_neg (by simp), if_neg (by simp)]
      simp [bytesE]
  | succ n ih =>
    intro r i acc
    cases r with
    | nil => simp [EM.run, bytesE]
    | cons x r =>
      rw [EM.run]
      have hst : EM.step most ⟨st, [], ((n + 1 : Nat) : Int) + 1, i, false, 0⟩ x = (0, [evByte i x], ⟨st, [], (n : Int) + 1, i + 1, false, 0⟩) := by
        unfold EM.step
        rw [if_neg (by simp), if_neg (by simp), if_pos (by show (0 : Int) < ((n + 1 : Nat) : Int) + 1; omega), if_neg (by show ¬ ((n + 1 : Nat) : Int) + 1 = 1; omega)]
        show (_, _, EM.mk st [] (((n + 1 : Nat) : Int) + 1 - 1) (i + 1) false 0) = _
        rw [show ((n + 1 : Nat) : Int) + 1 - 1 = (n : Int) + 1 by omega]
      rw [hst, if_neg (by simp)]
      show EM.run most ⟨st, [], (n : Int) + 1, i + 1, false, 0⟩ r (acc ++ [evByte i x]) = _
      rw [ih]
      by_cases h : r.length < n + 1
      · rw [if_pos h, if_pos (by simp; omega)]
        simp [bytesE]; omega
      · rw [if_neg h, if_neg (by simp; omega)]
        rw [List.drop_succ_cons, List.take_succ_cons, show i + 1 + n + 1 = i + (n + 1) + 1 by omega, show i + 1 + n = i + (n + 1) by omega]
        simp [bytesE]
theorem fin_pos {y : Int} {q : List Int} {p : Nat} (h : y ≠ 0) : EM.fin (y :: q) p = ⟨y :: q, [], 0, p, false, 0⟩ := by
  unfold EM.fin popS
  rw [if_neg h]; rfl
theorem fin_zero (q : List Int) (p : Nat) : EM.fin (0 :: q) p = EM.fin q p := by
  unfold EM.fin
  rw [show popS (0 :: q) = popS q by rw [popS, if_pos rfl]]
theorem popE_pos {y : Int} {q : List Int} {p : Nat} (h : y ≠ 0) : popE (y :: q) p = [] := by rw [popE, if_neg h]
theorem popE_zero (q : List Int) (p : Nat) : popE (0 :: q) p = evExit p :: popE q p := by rw [popE, if_pos rfl]
theorem EndAt.pay {st : List Int} {i : Nat} {e : Int} (h : EndAt st i e) (n : Nat) (hn : st = [] ∨ (i : Int) + n ≤ e) : EndAt (pays st (n : Int)) (i + n) e := by
  rcases h with ⟨rfl, rfl⟩ | ⟨y, q, rfl, h0, rfl⟩
  · exact .inl ⟨rfl, rfl⟩
  · rcases hn with h | h
    · cases h
    · exact .inr ⟨y - n, q, rfl, by omega, by omega⟩
/-- What an element's machine is told of, for the elements within it. -/
def ElemRun (b : List Int) (d : Nat) : Prop := ∀ (st : List Int) (i : Nat) (e : Int) (acc : List Ev), EndAt st i e → i ≤ b.length →
  ((elemP b d i e).e ≠ 0 → EM.run (st.length + d) ⟨st, [], 0, i, false, 0⟩ (b.drop i) acc = (acc ++ (elemP b d i e).l, (elemP b d i e).e, (elemP b d i e).at_)) ∧
  ((elemP b d i e).e = 0 → ∃ k : Nat, (elemP b d i e).at_ = i + k ∧ 0 < k ∧ i + k ≤ b.length ∧ EndAt (pays st (k : Int)) (i + k) e ∧
    EM.run (st.length + d) ⟨st, [], 0, i, false, 0⟩ (b.drop i) acc = EM.run (st.length + d) (EM.fin (pays st (k : Int)) (i + k)) (b.drop (i + k)) (acc ++ (elemP b d i e).l ++ popE (pays st (k : Int)) (i + k - 1)))
theorem loop_run {b : List Int} {d : Nat} (H : ElemRun b d) (st : List Int) (E : Nat) (acc : List Ev) : ∀ (g : Nat) (t : Told), t.e = 0 → t.at_ ≤ E → t.at_ ≤ b.length → b.length + 1 - t.at_ ≤ g →
    ((loopP (fun i => elemP b d i E) g t E).e ≠ 0 → EM.run (st.length + 1 + d) (EM.fin (((E : Int) - t.at_) :: st) t.at_) (b.drop t.at_) (acc ++ t.l ++ popE (((E : Int) - t.at_) :: st) (t.at_ - 1)) = (acc ++ (loopP (fun i => elemP b d i E) g t E).l, (loopP (fun i => elemP b d i E) g t E).e, (loopP (fun i => elemP b d i E) g t E).at_)) ∧
    ((loopP (fun i => elemP b d i E) g t E).e = 0 → (loopP (fun i => elemP b d i E) g t E).at_ = E ∧ E ≤ b.length ∧
      EM.run (st.length + 1 + d) (EM.fin (((E : Int) - t.at_) :: st) t.at_) (b.drop t.at_) (acc ++ t.l ++ popE (((E : Int) - t.at_) :: st) (t.at_ - 1)) = EM.run (st.length + 1 + d) (EM.fin (0 :: st) E) (b.drop E) (acc ++ (loopP (fun i => elemP b d i E) g t E).l ++ popE (0 :: st) (E - 1))) := by
  intro g
  induction g with
  | zero => intro t h0 h1 h2 h3; omega
  | succ g ih =>
    intro t h0 h1 h2 h3
    by_cases hlt : (t.at_ : Int) < E
    · have hne : ((E : Int) - t.at_) ≠ 0 := by omega
      rw [fin_pos hne, popE_pos hne, List.append_nil]
      obtain ⟨H1, H2⟩ := H (((E : Int) - t.at_) :: st) t.at_ E (acc ++ t.l) (.inr ⟨_, st, rfl, by omega, by omega⟩) h2
      rw [List.length_cons] at H1 H2
      by_cases he : (elemP b d t.at_ E).e = 0
      · obtain ⟨k, k1, k2, k3, k4, k5⟩ := H2 he
        have hl : loopP (fun i => elemP b d i E) (g + 1) t E = loopP (fun i => elemP b d i E) g ⟨t.l ++ (elemP b d t.at_ E).l, 0, (elemP b d t.at_ E).at_⟩ E := by
          rw [loopP, if_pos hlt, if_neg (by simpa using he)]
        rw [hl, k5, k1]
        have hE : t.at_ + k ≤ E := by
          rcases k4 with ⟨h, _⟩ | ⟨y, q, h, hy, he2⟩
          · simp [pays] at h
          · omega
        have hp : pays (((E : Int) - t.at_) :: st) (k : Int) = ((E : Int) - ((t.at_ + k : Nat) : Int)) :: st := by
          show ((E : Int) - t.at_ - k) :: st = _
          congr 1; omega
        rw [hp]
        have := ih ⟨t.l ++ (elemP b d t.at_ E).l, 0, t.at_ + k⟩ rfl hE k3 (by show b.length + 1 - (t.at_ + k) ≤ g; omega)
        simp only [List.append_assoc] at this ⊢
        exact this
      · have hl : loopP (fun i => elemP b d i E) (g + 1) t E = ⟨t.l ++ (elemP b d t.at_ E).l, (elemP b d t.at_ E).e, (elemP b d t.at_ E).at_⟩ := by
          rw [loopP, if_pos hlt, if_pos he]
        rw [hl]
        refine ⟨fun _ => ?_, fun h => absurd h he⟩
        rw [H1 he, List.append_assoc]
    · have ht : t.at_ = E := by omega
      have hl : loopP (fun i => elemP b d i E) (g + 1) t E = t := by rw [loopP, if_neg hlt]
      rw [hl]
      refine ⟨fun h => absurd h0 h, fun _ => ⟨ht, by omega, ?_⟩⟩
      rw [ht, Int.sub_self]
theorem headE_fit {most : Nat} {st : List Int} {i : Nat} {e n : Int} {f : Bool} (h : EndAt st i e) (hf : 0 ≤ e ∧ e - i < n) : headE most st f n = 5 := by
  rcases h with ⟨rfl, rfl⟩ | ⟨y, q, rfl, h0, rfl⟩
  · omega
  · unfold headE
    show (if y < n then (5 : Int) else _) = 5
    rw [if_pos (by omega)]
theorem headE_in {most : Nat} {st : List Int} {i : Nat} {e n : Int} {f : Bool} (h : EndAt st i e) (hf : ¬ (0 ≤ e ∧ e - i < n)) : headE most st f n = if f = true ∧ most ≤ st.length then 10 else 0 := by
  rcases h with ⟨rfl, rfl⟩ | ⟨y, q, rfl, h0, rfl⟩
  · rfl
  · unfold headE
    show (if y < n then (5 : Int) else _) = _
    rw [if_neg (by omega)]
theorem fits {st : List Int} {i : Nat} {e n : Int} (h : EndAt st i e) (hf : ¬ (0 ≤ e ∧ e - i < n)) : st = [] ∨ (i : Int) + n ≤ e := by
  rcases h with ⟨rfl, rfl⟩ | ⟨y, q, rfl, h0, rfl⟩
  · exact .inl rfl
  · right; omega
theorem pays_nil {st : List Int} (h : st = []) (k : Int) : pays st k = [] := by subst h; rfl
section
variable {b : List Int} {i : Nat} {e : Int} {c t : Int} {f : Bool} {n : Int} {p : Nat} {er : Int}
theorem elemP_err (d : Nat) (hs : startL [] (b.drop i) i e = ((c, t, f, n), p, er)) (h : er ≠ 0) : elemP b d i e = ⟨[], er, p⟩ := by
  cases d <;> rw [elemP] <;> rw [hs] <;> exact if_pos h
theorem elemP_fit (d : Nat) (hs : startL [] (b.drop i) i e = ((c, t, f, n), p, 0)) (h : 0 ≤ e ∧ e - ((p + 1 : Nat) : Int) < n) : elemP b d i e = ⟨[], 5, p⟩ := by
  cases d <;> rw [elemP] <;> rw [hs] <;> exact (if_neg (fun h => h rfl)).trans (if_pos h)
theorem elemP_leaf (d : Nat) (hs : startL [] (b.drop i) i e = ((c, t, false, n), p, 0)) (h : ¬ (0 ≤ e ∧ e - ((p + 1 : Nat) : Int) < n)) : elemP b d i e = ⟨evLeaf p c t false n :: (leafP b (p + 1) n).l, (leafP b (p + 1) n).e, (leafP b (p + 1) n).at_⟩ := by
  cases d <;> rw [elemP] <;> rw [hs] <;> exact (if_neg (fun h => h rfl)).trans ((if_neg h).trans (if_pos rfl))
theorem elemP_deep (hs : startL [] (b.drop i) i e = ((c, t, true, n), p, 0)) (h : ¬ (0 ≤ e ∧ e - ((p + 1 : Nat) : Int) < n)) : elemP b 0 i e = ⟨[], 10, p⟩ := by
  rw [elemP, hs]; exact (if_neg (fun h => h rfl)).trans ((if_neg h).trans (if_neg (by simp)))
theorem elemP_open (d : Nat) (hs : startL [] (b.drop i) i e = ((c, t, true, n), p, 0)) (h : ¬ (0 ≤ e ∧ e - ((p + 1 : Nat) : Int) < n)) : elemP b (d + 1) i e =
    if (loopP (fun i => elemP b d i (((p + 1 : Nat) : Int) + n)) (b.length + 1) ⟨[evEnter p c t true n], 0, p + 1⟩ (((p + 1 : Nat) : Int) + n)).e ≠ 0 then loopP (fun i => elemP b d i (((p + 1 : Nat) : Int) + n)) (b.length + 1) ⟨[evEnter p c t true n], 0, p + 1⟩ (((p + 1 : Nat) : Int) + n)
    else ⟨(loopP (fun i => elemP b d i (((p + 1 : Nat) : Int) + n)) (b.length + 1) ⟨[evEnter p c t true n], 0, p + 1⟩ (((p + 1 : Nat) : Int) + n)).l ++ [evExit ((loopP (fun i => elemP b d i (((p + 1 : Nat) : Int) + n)) (b.length + 1) ⟨[evEnter p c t true n], 0, p + 1⟩ (((p + 1 : Nat) : Int) + n)).at_ - 1)], 0, (loopP (fun i => elemP b d i (((p + 1 : Nat) : Int) + n)) (b.length + 1) ⟨[evEnter p c t true n], 0, p + 1⟩ (((p + 1 : Nat) : Int) + n)).at_⟩ := by
  rw [elemP, hs]; exact (if_neg (fun h => h rfl)).trans ((if_neg h).trans (if_neg (by simp)))
end
theorem elem_step (b : List Int) (hb : IsB b) (d : Nat) (H : d ≠ 0 → ElemRun b (d - 1)) : ElemRun b d := by
  intro st i e acc he hi
  obtain ⟨A1, A2⟩ := head_run (st.length + d) (b.drop i) st [] i e acc he
  obtain ⟨c, t, f, n, p, er, hs⟩ : ∃ c t f n p er, startL [] (b.drop i) i e = ((c, t, f, n), p, er) := ⟨_, _, _, _, _, _, rfl⟩
  rw [hs] at A1 A2
  simp only at A1 A2
  by_cases h0 : er = 0
  · subst h0
    obtain ⟨k, hp, hk, hend, g, hg, hrun⟩ := A2 rfl
    subst hp
    have hbd := hdGet_bd ((b.drop i).take (k + 1)) ((hb.drop i).take _)
    rw [List.nil_append] at hg
    rw [hg] at hbd
    obtain ⟨_, _, _, _, hn0, hn1⟩ := hbd
    simp only at hn0 hn1
    obtain ⟨m, rfl⟩ := Int.eq_ofNat_of_zero_le hn0
    rw [List.length_drop] at hk
    have hdd : (b.drop i).drop (k + 1) = b.drop (i + k + 1) := by rw [List.drop_drop, Nat.add_assoc]
    have hk1 : ((k : Int) + 1) = ((k + 1 : Nat) : Int) := by omega
    by_cases hfit : 0 ≤ e ∧ e - ((i + k + 1 : Nat) : Int) < (m : Int)
    · rw [elemP_fit d hs hfit]
      refine ⟨fun _ => ?_, fun h => absurd h (by simp)⟩
      rw [hrun, headE_fit hend hfit, if_pos (by decide)]
      simp
    · have hE := headE_in (most := st.length + d) (f := f) hend hfit
      have hft := fits hend hfit
      cases f with
      | false =>
        have hel := elemP_leaf d hs hfit
        rw [if_neg (by simp)] at hE
        rw [hE, if_neg (by simp), hdd] at hrun
        by_cases hm : (m : Int) = 0
        · have hleaf : leafP b (i + k + 1) (m : Int) = ⟨[evEnd (i + k)], 0, i + k + 1⟩ := by unfold leafP; rw [if_pos hm]; rfl
          rw [hleaf] at hel
          rw [hel]
          refine ⟨fun h => absurd rfl h, fun _ => ⟨k + 1, rfl, by omega, by omega, by rw [← hk1]; exact hend, ?_⟩⟩
          rw [hrun]
          unfold headM headL
          rw [if_neg (by simp), if_pos hm, if_neg (by simp), if_pos hm, hk1]
          simp [Nat.add_assoc]
        · obtain ⟨m', rfl⟩ : ∃ m', m = m' + 1 := ⟨m - 1, by omega⟩
          have hM : headM (pays st ((k : Int) + 1)) (i + k) false ((m' + 1 : Nat) : Int) = ⟨pays (pays st ((k : Int) + 1)) ((m' + 1 : Nat) : Int), [], (m' : Int) + 1, i + k + 1, false, 0⟩ := by
            unfold headM
            rw [if_neg (by simp), if_neg hm]; congr 1
          have hL : headL (pays st ((k : Int) + 1)) (i + k) c t false ((m' + 1 : Nat) : Int) = [evLeaf (i + k) c t false ((m' + 1 : Nat) : Int)] := by
            unfold headL
            rw [if_neg (by simp), if_neg hm]
          rw [hM, hL, leaf_run] at hrun
          have hdl : (b.drop (i + k + 1)).length = b.length - (i + k + 1) := List.length_drop
          have hbl : i + k + 1 + (b.length - (i + k + 1)) = b.length := by omega
          by_cases hlen : (b.drop (i + k + 1)).length < m' + 1
          · rw [if_pos hlen] at hrun
            have hleaf : leafP b (i + k + 1) ((m' + 1 : Nat) : Int) = ⟨bytesE (b.drop (i + k + 1)) (i + k + 1), 2, b.length⟩ := by unfold leafP; rw [if_neg hm, if_pos (by omega)]
            rw [hleaf] at hel
            rw [hel]
            refine ⟨fun _ => ?_, fun h => absurd h (by simp)⟩
            rw [hrun, hdl, hbl]
            simp
          · rw [if_neg hlen] at hrun
            have hleaf : leafP b (i + k + 1) ((m' + 1 : Nat) : Int) = ⟨bytesE ((b.drop (i + k + 1)).take (m' + 1)) (i + k + 1) ++ [evEnd (i + k + 1 + m')], 0, i + k + 1 + (m' + 1)⟩ := by
              unfold leafP; rw [if_neg hm, if_neg (by omega), Int.toNat_natCast]; rfl
            rw [hleaf] at hel
            rw [hel]
            have hpp : pays (pays st ((k : Int) + 1)) ((m' + 1 : Nat) : Int) = pays st ((k + 1 + (m' + 1) : Nat) : Int) := by rw [pays_pays]; congr 1 <;> omega
            refine ⟨fun h => absurd rfl h, fun _ => ⟨k + 1 + (m' + 1), by show i + k + 1 + (m' + 1) = _; omega, by omega, by omega, ?_, ?_⟩⟩
            · have := hend.pay (m' + 1) (by
                rcases hft with h | h
                · exact .inl h
                · right; omega)
              rw [hpp, show i + k + 1 + (m' + 1) = i + (k + 1 + (m' + 1)) by omega] at this
              exact this
            · rw [hrun, hpp, List.drop_drop, show i + k + 1 + m' + 1 = i + (k + 1 + (m' + 1)) by omega, show i + k + 1 + (m' + 1) = i + (k + 1 + (m' + 1)) by omega, show i + (k + 1 + (m' + 1)) - 1 = i + k + 1 + m' by omega]
              simp
      | true =>
        cases d with
        | zero =>
          rw [if_pos ⟨rfl, by rw [pays_length]; omega⟩] at hE
          rw [elemP_deep hs hfit]
          refine ⟨fun _ => ?_, fun h => absurd h (by simp)⟩
          rw [hrun, hE, if_pos (by decide)]
          simp
        | succ d =>
          rw [if_neg (by rw [pays_length]; omega)] at hE
          have hM : headM (pays st ((k : Int) + 1)) (i + k) true (m : Int) = EM.fin ((m : Int) :: pays (pays st ((k : Int) + 1)) (m : Int)) (i + k + 1) := by unfold headM; rw [if_pos rfl]
          have hL : headL (pays st ((k : Int) + 1)) (i + k) c t true (m : Int) = evEnter (i + k) c t true (m : Int) :: popE ((m : Int) :: pays (pays st ((k : Int) + 1)) (m : Int)) (i + k) := by unfold headL; rw [if_pos rfl]
          rw [hE, if_neg (by simp), hdd, hM, hL] at hrun
          have hpp : pays (pays st ((k : Int) + 1)) (m : Int) = pays st ((k + 1 + m : Nat) : Int) := by rw [pays_pays]; congr 1 <;> omega
          have hEn : ((i + k + 1 : Nat) : Int) + (m : Int) = ((i + k + 1 + m : Nat) : Int) := by omega
          have hel := elemP_open d hs hfit
          rw [hEn] at hel
          have hlr := loop_run (H (by simp)) (pays st ((k + 1 + m : Nat) : Int)) (i + k + 1 + m) acc (b.length + 1) ⟨[evEnter (i + k) c t true (m : Int)], 0, i + k + 1⟩ rfl (by show i + k + 1 ≤ _; omega) (by show i + k + 1 ≤ _; omega) (by omega)
          rw [show d + 1 - 1 = d by omega, pays_length] at hlr
          generalize loopP (fun i_1 => elemP b d i_1 ((i + k + 1 + m : Nat) : Int)) (b.length + 1) ⟨[evEnter (i + k) c t true (m : Int)], 0, i + k + 1⟩ ((i + k + 1 + m : Nat) : Int) = T at hlr hel
          obtain ⟨L1, L2⟩ := hlr
          have hm1 : ((i + k + 1 + m : Nat) : Int) - ((i + k + 1 : Nat) : Int) = (m : Int) := by omega
          simp only at L1 L2
          rw [hm1] at L1 L2
          have hr2 : EM.run (st.length + (d + 1)) ⟨st, [], 0, i, false, 0⟩ (b.drop i) acc = EM.run (st.length + 1 + d) (EM.fin ((m : Int) :: pays st ((k + 1 + m : Nat) : Int)) (i + k + 1)) (b.drop (i + k + 1)) (acc ++ [evEnter (i + k) c t true (m : Int)] ++ popE ((m : Int) :: pays st ((k + 1 + m : Nat) : Int)) (i + k + 1 - 1)) := by
            rw [hrun, hpp, show st.length + (d + 1) = st.length + 1 + d by omega]
            simp
          by_cases hT : T.e = 0
          · rw [if_neg (by simpa using hT)] at hel
            obtain ⟨q1, q2, q3⟩ := L2 hT
            rw [hel]
            refine ⟨fun h => absurd rfl h, fun _ => ⟨k + 1 + m, by rw [q1]; omega, by omega, by omega, ?_, ?_⟩⟩
            · have := hend.pay m (by
                rcases hft with h | h
                · exact .inl h
                · right; omega)
              rw [hpp, show i + k + 1 + m = i + (k + 1 + m) by omega] at this
              exact this
            · rw [hr2, q3, fin_zero, popE_zero, q1, show st.length + 1 + d = st.length + (d + 1) by omega, show i + k + 1 + m = i + (k + 1 + m) by omega]
              simp
          · rw [if_pos hT] at hel
            rw [hel]
            refine ⟨fun _ => ?_, fun h => absurd h hT⟩
            rw [hr2, L1 hT]
  · rw [elemP_err d hs h0]
    refine ⟨fun _ => ?_, fun h => absurd h h0⟩
    rw [A1 h0]; simp
theorem elem_run (b : List Int) (hb : IsB b) : ∀ d, ElemRun b d := by
  intro d
  induction d with
  | zero => exact elem_step b hb 0 (fun h => absurd h (by decide))
  | succ d ih => exact elem_step b hb (d + 1) (fun _ => ih)
/-- What the reference says of a whole text is what a machine is told of it. -/
theorem whole_is (b : List Int) (hb : IsB b) (most : Nat) :
    evWhole most b = ((elemP b most 0 (-1)).l, if (elemP b most 0 (-1)).e = 0 ∧ (elemP b most 0 (-1)).at_ < b.length then 6 else (elemP b most 0 (-1)).e, (elemP b most 0 (-1)).at_) := by
  obtain ⟨H1, H2⟩ := elem_run b hb most [] 0 (-1) [] (.inl ⟨rfl, rfl⟩) (Nat.zero_le _)
  rw [List.length_nil, Nat.zero_add, List.drop_zero] at H1 H2
  unfold evWhole EM.new
  by_cases he : (elemP b most 0 (-1)).e = 0
  · obtain ⟨k, k1, k2, k3, k4, k5⟩ := H2 he
    rw [k5, k1]
    rw [Nat.zero_add] at k3 ⊢
    have hf : EM.fin (pays [] (k : Int)) k = ⟨[], [], 0, k, true, 0⟩ := rfl
    rw [hf, show popE (pays [] (k : Int)) (k - 1) = [] from rfl]
    by_cases hk : k = b.length
    · rw [List.drop_of_length_le (by omega), if_neg (by omega), he]
      simp [EM.run]
    · rw [if_pos ⟨he, by omega⟩]
      obtain ⟨x, r, hxr⟩ : ∃ x r, b.drop k = x :: r := by
        cases h : b.drop k with
        | nil => have := congrArg List.length h; rw [List.length_drop] at this; simp at this; omega
        | cons x r => exact ⟨x, r, rfl⟩
      rw [hxr, EM.run]
      have hst : EM.step most ⟨[], [], 0, k, true, 0⟩ x = (6, [], ⟨[], [], 0, k, true, 6⟩) := by
        unfold EM.step
        rw [if_neg (by simp), if_pos rfl]
      rw [hst, if_pos (show (6 : Int) ≠ 0 by decide)]
      simp
  · rw [H1 he, if_neg (fun h => he h.1)]; simp
end Go.Proofs.Ytagigdefghnnhaa
