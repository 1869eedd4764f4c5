/- Layer 9: a whole element's bytes are its events'. In plain words. -/
import Derived.Test.YtagigdefghnnhaaEvNest
namespace Go.Proofs.Ytagigdefghnnhaa
open Go.RowKit Go.PlainAid
set_option linter.unusedVariables false
/-- The bytes that an event tells. -/
def outE (e : Ev) : List Int := if e.k = 1 ∨ e.k = 2 then hdPut e.c e.t e.f e.n else if e.k = 3 then [e.b] else []
def outL (l : List Ev) : List Int := l.flatMap outE
theorem outL_append (l r : List Ev) : outL (l ++ r) = outL l ++ outL r := by simp [outL]
/-- Each head can be put, and stands where it is told. -/
structure Told1 (O : List Int) (e : Ev) : Prop where
  head : e.k = 1 ∨ e.k = 2 → hdOk e.c e.t e.n = true ∧ e.at_ = ((O ++ outE e).length : Int) - 1
  byte : e.k = 3 → 0 ≤ e.b ∧ e.b ≤ 255
def HOK : List Int → List Ev → Prop
  | _, [] => True
  | O, e :: r => Told1 O e ∧ HOK (O ++ outE e) r
theorem HOK_append (l r : List Ev) : ∀ O, HOK O (l ++ r) ↔ HOK O l ∧ HOK (O ++ outL l) r := by
  induction l with
  | nil => intro O; simp [HOK, outL]
  | cons e l ih => intro O; rw [List.cons_append, HOK, HOK, ih, and_assoc, List.append_assoc]; rfl
theorem told_exit (O : List Int) (p : Nat) : Told1 O (evExit p) ∧ outE (evExit p) = [] := ⟨⟨fun h => absurd h (by show ¬ ((5 : Int) = 1 ∨ (5 : Int) = 2); decide), fun h => absurd h (by show ¬ (5 : Int) = 3; decide)⟩, by unfold outE evExit; simp⟩
theorem told_end (O : List Int) (p : Nat) : Told1 O (evEnd p) ∧ outE (evEnd p) = [] := ⟨⟨fun h => absurd h (by show ¬ ((4 : Int) = 1 ∨ (4 : Int) = 2); decide), fun h => absurd h (by show ¬ (4 : Int) = 3; decide)⟩, by unfold outE evEnd; simp⟩
theorem told_byte (O : List Int) (p : Nat) (x : Int) (h0 : 0 ≤ x) (h1 : x ≤ 255) : Told1 O (evByte p x) ∧ outE (evByte p x) = [x] := ⟨⟨fun h => absurd h (by show ¬ ((3 : Int) = 1 ∨ (3 : Int) = 2); decide), fun _ => ⟨h0, h1⟩⟩, by unfold outE evByte; simp⟩
theorem told_popE (st : List Int) (p : Nat) : ∀ O, HOK O (popE st p) ∧ outL (popE st p) = [] := by
  induction st with
  | nil => intro O; exact ⟨trivial, rfl⟩
  | cons x r ih =>
    intro O
    rw [popE]
    by_cases h : x = 0
    · rw [if_pos h]
      obtain ⟨t1, t2⟩ := told_exit O p
      refine ⟨⟨t1, (ih _).1⟩, ?_⟩
      show outE (evExit p) ++ outL (popE r p) = []
      rw [t2, (ih O).2]; rfl
    · rw [if_neg h]; exact ⟨trivial, rfl⟩
/-- A head that its last byte makes whole is all of the bytes that came. -/
theorem head_all {l : List Int} {x : Int} (hl : IsB (l ++ [x])) (hc : l = [] ∨ (hdGet l).2.2.2.2.2 = 2) {c t : Int} {f : Bool} {n : Int} {g : Nat} (hg : hdGet (l ++ [x]) = (c, t, f, n, g, 0)) :
    hdOk c t n = true ∧ hdPut c t f n = l ++ [x] := by
  have h1 := hdGet_one (l ++ [x]) hl (by rw [hg])
  rw [hg] at h1
  obtain ⟨h1, h2, h3, h4⟩ := h1
  simp only at h1 h2 h3 h4
  refine ⟨h1, ?_⟩
  rw [List.length_append, List.length_singleton] at h3
  by_cases hgl : g = l.length + 1
  · rw [h4, hgl, List.take_of_length_le (by simp)]
  · exfalso
    have hle : g ≤ l.length := by omega
    rw [List.take_append_of_le_length hle] at h4
    have hp := hdGet_put (k := f) h1 (l.drop g)
    rw [h4, List.take_append_drop] at hp
    rcases hc with hc | hc
    · subst hc; simp at hle; omega
    · rw [hp] at hc; cases hc
structure Heads (b : ByteArray) (m : EM) (acc : List Ev) : Prop where
  ok : HOK [] acc
  out : outL acc ++ m.hd = (bl b).take m.at_
  cut : m.hd = [] ∨ (hdGet m.hd).2.2.2.2.2 = 2
  hd : IsB m.hd
  no : 0 < m.leaf → m.hd = []
  dn : m.done = true → m.hd = []
theorem heads_new (b : ByteArray) : Heads b EM.new [] := ⟨trivial, rfl, .inl rfl, IsB.nil, fun _ => rfl, fun _ => rfl⟩
theorem heads_one (O : List Int) (k : Int) (hk : k = 1 ∨ k = 2) (p : Nat) (c t : Int) (f : Bool) (n : Int) (ho : hdOk c t n = true) (hp : (O ++ hdPut c t f n).length = p + 1) : Told1 O ⟨k, p, c, t, f, n, 0⟩ ∧ outE ⟨k, p, c, t, f, n, 0⟩ = hdPut c t f n := by
  have h : outE ⟨k, p, c, t, f, n, 0⟩ = hdPut c t f n := if_pos hk
  refine ⟨⟨fun _ => ⟨ho, ?_⟩, fun h3 => by rcases hk with h | h <;> (have h3 : k = 3 := h3; omega)⟩, h⟩
  rw [h, hp]
  show (p : Int) = ((p + 1 : Nat) : Int) - 1
  omega
theorem heads_step {b : ByteArray} {dep : Int} (i : Nat) (m m' : EM) (acc l : List Ev) (hi : i < b.size) (hat : m.at_ = i) (hQ : Heads b m acc) (h : m.step (evMost dep) (bt b i) = (0, l, m')) : Heads b m' (acc ++ l) := by
  obtain ⟨ho, hdn, hc⟩ := EM.step_cases h
  have hb0 := bt_nonneg b i
  have hb1 := bt_le b i
  have hout := hQ.out
  have htk := bl_take_succ b i hi
  subst hat
  rcases hc with ⟨h1, rfl, rfl⟩ | ⟨h1, rfl, rfl⟩ | ⟨h1, h2, h3, rfl, rfl⟩ | ⟨h1, h2, c, t, f, n, g, h3, h4, rfl, rfl⟩
  · rw [hQ.no (by omega), List.append_nil] at hout
    obtain ⟨t1, t2⟩ := told_byte (outL acc) m.at_ (bt b m.at_) hb0 hb1
    obtain ⟨t3, t4⟩ := told_end (outL acc ++ [bt b m.at_]) m.at_
    obtain ⟨t5, t6⟩ := told_popE m.st m.at_ (outL acc ++ [bt b m.at_] ++ [])
    refine ⟨(HOK_append _ _ _).2 ⟨hQ.ok, ⟨t1, ?_⟩⟩, ?_, .inl rfl, IsB.nil, fun _ => rfl, fun _ => rfl⟩
    · rw [t2]
      refine ⟨t3, ?_⟩
      rw [t4]; exact t5
    · rw [outL_append]
      show outL acc ++ (outE (evByte m.at_ (bt b m.at_)) ++ (outE (evEnd m.at_) ++ outL (popE m.st m.at_))) ++ [] = (bl b).take (m.at_ + 1)
      rw [t2, t4, t6, htk, ← hout]; simp
  · rw [hQ.no (by omega), List.append_nil] at hout
    obtain ⟨t1, t2⟩ := told_byte (outL acc) m.at_ (bt b m.at_) hb0 hb1
    refine ⟨(HOK_append _ _ _).2 ⟨hQ.ok, ⟨t1, trivial⟩⟩, ?_, .inl (hQ.no (by omega)), hQ.hd, fun _ => hQ.no (by omega), fun _ => hQ.no (by omega)⟩
    rw [outL_append]
    show outL acc ++ (outE (evByte m.at_ (bt b m.at_)) ++ []) ++ m.hd = (bl b).take (m.at_ + 1)
    rw [t2, htk, ← hout, hQ.no (by omega)]; simp
  · rw [List.append_nil]
    refine ⟨hQ.ok, ?_, .inr h3, hQ.hd.append (IsB.cons hb0 hb1 IsB.nil), fun h => ?_, fun h => ?_⟩
    · show outL acc ++ (m.hd ++ [bt b m.at_]) = (bl b).take (m.at_ + 1)
      rw [htk, ← hout, List.append_assoc]
    · have h : 0 < m.leaf := h
      omega
    · have h : m.done = true := h
      rw [hdn] at h; cases h
  · obtain ⟨g1, g2⟩ := head_all (hQ.hd.append (IsB.cons hb0 hb1 IsB.nil)) hQ.cut h3
    have hO : outL acc ++ hdPut c t f n = (bl b).take (m.at_ + 1) := by rw [g2, htk, ← hout, List.append_assoc]
    have hlen : (outL acc ++ hdPut c t f n).length = m.at_ + 1 := by rw [hO, List.length_take, bl_length]; omega
    cases f with
    | true =>
      rw [headL_open, headM_open]
      obtain ⟨t1, t2⟩ := heads_one (outL acc) 1 (.inl rfl) m.at_ c t true n g1 hlen
      obtain ⟨t5, t6⟩ := told_popE (n :: pays (pays m.st 1) n) m.at_ (outL acc ++ hdPut c t true n)
      refine ⟨(HOK_append _ _ _).2 ⟨hQ.ok, ⟨t1, ?_⟩⟩, ?_, .inl rfl, IsB.nil, fun _ => rfl, fun _ => rfl⟩
      · show HOK (outL acc ++ outE ⟨1, m.at_, c, t, true, n, 0⟩) _
        rw [t2]; exact t5
      · rw [outL_append]
        show outL acc ++ (outE ⟨1, m.at_, c, t, true, n, 0⟩ ++ outL (popE _ m.at_)) ++ [] = (bl b).take (m.at_ + 1)
        rw [t2, t6, ← hO]; simp
    | false =>
      obtain ⟨t1, t2⟩ := heads_one (outL acc) 2 (.inr rfl) m.at_ c t false n g1 hlen
      by_cases hn : n = 0
      · subst hn
        rw [headL_none, headM_none]
        obtain ⟨t3, t4⟩ := told_end (outL acc ++ hdPut c t false 0) m.at_
        obtain ⟨t5, t6⟩ := told_popE (pays m.st 1) m.at_ (outL acc ++ hdPut c t false 0 ++ [])
        refine ⟨(HOK_append _ _ _).2 ⟨hQ.ok, ⟨t1, ?_⟩⟩, ?_, .inl rfl, IsB.nil, fun _ => rfl, fun _ => rfl⟩
        · show HOK (outL acc ++ outE ⟨2, m.at_, c, t, false, 0, 0⟩) _
          rw [t2]
          refine ⟨t3, ?_⟩
          rw [t4]; exact t5
        · rw [outL_append]
          show outL acc ++ (outE ⟨2, m.at_, c, t, false, 0, 0⟩ ++ (outE (evEnd m.at_) ++ outL (popE _ m.at_))) ++ [] = (bl b).take (m.at_ + 1)
          rw [t2, t4, t6, ← hO]; simp
      · rw [headL_leaf hn, headM_leaf hn]
        refine ⟨(HOK_append _ _ _).2 ⟨hQ.ok, ⟨t1, trivial⟩⟩, ?_, .inl rfl, IsB.nil, fun _ => rfl, fun _ => rfl⟩
        rw [outL_append]
        show outL acc ++ (outE ⟨2, m.at_, c, t, false, n, 0⟩ ++ []) ++ [] = (bl b).take (m.at_ + 1)
        rw [t2, ← hO]; simp
theorem evW_heads {b : ByteArray} {dep : Int} {L : List Ev} {E : Int} {P : Nat} (h : evW b dep = (L, E, P)) : HOK [] L ∧ (E = 0 → outL L = bl b) := by
  obtain ⟨m, h1, h2, h3⟩ := evW_upto h
  have hN := allTo_ind (Q := fun m acc => Heads b m acc) (heads_new b) (fun i m m' acc l hi hat hQ hs => heads_step i m m' acc l hi hat hQ hs) P h1 m L h2
  refine ⟨hN.ok, fun he => ?_⟩
  obtain ⟨hd, hp⟩ := h3 he
  have ho := hN.out
  rw [hN.dn hd, List.append_nil, (allTo_at h1 h2).1, hp, List.take_of_length_le (by rw [bl_length]; exact Nat.le_refl _)] at ho
  exact ho
/-- What is told takes no more bytes than there are. -/
theorem outL_len {O : List Int} : ∀ (l : List Ev), (O ++ outL l).length = O.length + (outL l).length := fun l => List.length_append
end Go.Proofs.Ytagigdefghnnhaa
