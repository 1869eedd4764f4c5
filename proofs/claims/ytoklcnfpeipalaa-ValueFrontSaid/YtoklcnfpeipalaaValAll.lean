/- Contents of all elements in plain words: the events that a machine brings about come in an order that a checker can take, and what is told of a text, of its beginnings, and of right elements. They hold of lists alone, under no condition on the program. -/
import Derived.Test.YtoklcnfpeipalaaValEv
namespace Go.Proofs.Ytoklcnfpeipalaa
open Go.RowKit Go.PlainAid
set_option linter.unusedVariables false
/-- What goes with a machine. -/
structure VM (m : EM) (acc : List Ev) : Prop where
  all : VS.all VS.new acc
  cur : 0 < m.leaf → ∃ q, (VS.run VS.new acc).cur = some q ∧ q.n - q.l.length = m.leaf
  hd : IsB m.hd
theorem vm_new : VM EM.new [] := ⟨trivial, (fun h => absurd h (by decide)), IsB.nil⟩
section
variable {s : VS} {p : Nat}
theorem fit_enter (hp : p ≤ maxLen) {c t n : Int} {f : Bool} (hc : 0 ≤ c ∧ c ≤ 3) (ht : 0 ≤ t ∧ t ≤ 268435455) (hn : 0 ≤ n ∧ n ≤ 2305843009213693951) : s.fits (evEnter p c t f n) :=
  ⟨.inl rfl, hc, ht, hn, by show (0 : Int) ≤ 0 ∧ (0 : Int) ≤ 255; omega, by show (0 : Int) ≤ (p : Int) ∧ (p : Int) ≤ _; unfold maxLen at hp; omega, fun h => absurd h (by show ¬ (1 : Int) = 3; decide)⟩
theorem fit_leaf (hp : p ≤ maxLen) {c t n : Int} {f : Bool} (hc : 0 ≤ c ∧ c ≤ 3) (ht : 0 ≤ t ∧ t ≤ 268435455) (hn : 0 ≤ n ∧ n ≤ 2305843009213693951) : s.fits (evLeaf p c t f n) :=
  ⟨.inr (.inl rfl), hc, ht, hn, by show (0 : Int) ≤ 0 ∧ (0 : Int) ≤ 255; omega, by show (0 : Int) ≤ (p : Int) ∧ (p : Int) ≤ _; unfold maxLen at hp; omega, fun h => absurd h (by show ¬ (2 : Int) = 3; decide)⟩
theorem fit_byte (hp : p ≤ maxLen) {x : Int} (hx : 0 ≤ x ∧ x ≤ 255) (h : ∃ q, s.cur = some q ∧ (q.l.length : Int) < q.n) : s.fits (evByte p x) :=
  ⟨.inr (.inr (.inl rfl)), by show (0 : Int) ≤ 0 ∧ (0 : Int) ≤ 3; omega, by show (0 : Int) ≤ 0 ∧ (0 : Int) ≤ _; omega, by show (0 : Int) ≤ 0 ∧ (0 : Int) ≤ _; omega, hx, by show (0 : Int) ≤ (p : Int) ∧ (p : Int) ≤ _; unfold maxLen at hp; omega, fun _ => h⟩
theorem fit_end (hp : p ≤ maxLen) : s.fits (evEnd p) :=
  ⟨.inr (.inr (.inr (.inl rfl))), by show (0 : Int) ≤ 0 ∧ (0 : Int) ≤ 3; omega, by show (0 : Int) ≤ 0 ∧ (0 : Int) ≤ _; omega, by show (0 : Int) ≤ 0 ∧ (0 : Int) ≤ _; omega, by show (0 : Int) ≤ 0 ∧ (0 : Int) ≤ 255; omega, by show (0 : Int) ≤ (p : Int) ∧ (p : Int) ≤ _; unfold maxLen at hp; omega, fun h => absurd h (by show ¬ (4 : Int) = 3; decide)⟩
theorem fit_exit (hp : p ≤ maxLen) : s.fits (evExit p) :=
  ⟨.inr (.inr (.inr (.inr rfl))), by show (0 : Int) ≤ 0 ∧ (0 : Int) ≤ 3; omega, by show (0 : Int) ≤ 0 ∧ (0 : Int) ≤ _; omega, by show (0 : Int) ≤ 0 ∧ (0 : Int) ≤ _; omega, by show (0 : Int) ≤ 0 ∧ (0 : Int) ≤ 255; omega, by show (0 : Int) ≤ (p : Int) ∧ (p : Int) ≤ _; unfold maxLen at hp; omega, fun h => absurd h (by show ¬ (5 : Int) = 3; decide)⟩
end
theorem fit_pop {p : Nat} (hp : p ≤ maxLen) (st : List Int) : ∀ s : VS, VS.all s (popE st p) := by
  induction st with
  | nil => intro s; exact trivial
  | cons x r ih =>
    intro s
    rw [popE]
    by_cases h : x = 0
    · rw [if_pos h]; exact ⟨fit_exit hp, ih _⟩
    · rw [if_neg h]; exact trivial
theorem vm_step {b : ByteArray} {dep : Int} (hs : b.size ≤ maxLen) (i : Nat) (m m' : EM) (acc l : List Ev) (hi : i < b.size) (hat : m.at_ = i) (hQ : VM m acc) (h : m.step (evMost dep) (bt b i) = (0, l, m')) : VM m' (acc ++ l) := by
  obtain ⟨ho, hdn, hc⟩ := EM.step_cases h
  have hb0 := bt_nonneg b i
  have hb1 := bt_le b i
  subst hat
  have hp : m.at_ ≤ maxLen := by omega
  rcases hc with ⟨h1, rfl, rfl⟩ | ⟨h1, rfl, rfl⟩ | ⟨h1, h2, h3, rfl, rfl⟩ | ⟨h1, h2, c, t, f, n, g, h3, h4, rfl, rfl⟩
  · obtain ⟨q, q1, q2⟩ := hQ.cur (by omega)
    refine ⟨(VS.all_append _ _ _).2 ⟨hQ.all, fit_byte hp ⟨hb0, hb1⟩ ⟨q, q1, by omega⟩, fit_end hp, fit_pop hp _ _⟩, (fun h => absurd h (by show ¬ (0 : Int) < 0; decide)), IsB.nil⟩
  · obtain ⟨q, q1, q2⟩ := hQ.cur (by omega)
    refine ⟨(VS.all_append _ _ _).2 ⟨hQ.all, fit_byte hp ⟨hb0, hb1⟩ ⟨q, q1, by omega⟩, trivial⟩, fun _ => ⟨q.and (bt b m.at_), ?_, ?_⟩, hQ.hd⟩
    · rw [VS.run_append]
      show (VS.next _ _).cur = _
      rw [VS.next3 rfl q1]; rfl
    · show q.n - ((q.l ++ [bt b m.at_]).length : Int) = m.leaf - 1
      rw [List.length_append, List.length_singleton]; omega
  · rw [List.append_nil]
    exact ⟨hQ.all, hQ.cur, hQ.hd.append (IsB.cons hb0 hb1 IsB.nil)⟩
  · have hbd := hdGet_bd (m.hd ++ [bt b m.at_]) (hQ.hd.append (IsB.cons hb0 hb1 IsB.nil))
    rw [h3] at hbd
    obtain ⟨c0, c1, t0, t1, n0, n1⟩ := hbd
    simp only at c0 c1 t0 t1 n0 n1
    cases f with
    | true =>
      rw [headL_open, headM_open]
      exact ⟨(VS.all_append _ _ _).2 ⟨hQ.all, fit_enter hp ⟨c0, c1⟩ ⟨t0, t1⟩ ⟨n0, n1⟩, fit_pop hp _ _⟩, (fun h => absurd h (by show ¬ (0 : Int) < 0; decide)), IsB.nil⟩
    | false =>
      by_cases hn : n = 0
      · subst hn
        rw [headL_none, headM_none]
        exact ⟨(VS.all_append _ _ _).2 ⟨hQ.all, fit_leaf hp ⟨c0, c1⟩ ⟨t0, t1⟩ ⟨n0, n1⟩, fit_end hp, fit_pop hp _ _⟩, (fun h => absurd h (by show ¬ (0 : Int) < 0; decide)), IsB.nil⟩
      · rw [headL_leaf hn, headM_leaf hn]
        refine ⟨(VS.all_append _ _ _).2 ⟨hQ.all, fit_leaf hp ⟨c0, c1⟩ ⟨t0, t1⟩ ⟨n0, n1⟩, trivial⟩, fun _ => ⟨⟨c, t, n, []⟩, ?_, ?_⟩, IsB.nil⟩
        · rw [VS.run_append]
          show (VS.next _ _).cur = _
          rw [VS.next2 rfl]; rfl
        · show n - ((0 : Nat) : Int) = n
          omega
/-- A text's events can be taken one by one. -/
theorem evW_fits {b : ByteArray} {dep : Int} (hs : b.size ≤ maxLen) {L : List Ev} {E : Int} {P : Nat} (h : evW b dep = (L, E, P)) : VS.all VS.new L := by
  obtain ⟨m, h1, h2, _⟩ := evW_upto h
  exact (allTo_ind (Q := fun m acc => VM m acc) vm_new (fun i m m' acc l hi hat hQ hst => vm_step hs i m m' acc l hi hat hQ hst) P h1 m L h2).all
theorem EM.run_ge (d : Nat) (l : List Int) (m : EM) (acc : List Ev) (h0 : m.over = 0) : m.at_ ≤ (EM.run d m l acc).2.2 := by
  cases hq : EM.all d m l acc with
  | none => exact (EM.all_none d l _ _ hq h0).2.2.1
  | some q =>
    rw [EM.run_done d hq]
    have := (EM.all_at d l _ _ hq h0).1
    show m.at_ ≤ q.1.at_
    omega
/-- What a text's beginning brings about is the beginning of what the text does. -/
theorem evW_front2 {b : ByteArray} {dep : Int} {n : Nat} (hn : n ≤ b.size) {L L' : List Ev} {E E' : Int} {P P' : Nat} (h : evW b dep = (L, E, P)) (h' : evW (b.extract 0 n) dep = (L', E', P')) :
    (L' = L ∧ E' = E ∧ P' = P ∧ P < n ∧ ∀ e ∈ L, e.at_ < (P : Int)) ∨ (∃ R, L = L' ++ R ∧ (∀ e ∈ R, (n : Int) ≤ e.at_) ∧ (∀ e ∈ L', e.at_ < (n : Int)) ∧ P' = n ∧ (E' = 0 ∨ E' = 2) ∧ n ≤ P) := by
  unfold evW evWhole at h h'
  rw [bl_extract _ _ _ hn, List.drop_zero, Nat.sub_zero] at h'
  have hsp : (bl b).take n ++ (bl b).drop n = bl b := List.take_append_drop n (bl b)
  have hlen : ((bl b).take n).length = n := by rw [List.length_take, bl_length]; omega
  rw [← hsp] at h
  cases hq : EM.all (evMost dep) EM.new ((bl b).take n) [] with
  | none =>
    rw [EM.run_none _ _ _ _ hq] at h
    rw [h] at h'
    simp only [Prod.mk.injEq] at h'
    obtain ⟨rfl, rfl, rfl⟩ := h'
    obtain ⟨_, _, _, q4⟩ := EM.all_none _ _ _ _ hq rfl
    rw [h] at q4
    have q4 : P < 0 + ((bl b).take n).length := q4
    obtain ⟨R, r1, r2⟩ := EM.run_at (evMost dep) ((bl b).take n) EM.new [] rfl
    rw [h] at r1 r2
    have r1 : L = [] ++ R := r1
    rw [List.nil_append] at r1
    subst r1
    exact .inl ⟨rfl, rfl, rfl, by omega, fun e he => (r2 e he).2⟩
  | some q =>
    obtain ⟨q1, q2⟩ := EM.all_at _ _ _ _ hq rfl
    have q1 : q.1.at_ = n := by rw [q1, hlen]; show 0 + n = n; omega
    rw [EM.run_done _ hq, q1] at h'
    simp only [Prod.mk.injEq] at h'
    obtain ⟨rfl, hE, rfl⟩ := h'
    rw [EM.run_some _ _ _ _ hq] at h
    obtain ⟨R, r1, r2⟩ := EM.run_at (evMost dep) ((bl b).drop n) q.1 q.2 q2
    have hge := EM.run_ge (evMost dep) ((bl b).drop n) q.1 q.2 q2
    rw [h] at r1 r2 hge
    have hge : q.1.at_ ≤ P := hge
    have r1 : L = q.2 ++ R := r1
    obtain ⟨S, s1, s2⟩ := EM.run_at (evMost dep) ((bl b).take n) EM.new [] rfl
    rw [EM.run_done _ hq, q1] at s1 s2
    have s1 : q.2 = [] ++ S := s1
    rw [List.nil_append] at s1
    refine .inr ⟨R, r1, fun e he => ?_, fun e he => (s2 e (s1 ▸ he)).2, rfl, ?_, by omega⟩
    · have := (r2 e he).1
      rw [q1] at this; exact this
    · rw [← hE]
      split
      · exact .inl rfl
      · exact .inr rfl
/-- The place of an event. -/
def atOf (l : List Ev) (i : Nat) : Int := match l[i]? with | some e => e.at_ | none => 0
theorem atOf_some {l : List Ev} {i : Nat} {e : Ev} (h : l[i]? = some e) : atOf l i = e.at_ := by unfold atOf; rw [h]
theorem atOf_mem {l : List Ev} {i : Nat} (h : i < l.length) : ∃ e ∈ l, atOf l i = e.at_ := ⟨l[i], List.getElem_mem h, atOf_some (List.getElem?_eq_getElem h)⟩
theorem atOf_left {l r : List Ev} {i : Nat} (h : i < l.length) : atOf (l ++ r) i = atOf l i := by unfold atOf; rw [List.getElem?_append_left h]
theorem atOf_right {l r : List Ev} {i : Nat} (h : l.length ≤ i) (h2 : i < (l ++ r).length) : ∃ e ∈ r, atOf (l ++ r) i = e.at_ := by
  rw [List.length_append] at h2
  unfold atOf
  rw [List.getElem?_append_right h]
  exact atOf_mem (l := r) (by omega)
/-- What is told of a text: an error, and its place. -/
def valW (b : ByteArray) (dep : Int) : Int × Int :=
  if 0 ≤ vF (evW b dep).1 then (7, atOf (evW b dep).1 (vF (evW b dep).1).toNat) else ((evW b dep).2.1, ((evW b dep).2.2 : Int))
theorem valW_bad {b : ByteArray} {dep : Int} {L : List Ev} {E : Int} {P : Nat} (h : evW b dep = (L, E, P)) (h0 : 0 ≤ vF L) : valW b dep = (7, atOf L (vF L).toNat) := by unfold valW; rw [h]; exact if_pos h0
theorem valW_good {b : ByteArray} {dep : Int} {L : List Ev} {E : Int} {P : Nat} (h : evW b dep = (L, E, P)) (h0 : vF L < 0) : valW b dep = (E, (P : Int)) := by unfold valW; rw [h]; exact if_neg (show ¬ 0 ≤ vF L by omega)
theorem evW_at {b : ByteArray} {dep : Int} {L : List Ev} {E : Int} {P : Nat} (h : evW b dep = (L, E, P)) : P ≤ b.size ∧ ∀ e ∈ L, 0 ≤ e.at_ ∧ e.at_ < (b.size : Int) := by
  obtain ⟨m, h1, _, _⟩ := evW_upto h
  refine ⟨h1, fun e he => ?_⟩
  unfold evW evWhole at h
  obtain ⟨R, r1, r2⟩ := EM.run_at (evMost dep) (bl b) EM.new [] rfl
  rw [h] at r1 r2
  have r1 : L = [] ++ R := r1
  rw [List.nil_append] at r1
  subst r1
  have := r2 e he
  have g1 : ((0 : Nat) : Int) ≤ e.at_ := this.1
  have g2 : e.at_ < (P : Int) := this.2
  omega
theorem valW_at {b : ByteArray} {dep : Int} (hs : b.size ≤ maxLen) {e at_ : Int} (h : valW b dep = (e, at_)) : 0 ≤ at_ ∧ at_ ≤ b.size := by
  obtain ⟨L, E, P, hw⟩ : ∃ L e p, evW b dep = (L, e, p) := ⟨_, _, _, rfl⟩
  obtain ⟨p1, p2⟩ := evW_at hw
  by_cases h0 : 0 ≤ vF L
  · rw [valW_bad hw h0] at h
    obtain ⟨⟨f1, f2⟩, _⟩ := v_bad (evW_fits hs hw)
    obtain ⟨x, hx, hxa⟩ := atOf_mem (l := L) (i := (vF L).toNat) (by omega)
    have := p2 x hx
    simp only [Prod.mk.injEq] at h
    omega
  · rw [valW_good hw (by omega)] at h
    simp only [Prod.mk.injEq] at h
    omega
/-- What is wrong with a byte of a text's beginning is told of that, and of the text. -/
theorem val_front {b : ByteArray} {dep : Int} {n : Nat} (hs : b.size ≤ maxLen) (hn : n ≤ b.size) {e f at_ on : Int} (h : valW b dep = (e, at_)) (h' : valW (b.extract 0 n) dep = (f, on)) :
    (on < n ∧ f = e ∧ on = at_) ∨ (on = n ∧ (f = 0 ∨ f = 2) ∧ (e = 0 ∨ (n : Int) ≤ at_)) := by
  obtain ⟨L, E, P, hw⟩ : ∃ L e p, evW b dep = (L, e, p) := ⟨_, _, _, rfl⟩
  obtain ⟨L', E', P', hw'⟩ : ∃ L e p, evW (b.extract 0 n) dep = (L, e, p) := ⟨_, _, _, rfl⟩
  have hf := evW_fits hs hw
  rcases evW_front2 hn hw hw' with ⟨rfl, rfl, rfl, h4, h5⟩ | ⟨R, rfl, h2, h3, rfl, h5, h6⟩
  · left
    by_cases h0 : 0 ≤ vF L'
    · rw [valW_bad hw h0] at h
      rw [valW_bad hw' h0] at h'
      simp only [Prod.mk.injEq] at h h'
      obtain ⟨⟨f1, f2⟩, _⟩ := v_bad hf
      obtain ⟨x, hx, hxa⟩ := atOf_mem (l := L') (i := (vF L').toNat) (by omega)
      have := h5 x hx
      omega
    · rw [valW_good hw (by omega)] at h
      rw [valW_good hw' (by omega)] at h'
      simp only [Prod.mk.injEq] at h h'
      omega
  · obtain ⟨k1, k2⟩ := vF_front hf
    by_cases h0 : 0 ≤ vF L'
    · left
      have hk := k1 h0
      rw [valW_bad hw (by omega)] at h
      rw [valW_bad hw' h0] at h'
      obtain ⟨⟨f1, f2⟩, _⟩ := v_bad ((VS.all_append _ _ _).1 hf).1
      rw [hk, atOf_left (by omega)] at h
      obtain ⟨x, hx, hxa⟩ := atOf_mem (l := L') (i := (vF L').toNat) (by omega)
      have := h3 x hx
      simp only [Prod.mk.injEq] at h h'
      omega
    · right
      rw [valW_good hw' (by omega)] at h'
      simp only [Prod.mk.injEq] at h'
      obtain ⟨rfl, rfl⟩ := h'
      refine ⟨rfl, h5, ?_⟩
      rcases k2 (by omega) with hk | hk
      · rw [valW_good hw hk] at h
        simp only [Prod.mk.injEq] at h
        omega
      · rw [valW_bad hw (by omega)] at h
        obtain ⟨⟨f1, f2⟩, _⟩ := v_bad hf
        obtain ⟨x, hx, hxa⟩ := atOf_right (l := L') (r := R) (i := (vF (L' ++ R)).toNat) (by omega) (by omega)
        have := h2 x hx
        simp only [Prod.mk.injEq] at h
        omega
/-- A right element. -/
theorem val_right {b : ByteArray} {dep : Int} (hs : b.size ≤ maxLen) {at_ : Int} (h : valW b dep = (0, at_)) :
    at_ = b.size ∧ (∃ L P, evW b dep = (L, 0, P) ∧ vF L = -1) ∧ ∀ n : Nat, n < b.size → valW (b.extract 0 n) dep = (2, (n : Int)) := by
  obtain ⟨L, E, P, hw⟩ : ∃ L e p, evW b dep = (L, e, p) := ⟨_, _, _, rfl⟩
  have hf := evW_fits hs hw
  obtain ⟨⟨f1, f2⟩, _⟩ := v_bad hf
  by_cases h0 : 0 ≤ vF L
  · rw [valW_bad hw h0] at h
    simp only [Prod.mk.injEq] at h
    omega
  · rw [valW_good hw (by omega)] at h
    simp only [Prod.mk.injEq] at h
    obtain ⟨rfl, rfl⟩ := h
    obtain ⟨w1, _, w3⟩ := evW_ok hw
    subst w1
    refine ⟨rfl, ⟨L, _, hw, by omega⟩, fun n hn => ?_⟩
    obtain ⟨L', hw'⟩ := w3 n hn
    rcases evW_front2 (Nat.le_of_lt hn) hw hw' with ⟨_, h2, _⟩ | ⟨R, rfl, _⟩
    · omega
    · obtain ⟨k1, k2⟩ := vF_front hf
      refine valW_good hw' ?_
      by_cases h1 : 0 ≤ vF L'
      · have := k1 h1; omega
      · omega
/-- One event that begins an element. -/
theorem val_one (e : Ev) (hk : e.k = 1 ∨ e.k = 2) : ((VS.new.next e).bad = true ∧ vF [e] = 0 ∧ e.c = 0) ∨ ((VS.new.next e).bad = false ∧ vF [e] = -1) := by
  have h1 := vF_cons e []
  have h0 : vF [] = -1 := rfl
  rw [h0, if_neg (show ¬ (0 : Int) ≤ -1 by omega)] at h1
  by_cases hc : e.c = 0
  · rcases hk with hk | hk
    · rw [vEv_enter [] hc hk] at h1
      rw [VS.next1 hk]
      by_cases ht : e.t = 16 ∨ e.t = 17
      · rw [if_pos ht, if_neg (show ¬ (0 : Int) ≤ -1 by omega)] at h1
        exact .inr ⟨by show (false || decide (e.c = 0 ∧ ¬ e.t = 16 ∧ ¬ e.t = 17)) = false; simp; omega, h1⟩
      · rw [if_neg ht, if_pos (show (0 : Int) ≤ 0 by omega)] at h1
        exact .inl ⟨by show (false || decide (e.c = 0 ∧ ¬ e.t = 16 ∧ ¬ e.t = 17)) = true; simp; omega, h1, hc⟩
    · rw [vEv_leaf [] hc hk] at h1
      rw [VS.next2 hk]
      by_cases ht : e.t = 0 ∨ e.t = 16 ∨ e.t = 17
      · rw [if_pos ht, if_pos (show (0 : Int) ≤ 0 by omega)] at h1
        refine .inl ⟨?_, h1, hc⟩
        show (false || vBad ⟨e.c, e.t, e.n, []⟩) = true
        rw [Bool.false_or]
        unfold vBad
        refine decide_eq_true ⟨hc, ?_⟩
        rcases ht with h | h | h
        · exact .inl h
        · exact .inr (.inl h)
        · exact .inr (.inr (.inl h))
      · rw [if_neg ht] at h1
        have hf := (v_first e.t e.n [] (by show (0 : Int) ≤ _; omega)).1
        have hf2 : vW e.t e.n [] ≤ 0 := hf.2
        have h1 : vF [e] = if 0 ≤ vW e.t e.n [] then vW e.t e.n [] else -1 := h1
        by_cases hw : 0 ≤ vW e.t e.n []
        · rw [if_pos hw] at h1
          refine .inl ⟨?_, by omega, hc⟩
          show (false || vBad ⟨e.c, e.t, e.n, []⟩) = true
          rw [Bool.false_or]
          unfold vBad
          exact decide_eq_true ⟨hc, .inr (.inr (.inr hw))⟩
        · rw [if_neg hw] at h1
          refine .inr ⟨?_, h1⟩
          show (false || vBad ⟨e.c, e.t, e.n, []⟩) = false
          rw [Bool.false_or]
          unfold vBad
          refine decide_eq_false ?_
          rintro ⟨_, h | h | h | h⟩
          · exact ht (.inl h)
          · exact ht (.inr (.inl h))
          · exact ht (.inr (.inr h))
          · exact hw h
  · rw [vEv_other [] hc, if_neg (show ¬ (0 : Int) ≤ -1 by omega)] at h1
    refine .inr ⟨?_, h1⟩
    rcases hk with hk | hk
    · rw [VS.next1 hk]
      show (false || decide (e.c = 0 ∧ ¬ e.t = 16 ∧ ¬ e.t = 17)) = false
      simp [hc]
    · rw [VS.next2 hk]
      show (false || vBad ⟨e.c, e.t, e.n, []⟩) = false
      rw [Bool.false_or]
      unfold vBad
      exact decide_eq_false (fun h => hc h.1)
end Go.Proofs.Ytoklcnfpeipalaa
