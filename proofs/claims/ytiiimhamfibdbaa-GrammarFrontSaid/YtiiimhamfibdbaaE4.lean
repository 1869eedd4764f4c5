/- What the reference's functions of layer 9 give. -/
import Derived.Test.YtiiimhamfibdbaaE1
import Derived.Test.YtiiimhamfibdbaaE2
import Derived.Test.YtiiimhamfibdbaaB0
import Derived.Test.YtiiimhamfibdbaaP0
import Derived.Deep.QuietTactic
import Derived.BigQuiet
import Derived.Deep.LoopGhost
import Derived.Deep.RegionHeld3
import Derived.Laws.AppendOwnNone
import Derived.Maps.AppendAt
namespace Go.Proofs.Ytiiimhamfibdbaa
open Go.RowKit Go.PlainAid
set_option linter.unusedVariables false
theorem startL_place (hd r : List Int) : ∀ (i : Nat) (e : Int), i ≤ (startL hd r i e).2.1 ∧ (startL hd r i e).2.1 ≤ i + r.length := by
 induction r generalizing hd with
 |nil => intro i e; simp [startL]
 |cons x r ih =>
  intro i e
  rw [startL]
  by_cases h1 : (i : Int) = e
  ·rw [if_pos h1]; simp
  ·rw [if_neg h1]
   by_cases h2 : (hdGet (hd ++ [x])).2.2.2.2.2 = 0
   ·rw [if_pos h2]; simp
   ·rw [if_neg h2]
    by_cases h3 : (hdGet (hd ++ [x])).2.2.2.2.2 ≠ 2
    ·rw [if_pos h3]; simp
    ·rw [if_neg h3]
     have := ih (hd ++ [x]) (i + 1) e
     simp; omega
end Go.Proofs.Ytiiimhamfibdbaa
/- What the reference's leaf and element of layer 9 give. -/
namespace Go.Proofs.Ytiiimhamfibdbaa
open Go.RowKit Go.PlainAid
set_option linter.unusedVariables false
/-! ### What is told, in memory -/
theorem Evs.form {w : World} {base : Nat} {v : Value} {l : List Ev} (h : Evs w base v l) : ∃ oa c, v = .slice oa l.length c := by
 rcases h.shape with ⟨rfl, rfl⟩ | ⟨g, c, rfl, _⟩
 ·exact ⟨none, 0, rfl⟩
 ·exact ⟨_, c, rfl⟩
theorem bytesE_len (l : List Int) (i : Nat) : (bytesE l i).length = l.length := by
 induction l generalizing i with
 |nil => rfl
 |cons x r ih => rw [bytesE, List.length_cons, List.length_cons, ih]
end Go.Proofs.Ytiiimhamfibdbaa
/- What the reference's element of layer 9 gives. -/
namespace Go.Proofs.Ytiiimhamfibdbaa
open Go.RowKit Go.PlainAid
set_option linter.unusedVariables false
theorem start_ok {b : List Int} (hb : IsB b) {i : Nat} {e : Int} (he : e = -1 ∨ (i : Int) ≤ e) {c t : Int} {f : Bool} {n : Int} {p : Nat} (hs : startL [] (b.drop i) i e = ((c, t, f, n), p, 0)) :
  i + 1 ≤ p ∧ p < b.length ∧ 0 ≤ n ∧ n ≤ 2305843009213693951 := by
 have hE : ∃ st, EndAt st i e := by
  rcases he with h | h
  ·exact ⟨[], .inl ⟨rfl, h⟩⟩
  ·exact ⟨[e - i], .inr ⟨e - i, [], rfl, by omega, by omega⟩⟩
 obtain ⟨st, hE⟩ := hE
 obtain ⟨k, hp, hk, _, g, hg, _⟩ := (head_run 0 (b.drop i) st [] i e [] hE).2 (by rw [hs])
 rw [hs] at hp hg
 rw [List.nil_append] at hg
 have hB := (hb.drop i).take (k + 1)
 obtain ⟨_, h2, h3, _⟩ := hdGet_one _ hB (by rw [hg])
 have hbd := hdGet_bd _ hB
 rw [hg] at h2 h3 hbd
 simp only at hp h2 h3 hbd
 rw [List.length_take] at h3
 rw [List.length_drop] at hk
 exact ⟨by omega, by omega, hbd.2.2.2.2.1, hbd.2.2.2.2.2⟩
theorem leaf_len (b : List Int) (p : Nat) (n : Int) (hp : p ≤ b.length) (hn : 0 ≤ n) : p ≤ (leafP b p n).at_ ∧ (leafP b p n).at_ ≤ b.length ∧ (leafP b p n).l.length ≤ (leafP b p n).at_ - p + 1 := by
 unfold leafP
 by_cases h0 : n = 0
 ·rw [if_pos h0]; simp; omega
 ·rw [if_neg h0, List.length_drop]
  by_cases h1 : ((b.length - p : Nat) : Int) < n
  ·rw [if_pos h1]
   refine ⟨hp, Nat.le_refl _, ?_⟩
   rw [bytesE_len, List.length_drop]
   show b.length - p ≤ b.length - p + 1
   omega
  ·rw [if_neg h1]
   refine ⟨by show p ≤ p + n.toNat; omega, by show p + n.toNat ≤ _; omega, ?_⟩
   show (bytesE _ p ++ _).length ≤ p + n.toNat - p + 1
   rw [List.length_append, bytesE_len, List.length_take, List.length_drop]
   simp; omega
def LenOk (i : Nat) (n : Nat) (t : Told) : Prop := i ≤ t.at_ ∧ t.at_ ≤ n ∧ t.l.length ≤ t.at_ - i
theorem loop_len {b : List Int} (el : Nat → Told) (i : Nat) (E : Int) (H : ∀ j : Nat, j ≤ b.length → (j : Int) < E → LenOk j b.length (el j)) : ∀ (g : Nat) (t : Told) (x : Nat), i ≤ t.at_ → t.at_ ≤ b.length → t.l.length + x ≤ t.at_ - i → i ≤ (loopP el g t E).at_ ∧ (loopP el g t E).at_ ≤ b.length ∧ (loopP el g t E).l.length + x ≤ (loopP el g t E).at_ - i := by
 intro g
 induction g with
 |zero => intro t x h1 h2 h3; exact ⟨h1, h2, h3⟩
 |succ g ih =>
  intro t x h1 h2 h3
  rw [loopP]
  by_cases h : (t.at_ : Int) < E
  ·rw [if_pos h]
   obtain ⟨q1, q2, q3⟩ := H t.at_ h2 h
   by_cases he : (el t.at_).e ≠ 0
   ·rw [if_pos he]
    refine ⟨by show i ≤ (el t.at_).at_; omega, q2, ?_⟩
    show (t.l ++ (el t.at_).l).length + x ≤ (el t.at_).at_ - i
    rw [List.length_append]; omega
   ·rw [if_neg he]
    refine ih _ x (by show i ≤ (el t.at_).at_; omega) q2 ?_
    show (t.l ++ (el t.at_).l).length + x ≤ (el t.at_).at_ - i
    rw [List.length_append]; omega
  ·rw [if_neg h]; exact ⟨h1, h2, h3⟩
theorem elem_len (b : List Int) (hb : IsB b) : ∀ (d i : Nat) (e : Int), i ≤ b.length → (e = -1 ∨ (i : Int) ≤ e) → LenOk i b.length (elemP b d i e) := by
 intro d
 induction d with
 |zero =>
  intro i e hi he
  obtain ⟨c, t, f, n, p, er, hs⟩ : ∃ c t f n p er, startL [] (b.drop i) i e = ((c, t, f, n), p, er) := ⟨_, _, _, _, _, _, rfl⟩
  have hpl := startL_place [] (b.drop i) i e
  rw [hs, List.length_drop] at hpl
  simp only at hpl
  by_cases h0 : er = 0
  ·subst h0
   obtain ⟨p1, p2, n0, n1⟩ := start_ok hb he hs
   by_cases hf : 0 ≤ e ∧ e - ((p + 1 : Nat) : Int) < n
   ·rw [elemP_fit 0 hs hf]; exact ⟨by show i ≤ p; omega, by show p ≤ _; omega, by simp⟩
   ·cases f with
    |false =>
     rw [elemP_leaf 0 hs hf]
     obtain ⟨l1, l2, l3⟩ := leaf_len b (p + 1) n (by omega) n0
     refine ⟨by show i ≤ (leafP b (p + 1) n).at_; omega, l2, ?_⟩
     show (leafP b (p + 1) n).l.length + 1 ≤ (leafP b (p + 1) n).at_ - i
     omega
    |true => rw [elemP_deep hs hf]; exact ⟨by show i ≤ p; omega, by show p ≤ _; omega, by simp⟩
  ·rw [elemP_err 0 hs h0]; exact ⟨hpl.1, by show p ≤ _; omega, by simp⟩
 |succ d ih =>
  intro i e hi he
  obtain ⟨c, t, f, n, p, er, hs⟩ : ∃ c t f n p er, startL [] (b.drop i) i e = ((c, t, f, n), p, er) := ⟨_, _, _, _, _, _, rfl⟩
  have hpl := startL_place [] (b.drop i) i e
  rw [hs, List.length_drop] at hpl
  simp only at hpl
  by_cases h0 : er = 0
  ·subst h0
   obtain ⟨p1, p2, n0, n1⟩ := start_ok hb he hs
   by_cases hf : 0 ≤ e ∧ e - ((p + 1 : Nat) : Int) < n
   ·rw [elemP_fit _ hs hf]; exact ⟨by show i ≤ p; omega, by show p ≤ _; omega, by simp⟩
   ·cases f with
    |false =>
     rw [elemP_leaf _ hs hf]
     obtain ⟨l1, l2, l3⟩ := leaf_len b (p + 1) n (by omega) n0
     refine ⟨by show i ≤ (leafP b (p + 1) n).at_; omega, l2, ?_⟩
     show (leafP b (p + 1) n).l.length + 1 ≤ (leafP b (p + 1) n).at_ - i
     omega
    |true =>
     rw [elemP_open d hs hf]
     obtain ⟨q1, q2, q3⟩ := loop_len (b := b) (fun i => elemP b d i (((p + 1 : Nat) : Int) + n)) i (((p + 1 : Nat) : Int) + n) (fun j hj hj2 => ih j _ hj (.inr (by omega))) (b.length + 1) ⟨[evEnter p c t true n], 0, p + 1⟩ 1 (by show i ≤ p + 1; omega) (by show p + 1 ≤ _; omega) (by show 1 + 1 ≤ p + 1 - i; omega)
     generalize loopP (fun i => elemP b d i (((p + 1 : Nat) : Int) + n)) (b.length + 1) ⟨[evEnter p c t true n], 0, p + 1⟩ (((p + 1 : Nat) : Int) + n) = T at *
     by_cases hT : T.e ≠ 0
     ·rw [if_pos hT]; exact ⟨q1, q2, by omega⟩
     ·rw [if_neg hT]
      refine ⟨q1, q2, ?_⟩
      show (T.l ++ _).length ≤ T.at_ - i
      rw [List.length_append]; simpa using q3
  ·rw [elemP_err _ hs h0]; exact ⟨hpl.1, by show p ≤ _; omega, by simp⟩
end Go.Proofs.Ytiiimhamfibdbaa
/- What the reference's element gives where elements within it are looked at. -/
namespace Go.Proofs.Ytiiimhamfibdbaa
open Go.RowKit Go.PlainAid
set_option linter.unusedVariables false
end Go.Proofs.Ytiiimhamfibdbaa
/- What the reference's Whole of layer 9 gives. -/
namespace Go.Proofs.Ytiiimhamfibdbaa
open Go.RowKit Go.PlainAid
set_option linter.unusedVariables false
def evMost (depth : Int) : Nat := (max 0 (min depth 64)).toNat
theorem evMost_le (d : Int) : evMost d ≤ 64 := by unfold evMost; omega
def evW (b : ByteArray) (depth : Int) : List Ev × Int × Nat := evWhole (evMost depth) (bl b)
end Go.Proofs.Ytiiimhamfibdbaa
/- What the reference's Same of layer 9 gives of one and the same events. -/
namespace Go.Proofs.Ytiiimhamfibdbaa
open Go.RowKit Go.PlainAid
set_option linter.unusedVariables false
theorem evCs_at (l : List Ev) (i : Nat) (h : i < l.length) (k : Nat) (hk : k < 7) : (evCs l)[i * 7 + k]? = (evC l[i])[k]? := by
 induction l generalizing i with
 |nil => simp at h
 |cons e r ih =>
  show (evC e ++ evCs r)[i * 7 + k]? = _
  cases i with
  |zero => rw [List.getElem?_append_left (by simp [evC]; omega)]; simp
  |succ i =>
   rw [List.getElem?_append_right (by simp [evC]; omega), show (i + 1) * 7 + k - (evC e).length = i * 7 + k by simp [evC]; omega, ih i (by simpa using h)]
   rfl
theorem Evs.cellAt {w : World} {base g c : Nat} {l : List Ev} {n : Nat} (h : Evs w base (.slice (some ⟨g, 0, none⟩) n c) l) (i : Nat) (hi : i < l.length) (k : Nat) (hk : k < 7) : w.cell? ⟨g, i * 7 + k, none⟩ = (evC l[i])[k]? := by
 rw [← evCs_at l i hi k hk]
 have hlt : i * 7 + k < (evCs l).length := by rw [evCs_length]; omega
 have hc := World.ownsRow.cells h (g := g) rfl (i * 7 + k) _ (List.getElem?_eq_getElem hlt)
 rw [show (⟨g, 0, none⟩ : Addr).add (i * 7 + k) = ⟨g, i * 7 + k, none⟩ by unfold Addr.add; split <;> simp_all] at hc
 rw [hc, List.getElem?_eq_getElem hlt]
theorem Evs.evAt {w : World} {base g c : Nat} {l : List Ev} {m : Nat} (h : Evs w base (.slice (some ⟨g, 0, none⟩) m c) l) (i : Nat) (hi : i < l.length) {k p c' t : Int} {f : Bool} {n b : Int} (he : l[i] = ⟨k, p, c', t, f, n, b⟩) :
  w.cell? ⟨g, i * 7, none⟩ = some (.int .i64 k) ∧ w.cell? ⟨g, i * 7 + 1, none⟩ = some (.int .i64 p) ∧ w.cell? ⟨g, i * 7 + 2, none⟩ = some (.int .i64 c') ∧ w.cell? ⟨g, i * 7 + 3, none⟩ = some (.int .i64 t) ∧ w.cell? ⟨g, i * 7 + 4, none⟩ = some (.bool f) ∧ w.cell? ⟨g, i * 7 + 5, none⟩ = some (.int .i64 n) ∧ w.cell? ⟨g, i * 7 + 6, none⟩ = some (.int .u8 b) := by
 have hc := h.cellAt i hi
 rw [he] at hc
 exact ⟨hc 0 (by decide), hc 1 (by decide), hc 2 (by decide), hc 3 (by decide), hc 4 (by decide), hc 5 (by decide), hc 6 (by decide)⟩
end Go.Proofs.Ytiiimhamfibdbaa
/- What the laws of layer 9 (and later ones) need of a machine's calls, whatever its memory is: MA says that block k holds a machine in state m, that writes the blocks F alone. -/
namespace Go.Proofs.Ytiiimhamfibdbaa
open Go.RowKit Go.PlainAid
set_option linter.unusedVariables false
abbrev EvPred := World → Nat → (Nat → Prop) → Nat → EM → Prop
structure EvSpec (MA : EvPred) : Prop where
 lt : ∀ {w k F d m}, MA w k F d m → ∀ i, F i → i < w.heap.size
 aside : ∀ {w w' k F F' d m}, MA w k F d m → Chg F' w w' → (∀ i, F i → ¬ F' i) → MA w' k F d m
 new : ∀ (depth : Int) (w : World), -9223372036854775808 ≤ depth ∧ depth ≤ 9223372036854775807 →
  Calls Try.prog 8 #[.int .i64 depth] w fun e w' => ∃ k F, e = .returned (.pointer (some ⟨k, 0, none⟩)) ∧ (∀ i, F i → w.heap.size ≤ i) ∧ MA w' k F (evMost depth) EM.new ∧ Below w.heap.size w w'
 push : ∀ {w k F d m} (b : Int), MA w k F d m → 0 ≤ b → b ≤ 255 → m.at_ ≤ 1000000 →
  Calls Try.prog 10 #[.pointer (some ⟨k, 0, none⟩), .int .u8 b] w fun e w' => ∃ v F', e = .returned (.tuple #[v, .int .i64 (m.step d b).1]) ∧ Evs w' w.heap.size v (m.step d b).2.1 ∧ (∀ i, F' i → F i ∨ w.heap.size ≤ i) ∧ (∀ i, v.ownBlock = some i → ¬ F' i) ∧ MA w' k F' d (m.step d b).2.2 ∧ Chg F w w'
 done : ∀ {w k F d m}, MA w k F d m →
  Calls Try.prog 12 #[.pointer (some ⟨k, 0, none⟩)] w fun e w' => e = .returned (.bool m.done) ∧ ∃ n, w' = w.drewN n
end Go.Proofs.Ytiiimhamfibdbaa
/- A machine's run, piece by piece, in plain words. They hold of numbers alone. -/
namespace Go.Proofs.Ytiiimhamfibdbaa
set_option linter.unusedVariables false
def EM.all (d : Nat) : EM → List Int → List Ev → Option (EM × List Ev)
 |m, [], acc => some (m, acc)
 |m, x :: r, acc => if (m.step d x).1 ≠ 0 then none else EM.all d (m.step d x).2.2 r (acc ++ (m.step d x).2.1)
theorem EM.all_append (d : Nat) (l r : List Int) : ∀ (m : EM) (acc : List Ev), EM.all d m (l ++ r) acc = (EM.all d m l acc).bind fun q => EM.all d q.1 r q.2 := by
 induction l with
 |nil => intro m acc; rfl
 |cons x l ih =>
  intro m acc
  rw [List.cons_append, EM.all, EM.all]
  by_cases h : (m.step d x).1 ≠ 0
  ·rw [if_pos h, if_pos h]; rfl
  ·rw [if_neg h, if_neg h, ih]
theorem EM.run_some (d : Nat) (l : List Int) : ∀ (m : EM) (acc : List Ev) {q : EM × List Ev}, EM.all d m l acc = some q → ∀ r, EM.run d m (l ++ r) acc = EM.run d q.1 r q.2 := by
 induction l with
 |nil => intro m acc q h r; cases h; rfl
 |cons x l ih =>
  intro m acc q h r
  rw [EM.all] at h
  by_cases h1 : (m.step d x).1 ≠ 0
  ·rw [if_pos h1] at h; cases h
  ·rw [if_neg h1] at h
   rw [List.cons_append, EM.run, if_neg h1]
   exact ih _ _ h r
theorem EM.run_done (d : Nat) {l : List Int} {m : EM} {acc : List Ev} {q : EM × List Ev} (h : EM.all d m l acc = some q) : EM.run d m l acc = (q.2, if q.1.done = true then 0 else 2, q.1.at_) := by
 have := EM.run_some d l m acc h []
 rw [List.append_nil] at this
 rw [this]; rfl
theorem EM.run_none (d : Nat) (l : List Int) : ∀ (m : EM) (acc : List Ev), EM.all d m l acc = none → ∀ r, EM.run d m (l ++ r) acc = EM.run d m l acc := by
 induction l with
 |nil => intro m acc h; cases h
 |cons x l ih =>
  intro m acc h r
  rw [EM.all] at h
  rw [List.cons_append, EM.run, EM.run]
  by_cases h1 : (m.step d x).1 ≠ 0
  ·rw [if_pos h1, if_pos h1]
  ·rw [if_neg h1] at h
   rw [if_neg h1, if_neg h1]
   exact ih _ _ h r
theorem EM.step_ok {d : Nat} {m : EM} {x : Int} (h : (m.step d x).1 = 0) : (m.step d x).2.2.at_ = m.at_ + 1 ∧ (m.step d x).2.2.over = 0 ∧ m.over = 0 ∧ m.done = false := by
 revert h
 unfold EM.step headM
 by_cases h0 : m.over ≠ 0
 ·rw [if_pos h0]; intro h; exact absurd h h0
 ·rw [if_neg h0]
  have hov : m.over = 0 := by simpa using h0
  by_cases h1 : m.done = true
  ·rw [if_pos h1]; simp
  ·rw [if_neg h1]
   have hdn : m.done = false := by simpa using h1
   by_cases h2 : 0 < m.leaf
   ·rw [if_pos h2]
    by_cases h3 : m.leaf = 1
    ·rw [if_pos h3]; intro _; exact ⟨rfl, rfl, hov, hdn⟩
    ·rw [if_neg h3]; intro _; exact ⟨rfl, hov, hov, hdn⟩
   ·rw [if_neg h2]
    by_cases h4 : m.st.head? = some 0
    ·rw [if_pos h4]; simp
    ·rw [if_neg h4]
     by_cases h5 : (hdGet (m.hd ++ [x])).2.2.2.2.2 = 2
     ·rw [if_pos h5]; intro _; exact ⟨rfl, hov, hov, hdn⟩
     ·rw [if_neg h5]
      by_cases h6 : (hdGet (m.hd ++ [x])).2.2.2.2.2 ≠ 0
      ·rw [if_pos h6]; intro h; exact absurd h h6
      ·rw [if_neg h6]
       by_cases h7 : headE d (pays m.st 1) (hdGet (m.hd ++ [x])).2.2.1 (hdGet (m.hd ++ [x])).2.2.2.1 ≠ 0
       ·rw [if_pos h7]; intro h; exact absurd h h7
       ·rw [if_neg h7]
        intro _
        refine ⟨?_, ?_, hov, hdn⟩
        ·show (if _ then _ else _ : EM).at_ = _
         split
         ·rfl
         ·split <;> rfl
        ·show (if _ then _ else _ : EM).over = _
         split
         ·rfl
         ·split <;> rfl
theorem headE_vals (d : Nat) (st : List Int) (f : Bool) (n : Int) : headE d st f n = 0 ∨ headE d st f n = 5 ∨ headE d st f n = 10 := by
 unfold headE
 split <;> (repeat' split) <;> simp
theorem EM.step_two {d : Nat} {m : EM} {x : Int} (h : m.over ≠ 2) : (m.step d x).1 ≠ 2 := by
 unfold EM.step
 by_cases h0 : m.over ≠ 0
 ·rw [if_pos h0]; exact h
 ·rw [if_neg h0]
  by_cases h1 : m.done = true
  ·rw [if_pos h1]; simp
  ·rw [if_neg h1]
   by_cases h2 : 0 < m.leaf
   ·rw [if_pos h2]; split <;> simp
   ·rw [if_neg h2]
    by_cases h4 : m.st.head? = some 0
    ·rw [if_pos h4]; simp
    ·rw [if_neg h4]
     by_cases h5 : (hdGet (m.hd ++ [x])).2.2.2.2.2 = 2
     ·rw [if_pos h5]; simp
     ·rw [if_neg h5]
      by_cases h6 : (hdGet (m.hd ++ [x])).2.2.2.2.2 ≠ 0
      ·rw [if_pos h6]; exact h5
      ·rw [if_neg h6]
       by_cases h7 : headE d (pays m.st 1) (hdGet (m.hd ++ [x])).2.2.1 (hdGet (m.hd ++ [x])).2.2.2.1 ≠ 0
       ·rw [if_pos h7]
        show headE d (pays m.st 1) (hdGet (m.hd ++ [x])).2.2.1 (hdGet (m.hd ++ [x])).2.2.2.1 ≠ 2
        have := headE_vals d (pays m.st 1) (hdGet (m.hd ++ [x])).2.2.1 (hdGet (m.hd ++ [x])).2.2.2.1
        omega
       ·rw [if_neg h7]; simp
theorem EM.all_at (d : Nat) (l : List Int) : ∀ (m : EM) (acc : List Ev) {q : EM × List Ev}, EM.all d m l acc = some q → m.over = 0 → q.1.at_ = m.at_ + l.length ∧ q.1.over = 0 := by
 induction l with
 |nil => intro m acc q h h0; cases h; exact ⟨rfl, h0⟩
 |cons x l ih =>
  intro m acc q h h0
  rw [EM.all] at h
  by_cases h1 : (m.step d x).1 ≠ 0
  ·rw [if_pos h1] at h; cases h
  ·rw [if_neg h1] at h
   obtain ⟨s1, s2, _, _⟩ := EM.step_ok (d := d) (m := m) (x := x) (by simpa using h1)
   obtain ⟨q1, q2⟩ := ih _ _ h s2
   exact ⟨by rw [q1, s1, List.length_cons]; omega, q2⟩
theorem EM.all_none (d : Nat) (l : List Int) : ∀ (m : EM) (acc : List Ev), EM.all d m l acc = none → m.over = 0 → (EM.run d m l acc).2.1 ≠ 0 ∧ (EM.run d m l acc).2.1 ≠ 2 ∧ m.at_ ≤ (EM.run d m l acc).2.2 ∧ (EM.run d m l acc).2.2 < m.at_ + l.length := by
 induction l with
 |nil => intro m acc h; cases h
 |cons x l ih =>
  intro m acc h h0
  rw [EM.all] at h
  rw [EM.run]
  by_cases h1 : (m.step d x).1 ≠ 0
  ·rw [if_pos h1]
   exact ⟨h1, EM.step_two (by omega), Nat.le_refl _, by simp⟩
  ·rw [if_neg h1] at h ⊢
   obtain ⟨s1, s2, _, _⟩ := EM.step_ok (d := d) (m := m) (x := x) (by simpa using h1)
   obtain ⟨q1, q2, q3, q4⟩ := ih _ _ h s2
   rw [s1] at q3 q4
   exact ⟨q1, q2, by omega, by rw [List.length_cons]; omega⟩
end Go.Proofs.Ytiiimhamfibdbaa
/- Layer 9: what the laws need beside the contracts. -/
namespace Go.Proofs.Ytiiimhamfibdbaa
open Go.RowKit Go.PlainAid
set_option linter.unusedVariables false
theorem draws_below' {a : World} (w : World) (n : Nat) (h : a.heap.size ≤ w.heap.size) : Below a.heap.size w (w.drewN n) := ⟨rfl, rfl, rfl, Nat.le_refl _, fun _ _ => rfl⟩
theorem evW_len (b : ByteArray) (d : Int) : (evW b d).1.length ≤ b.size := by
 unfold evW
 rw [whole_is (bl b) (bl_isB b) (evMost d)]
 have h := elem_len (bl b) (bl_isB b) (evMost d) 0 (-1) (Nat.zero_le _) (.inl rfl)
 obtain ⟨_, h2, h3⟩ := h
 rw [bl_length] at h2
 show (elemP (bl b) (evMost d) 0 (-1)).l.length ≤ b.size
 omega
end Go.Proofs.Ytiiimhamfibdbaa
/- Layer 9: a machine as a law sees it, and a list of events that grows. -/
namespace Go.Proofs.Ytiiimhamfibdbaa
open Go.RowKit Go.PlainAid
set_option linter.unusedVariables false
structure MOn (MA : EvPred) (a w : World) (k : Nat) (F : Nat → Prop) (d : Nat) (m : EM) : Prop where
 at_ : MA w k F d m
 own : ∀ i, F i → a.heap.size ≤ i
 bel : Below a.heap.size a w
section
variable {MA : EvPred} {a w : World} {k : Nat} {F : Nat → Prop} {d : Nat} {m : EM}
theorem MOn.step (H : EvSpec MA) (h : MOn MA a w k F d m) {w' : World} (hb : Below w.heap.size w w') : MOn MA a w' k F d m :=
 ⟨H.aside (F' := fun _ => False) h.at_ ⟨hb.os, hb.tape, hb.output, hb.size, fun i hi _ => hb.block i hi⟩ (fun _ _ h => h), h.own, h.bel.trans (hb.mono h.bel.size)⟩
theorem EvSpec.new_on (H : EvSpec MA) (depth : Int) (hd : -9223372036854775808 ≤ depth ∧ depth ≤ 9223372036854775807) (hB : Below a.heap.size a w) :
  Calls Try.prog 8 #[.int .i64 depth] w fun e w' => ∃ k F, e = .returned (.pointer (some ⟨k, 0, none⟩)) ∧ MOn MA a w' k F (evMost depth) EM.new ∧ Below w.heap.size w w' := by
 refine (H.new depth w hd).mono ?_
 rintro e w' ⟨k, F, h1, h2, h3, h4⟩
 exact ⟨k, F, h1, ⟨h3, fun i hi => Nat.le_trans hB.size (h2 i hi), hB.trans (h4.mono hB.size)⟩, h4⟩
theorem EvSpec.push_on (H : EvSpec MA) (h : MOn MA a w k F d m) (b : Int) (h0 : 0 ≤ b) (h1 : b ≤ 255) (hat : m.at_ ≤ 1000000) {er : Int} {l : List Ev} {m' : EM} (hs : m.step d b = (er, l, m')) :
  Calls Try.prog 10 #[.pointer (some ⟨k, 0, none⟩), .int .u8 b] w fun e w' => ∃ oa n c F', e = .returned (.tuple #[.slice oa n c, .int .i64 er]) ∧ Evs w' w.heap.size (.slice oa n c) l ∧ n = l.length ∧ MOn MA a w' k F' d m' ∧ (∀ i, F' i → F i ∨ w.heap.size ≤ i) ∧ Chg F w w' := by
 have hp := H.push b h.at_ h0 h1 hat
 rw [hs] at hp
 refine hp.mono ?_
 rintro e w' ⟨v, F', e1, e2, e3, e4, e5, e6⟩
 obtain ⟨oa, c, rfl⟩ := e2.form
 exact ⟨oa, _, c, F', e1, e2, rfl, ⟨e5, fun i hi => by rcases e3 i hi with g | g; exact h.own i g; exact Nat.le_trans h.bel.size g, e6.to_below h.bel h.own⟩, e3, e6⟩
theorem EvSpec.done_on (H : EvSpec MA) (h : MOn MA a w k F d m) :
  Calls Try.prog 12 #[.pointer (some ⟨k, 0, none⟩)] w fun e w' => e = .returned (.bool m.done) ∧ MOn MA a w' k F d m ∧ ∃ n, w' = w.drewN n := by
 refine (H.done h.at_).mono ?_
 rintro e w' ⟨h1, n, rfl⟩
 exact ⟨h1, h.step H (draws_below' w n (Nat.le_refl _)), n, rfl⟩
theorem Evs.chg {v : Value} {l : List Ev} {base : Nat} (h : Evs w base v l) {w' : World} (hc : Chg F w w') (hF : ∀ i, v.ownBlock = some i → ¬ F i) : Evs w' base v l := by
 obtain ⟨hl, h1 | ⟨g, cap, cur, hv, hg, hh, hn, hcm, hs, hk⟩⟩ := h
 ·exact ⟨hl, .inl h1⟩
 ·refine ⟨hl, .inr ⟨g, cap, cur, hv, hg, ?_, hn, hcm, hs, hk⟩⟩
  have hlt : g < w.heap.size := by
   rcases Nat.lt_or_ge g w.heap.size with h1 | h1
   ·exact h1
   ·rw [Array.getElem?_eq_none h1] at hh; cases hh
  rw [hc.block g hlt (hF g (by rw [hv]; rfl))]; exact hh
end
theorem EM.step_err {d : Nat} {m : EM} {x : Int} (h : (m.step d x).1 ≠ 0) : (m.step d x).2.1 = [] ∧ (m.step d x).2.2.over = (m.step d x).1 ∧ (m.step d x).2.2.at_ = m.at_ := by
 revert h
 unfold EM.step
 by_cases h0 : m.over ≠ 0
 ·rw [if_pos h0]; intro _; exact ⟨rfl, rfl, rfl⟩
 ·rw [if_neg h0]
  by_cases h1 : m.done = true
  ·rw [if_pos h1]; intro _; exact ⟨rfl, rfl, rfl⟩
  ·rw [if_neg h1]
   by_cases h2 : 0 < m.leaf
   ·rw [if_pos h2]; split <;> simp
   ·rw [if_neg h2]
    by_cases h4 : m.st.head? = some 0
    ·rw [if_pos h4]; intro _; exact ⟨rfl, rfl, rfl⟩
    ·rw [if_neg h4]
     by_cases h5 : (hdGet (m.hd ++ [x])).2.2.2.2.2 = 2
     ·rw [if_pos h5]; simp
     ·rw [if_neg h5]
      by_cases h6 : (hdGet (m.hd ++ [x])).2.2.2.2.2 ≠ 0
      ·rw [if_pos h6]; intro _; exact ⟨rfl, rfl, rfl⟩
      ·rw [if_neg h6]
       by_cases h7 : headE d (pays m.st 1) (hdGet (m.hd ++ [x])).2.2.1 (hdGet (m.hd ++ [x])).2.2.2.1 ≠ 0
       ·rw [if_pos h7]; intro _; exact ⟨rfl, rfl, rfl⟩
       ·rw [if_neg h7]; simp
theorem EM.step_over {d : Nat} {m : EM} {x : Int} (h : m.over ≠ 0) : m.step d x = (m.over, [], m) := by unfold EM.step; rw [if_pos h]
theorem bl_take_succ (b : ByteArray) (i : Nat) (h : i < b.size) : (bl b).take (i + 1) = (bl b).take i ++ [bt b i] := by
 have hl : i < (bl b).length := by rw [bl_length]; exact h
 rw [List.take_add_one, List.getElem?_eq_getElem hl, Option.toList_some, bl_get]
def allTo (b : ByteArray) (dep : Int) (i : Nat) : Option (EM × List Ev) := EM.all (evMost dep) EM.new ((bl b).take i) []
theorem allTo_zero (b : ByteArray) (dep : Int) : allTo b dep 0 = some (EM.new, []) := rfl
theorem allTo_succ {b : ByteArray} {dep : Int} {i : Nat} (h : i < b.size) {m : EM} {acc : List Ev} (ha : allTo b dep i = some (m, acc)) {m' : EM} {l : List Ev} (hs : m.step (evMost dep) (bt b i) = (0, l, m')) : allTo b dep (i + 1) = some (m', acc ++ l) := by
 unfold allTo at ha ⊢
 rw [bl_take_succ b i h, EM.all_append, ha]
 show EM.all (evMost dep) m [bt b i] acc = _
 rw [EM.all, hs]
 rfl
theorem allTo_err {b : ByteArray} {dep : Int} {i : Nat} (h : i < b.size) {m : EM} {acc : List Ev} (ha : allTo b dep i = some (m, acc)) {m' : EM} {l : List Ev} {er : Int} (hs : m.step (evMost dep) (bt b i) = (er, l, m')) (he : er ≠ 0) : evW b dep = (acc, er, i) := by
 unfold allTo at ha
 unfold evW evWhole
 have hat := EM.all_at _ _ EM.new [] ha rfl
 have hr := EM.run_some _ _ EM.new [] ha ((bl b).drop i)
 rw [List.take_append_drop] at hr
 rw [hr, bl_drop b i h, EM.run, hs, if_pos he, hat.1]
 show (_, _, 0 + ((bl b).take i).length) = _
 rw [List.length_take, bl_length]
 congr 2
 omega
theorem allTo_end {b : ByteArray} {dep : Int} {m : EM} {acc : List Ev} (ha : allTo b dep b.size = some (m, acc)) : evW b dep = (acc, if m.done = true then 0 else 2, b.size) := by
 unfold allTo at ha
 rw [List.take_of_length_le (by rw [bl_length]; exact Nat.le_refl _)] at ha
 unfold evW evWhole
 rw [EM.run_done _ ha, (EM.all_at _ _ EM.new [] ha rfl).1]
 show (_, _, 0 + (bl b).length) = _
 rw [bl_length, Nat.zero_add]
theorem allTo_at {b : ByteArray} {dep : Int} {i : Nat} (h : i ≤ b.size) {m : EM} {acc : List Ev} (ha : allTo b dep i = some (m, acc)) : m.at_ = i ∧ m.over = 0 := by
 unfold allTo at ha
 have := EM.all_at _ _ EM.new [] ha rfl
 refine ⟨?_, this.2⟩
 rw [this.1]
 show 0 + ((bl b).take i).length = i
 rw [List.length_take, bl_length]; omega
/-! ### How much a byte can bring about -/
theorem popS_len (st : List Int) : (popS st).length ≤ st.length := by
 induction st with
 |nil => simp [popS]
 |cons x r ih =>
  rw [popS]
  by_cases h : x = 0
  ·rw [if_pos h, List.length_cons]; omega
  ·rw [if_neg h]; exact Nat.le_refl _
theorem headE_room {d : Nat} {st : List Int} {n : Int} (h : headE d st true n = 0) : st.length < d := by
 unfold headE at h
 split at h
 ·by_cases hd : d ≤ 0
  ·rw [if_pos ⟨rfl, hd⟩] at h; simp at h
  ·show 0 < d; omega
 ·rename_i y r
  by_cases hy : y < n
  ·rw [if_pos hy] at h; simp at h
  ·rw [if_neg hy] at h
   by_cases hd : d ≤ (y :: r).length
   ·rw [if_pos ⟨rfl, hd⟩] at h; simp at h
   ·omega
theorem headL_open (st : List Int) (p : Nat) (c t n : Int) : headL st p c t true n = evEnter p c t true n :: popE (n :: pays st n) p := if_pos rfl
theorem headM_open (st : List Int) (p : Nat) (n : Int) : headM st p true n = EM.fin (n :: pays st n) (p + 1) := if_pos rfl
theorem headL_none (st : List Int) (p : Nat) (c t : Int) : headL st p c t false 0 = evLeaf p c t false 0 :: evEnd p :: popE st p := (if_neg (by simp)).trans (if_pos rfl)
theorem headM_none (st : List Int) (p : Nat) : headM st p false 0 = EM.fin st (p + 1) := (if_neg (by simp)).trans (if_pos rfl)
theorem headL_leaf {st : List Int} {p : Nat} {c t n : Int} (h : ¬ n = 0) : headL st p c t false n = [evLeaf p c t false n] := (if_neg (by simp)).trans (if_neg h)
theorem headM_leaf {st : List Int} {p : Nat} {n : Int} (h : ¬ n = 0) : headM st p false n = ⟨pays st n, [], n, p + 1, false, 0⟩ := (if_neg (by simp)).trans (if_neg h)
section
variable {MA : EvPred} {a w : World} {k : Nat} {F : Nat → Prop} {d : Nat} {m : EM}
theorem MOn.beside (H : EvSpec MA) (h : MOn MA a w k F d m) {w' : World} {G : Nat → Prop} (hc : Chg G w w') (hG : ∀ i, F i → ¬ G i) (hB : ∀ i, G i → a.heap.size ≤ i) : MOn MA a w' k F d m :=
 ⟨H.aside h.at_ hc hG, h.own, hc.to_below h.bel hB⟩
end
end Go.Proofs.Ytiiimhamfibdbaa
