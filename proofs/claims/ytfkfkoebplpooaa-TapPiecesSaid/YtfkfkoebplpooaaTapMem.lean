/- What a tap's memory is: its block, the bytes since the last head, the part's digest. -/
import Derived.Test.YtfkfkoebplpooaaTapSpec
import Derived.Test.YtfkfkoebplpooaaShaNew
import Derived.Test.YtfkfkoebplpooaaByteOwn
import Derived.Test.YtfkfkoebplpooaaMem2
import Derived.Lib.SliceRun
import Derived.Handy
namespace Go.Proofs.Ytfkfkoebplpooaa
open Go.RowKit Go.PlainAid
set_option linter.unusedVariables false
/-- The bytes since the last head: none, or a block. -/
def TH (w : World) (F : Nat → Prop) (v : Value) (l : List Int) : Prop :=
  (v = .slice none 0 0 ∧ l = [] ∧ ∀ i, ¬ F i) ∨ ∃ g, Sl w 5 v (u8s l) g ∧ ∀ i, F i ↔ i = g
/-- The part's digest: none, or a block. -/
def TD (w : World) (F : Nat → Prop) (v : Value) (bg : Bool) (pt : ByteArray) : Prop :=
  (v = .pointer none ∧ bg = false ∧ ∀ i, ¬ F i) ∨ ∃ g, v = .pointer (some ⟨g, 0, none⟩) ∧ bg = true ∧ HashAt w g pt ∧ ∀ i, F i ↔ i = g
theorem TH.chg {w w' : World} {F G : Nat → Prop} {v : Value} {l : List Int} (h : TH w F v l) (hc : Chg G w w') (hd : ∀ i, F i → ¬ G i) : TH w' F v l := by
  rcases h with h | ⟨g, ⟨sp, e1, e2, e3⟩, h⟩
  · exact .inl h
  · exact .inr ⟨g, ⟨sp, e1, e2, e3.chg hc (hd g ((h g).2 rfl))⟩, h⟩
theorem TD.chg {w w' : World} {F G : Nat → Prop} {v : Value} {bg : Bool} {pt : ByteArray} (h : TD w F v bg pt) (hc : Chg G w w') (hd : ∀ i, F i → ¬ G i) : TD w' F v bg pt := by
  rcases h with h | ⟨g, h1, h2, ⟨R, e1, e2, e3⟩, h⟩
  · exact .inl h
  · exact .inr ⟨g, h1, h2, ⟨R, e1, e2, e3.chg hc (hd g ((h g).2 rfl))⟩, h⟩
theorem TH.lt {w : World} {F : Nat → Prop} {v : Value} {l : List Int} (h : TH w F v l) (i : Nat) (hi : F i) : i < w.heap.size := by
  rcases h with ⟨_, _, h⟩ | ⟨g, hs, h⟩
  · exact absurd hi (h i)
  · rw [(h i).1 hi]; exact hs.lt
theorem TD.lt {w : World} {F : Nat → Prop} {v : Value} {bg : Bool} {pt : ByteArray} (h : TD w F v bg pt) (i : Nat) (hi : F i) : i < w.heap.size := by
  rcases h with ⟨_, _, h⟩ | ⟨g, _, _, hs, h⟩
  · exact absurd hi (h i)
  · rw [(h i).1 hi]; exact hs.lt
/-- One byte more. -/
theorem wpList_append_th {w : World} {ops : Array Oper} {rest : List Oper} {o : Oper} {a : Act} {Q : Exit → Act → World → Prop} (hgd : o.guard = none) (s x : Operand)
    (ho : o.op = .call { callee := .builtin .append, args := #[s, x], argTypes := #[41, 41] })
    {v : Value} {l : List Int} {F : Nat → Prop} (hv : a.eval s = v) (hs : TH w F v l)
    (gx c : Nat) (b : Int) (hx : a.eval x = .slice (some ⟨gx, 0, none⟩) 1 c) (hc : w.cell? ⟨gx, 0, none⟩ = some (.int .u8 b)) (h63 : l.length ≤ 1000000000000)
    (h : ∀ v' w' F', TH w' F' v' (l ++ [b]) → (∀ i, F' i → F i ∨ w.heap.size ≤ i) → Chg F w w' → wpList Try.prog ops Q rest (a.put o.dst v') w') : wpList Try.prog ops Q (o :: rest) a w := by
  rcases hs with ⟨rfl, rfl, hF⟩ | ⟨g, hS, hF⟩
  · refine wpList_append_bs1 hgd s x ho (base := w.heap.size) hv (Bs.nil _ _) (Nat.le_refl _) gx c b hx hc (Nat.zero_le _) ?_
    intro v' w' h1 h2
    obtain ⟨g0, c0, hv1, _⟩ := h1.shape (by simp)
    obtain ⟨g1, hs1, hg1⟩ := Sl.of_own h1 (by rw [hv1]; intro h; cases h)
    exact h v' w' (fun i => i = g1) (.inr ⟨g1, hs1, fun i => Iff.rfl⟩) (fun i hi => .inr (hi ▸ hg1)) ⟨h2.os, h2.tape, h2.output, h2.size, fun i hi _ => h2.block i hi (by intro h; cases h)⟩
  · refine wpList_append_byte hgd s x ho hv hS gx c b hx hc h63 ?_
    intro v' w' g' h1 h2 h3
    refine h v' w' (fun i => i = g') (.inr ⟨g', h1, fun i => Iff.rfl⟩) ?_ ⟨h3.os, h3.tape, h3.output, h3.size, fun i hi hn => h3.block i hi (by intro e; injection e with e; exact hn ((hF i).2 e))⟩
    rintro i rfl
    rcases h2 with h2 | h2
    · exact .inl ((hF _).2 h2)
    · exact .inr (Nat.le_of_eq h2.symm)
theorem conv_th {w : World} {F : Nat → Prop} {v : Value} {l : List Int} (h : TH w F v l) : (convert 41 9 v).run Try.prog w = .ok (.string (strOfNums l)) w := by
  rcases h with ⟨rfl, rfl, _⟩ | ⟨g, h, _⟩
  · exact run_convert_bytes_nil (P := Try.prog) w 41 5 Try.underlying41 Try.underlying5 0 0 9 Try.underlying9
  · exact conv_bytes h
/-- Its shape, and what stands there when it is emptied. -/
theorem TH.shape {w : World} {F : Nat → Prop} {v : Value} {l : List Int} (h : TH w F v l) :
    (v = .slice none 0 0 ∧ TH w F (.slice none 0 0) []) ∨ ∃ g c, v = .slice (some ⟨g, 0, none⟩) l.length c ∧ l.length ≤ c ∧ c ≤ maxLen ∧ TH w F (.slice (some ⟨g, 0, none⟩) 0 c) [] := by
  rcases h with ⟨rfl, rfl, h⟩ | ⟨g, hS, h⟩
  · exact .inl ⟨rfl, .inl ⟨rfl, rfl, h⟩⟩
  · obtain ⟨sp, e1, e2, e3⟩ := hS
    refine .inr ⟨g, (u8s l).length + sp.length, by rw [e1, u8s_length], by rw [u8s_length]; omega, e2, .inr ⟨g, ⟨u8s l ++ sp, ?_, ?_, e3⟩, h⟩⟩
    · show _ = Value.slice (some ⟨g, 0, none⟩) 0 (0 + _)
      rw [List.length_append]; congr 1; omega
    · show 0 + (u8s l ++ sp).length ≤ _
      rw [List.length_append]; omega
/-- A tap: its block k, what it holds. -/
structure TPs (w : World) (k : Nat) (F F1 F2 : Nat → Prop) (v hv : Value) (l : List Int) (s : TpS) : Prop where
  row : Row w k 44 [v, hv, .bool s.on]
  hd : TH w F1 v l
  dg : TD w F2 hv s.begun s.part
  eq : strOfNums l = s.head
  onb : s.on = true → s.begun = true
  n1 : ¬ F1 k
  n2 : ¬ F2 k
  dj : ∀ i, F1 i → ¬ F2 i
  all : ∀ i, F i ↔ i = k ∨ F1 i ∨ F2 i
def TpAt : TapPred := fun w k F s => ∃ F1 F2 v hv l, TPs w k F F1 F2 v hv l s
theorem tat_lt {w : World} {k : Nat} {F : Nat → Prop} {s : TpS} (h : TpAt w k F s) (i : Nat) (hi : F i) : i < w.heap.size := by
  obtain ⟨F1, F2, v, hv, l, h⟩ := h
  rcases (h.all i).1 hi with rfl | h1 | h1
  · exact h.row.lt
  · exact h.hd.lt i h1
  · exact h.dg.lt i h1
theorem tat_aside {w w' : World} {k : Nat} {F F' : Nat → Prop} {s : TpS} (h : TpAt w k F s) (hc : Chg F' w w') (hF : ∀ i, F i → ¬ F' i) : TpAt w' k F s := by
  obtain ⟨F1, F2, v, hv, l, h⟩ := h
  exact ⟨F1, F2, v, hv, l, h.row.chg hc (hF k ((h.all k).2 (.inl rfl))), h.hd.chg hc (fun i hi => hF i ((h.all i).2 (.inr (.inl hi)))), h.dg.chg hc (fun i hi => hF i ((h.all i).2 (.inr (.inr hi)))), h.eq, h.onb, h.n1, h.n2, h.dj, h.all⟩
theorem chg_cell {F : Nat → Prop} {w : World} {k : Nat} (hk : F k) (i : Nat) (v : Value) : Chg F w (w.setCell ⟨k, i, none⟩ v) :=
  ⟨rfl, rfl, rfl, by simp, fun j hj hn => Below.heap_setCell w _ v j (by show j ≠ k; intro e; subst e; exact hn hk)⟩
theorem chg_wide {F G : Nat → Prop} {w w' : World} (h : Chg F w w') (hF : ∀ i, F i → G i) : Chg G w w' := ⟨h.os, h.tape, h.output, h.size, fun i hi hn => h.block i hi (fun f => hn (hF i f))⟩
/-- Other bytes since the last head: their slice, stored. -/
theorem TPs.head {w X : World} {k : Nat} {F F1 F2 G : Nat → Prop} {v hv v1 : Value} {l l1 : List Int} {hd pt : ByteArray} {bg on : Bool} (h : TPs w k F F1 F2 v hv l ⟨hd, pt, bg, on⟩) {t : ByteArray}
    (h1 : TH X G v1 l1) (h2 : ∀ i, G i → F1 i ∨ w.heap.size ≤ i) (h3 : Chg F1 w X) (ht : strOfNums l1 = t) :
    TPs (X.setCell ⟨k, 0, none⟩ v1) k (fun i => i = k ∨ G i ∨ F2 i) G F2 v1 hv l1 ⟨t, pt, bg, on⟩ ∧ (∀ i, (i = k ∨ G i ∨ F2 i) → F i ∨ w.heap.size ≤ i) ∧ Chg F w (X.setCell ⟨k, 0, none⟩ v1) ∧ X.cell? ⟨k, 0, none⟩ = some v ∧ X.frozen? ⟨k, 0, none⟩ = false := by
  have hG : ¬ G k := fun g => by
    rcases h2 k g with q | q
    · exact h.n1 q
    · have := h.row.lt; omega
  have hR := h.row.chg h3 h.n1
  have hk : Chg (fun i => i = k) X (X.setCell ⟨k, 0, none⟩ v1) := chg_cell (F := fun i => i = k) rfl 0 v1
  have hD : ∀ i, F2 i → ¬ F1 i := fun i a b => h.dj i b a
  refine ⟨⟨hR.set 0 v1, h1.chg hk (fun i hi e => hG (e ▸ hi)), (h.dg.chg h3 hD).chg hk (fun i hi e => h.n2 (e ▸ hi)), ht, h.onb, hG, h.n2, ?_, fun i => Iff.rfl⟩, ?_, ?_, hR.cell 0, hR.frozen 0⟩
  · intro i hi hi2
    rcases h2 i hi with q | q
    · exact h.dj i q hi2
    · have := h.dg.lt i hi2; omega
  · rintro i (rfl | hi | hi)
    · exact .inl ((h.all _).2 (.inl rfl))
    · rcases h2 i hi with q | q
      · exact .inl ((h.all _).2 (.inr (.inl q)))
      · exact .inr q
    · exact .inl ((h.all _).2 (.inr (.inr hi)))
  · exact (chg_wide h3 (fun i hi => (h.all i).2 (.inr (.inl hi)))).trans (chg_wide hk (fun i e => (h.all i).2 (.inl e))) (fun i hi => .inl hi)
/-- Another digest at the same block. -/
theorem TPs.more {w X : World} {k g : Nat} {F F1 F2 : Nat → Prop} {v : Value} {l : List Int} {hd pt : ByteArray} {on : Bool} (h : TPs w k F F1 F2 v (.pointer (some ⟨g, 0, none⟩)) l ⟨hd, pt, true, on⟩) {pt1 : ByteArray}
    (h1 : HashAt X g pt1) (h3 : w.grownBy X (some g)) :
    TPs X k F F1 F2 v (.pointer (some ⟨g, 0, none⟩)) l ⟨hd, pt1, true, on⟩ ∧ Chg F w X := by
  have hF2 : ∀ i, F2 i ↔ i = g := by
    rcases h.dg with ⟨h0, _, _⟩ | ⟨g0, h0, _, _, h4⟩
    · cases h0
    · injection h0 with h0; injection h0 with h0; injection h0 with h0; subst h0; exact h4
  have hc : Chg F2 w X := ⟨h3.os, h3.tape, h3.output, h3.size, fun i hi hn => h3.block i hi (by intro e; injection e with e; exact hn ((hF2 i).2 e))⟩
  exact ⟨⟨h.row.chg hc h.n2, h.hd.chg hc h.dj, .inr ⟨g, rfl, rfl, h1, hF2⟩, h.eq, fun _ => rfl, h.n1, h.n2, h.dj, h.all⟩, chg_wide hc (fun i hi => (h.all i).2 (.inr (.inr hi)))⟩
/-- A new digest, stored. -/
theorem TPs.other {w X : World} {k g : Nat} {F F1 F2 : Nat → Prop} {v hv : Value} {l : List Int} {hd pt pt1 : ByteArray} {bg on : Bool} (h : TPs w k F F1 F2 v hv l ⟨hd, pt, bg, on⟩)
    (hb : Below w.heap.size w X) (hg : w.heap.size ≤ g) (hH : HashAt X g pt1) :
    TPs (X.setCell ⟨k, 1, none⟩ (.pointer (some ⟨g, 0, none⟩))) k (fun i => i = k ∨ F1 i ∨ i = g) F1 (fun i => i = g) v (.pointer (some ⟨g, 0, none⟩)) l ⟨hd, pt1, true, on⟩ ∧ (∀ i, (i = k ∨ F1 i ∨ i = g) → F i ∨ w.heap.size ≤ i) ∧ Chg F w (X.setCell ⟨k, 1, none⟩ (.pointer (some ⟨g, 0, none⟩))) ∧ X.cell? ⟨k, 1, none⟩ = some hv ∧ X.frozen? ⟨k, 1, none⟩ = false := by
  have hR := h.row.below hb h.row.lt
  have hk : Chg (fun i => i = k) X (X.setCell ⟨k, 1, none⟩ (.pointer (some ⟨g, 0, none⟩))) := chg_cell (F := fun i => i = k) rfl 1 _
  have hkg : k ≠ g := by have := h.row.lt; omega
  have hT : TH X F1 v l := h.hd.chg (Chg.of_below (F := fun _ => False) hb) (fun _ _ h => h)
  have hD : TD X (fun i => i = g) (.pointer (some ⟨g, 0, none⟩)) true pt1 := .inr ⟨g, rfl, rfl, hH, fun i => Iff.rfl⟩
  refine ⟨⟨hR.set 1 _, hT.chg hk (fun i hi e => h.n1 (e ▸ hi)), hD.chg hk (fun i hi e => hkg (e.symm.trans hi)), h.eq, fun _ => rfl, h.n1, hkg, ?_, fun i => Iff.rfl⟩, ?_, ?_, hR.cell 1, hR.frozen 1⟩
  · intro i hi e
    have := h.hd.lt i hi
    omega
  · rintro i (rfl | hi | rfl)
    · exact .inl ((h.all _).2 (.inl rfl))
    · exact .inl ((h.all _).2 (.inr (.inl hi)))
    · exact .inr hg
  · exact (Chg.of_below (F := F) hb).trans (chg_wide hk (fun i e => (h.all i).2 (.inl e))) (fun i hi => .inl hi)
theorem TPs.hash {w : World} {k g : Nat} {F F1 F2 : Nat → Prop} {v : Value} {l : List Int} {s : TpS} (h : TPs w k F F1 F2 v (.pointer (some ⟨g, 0, none⟩)) l s) : HashAt w g s.part := by
  rcases h.dg with ⟨h0, _, _⟩ | ⟨g0, h0, _, h3, _⟩
  · cases h0
  · injection h0 with h0; injection h0 with h0; injection h0 with h0; subst h0; exact h3
/-- It goes on, or not. -/
theorem TPs.goes {w : World} {k : Nat} {F F1 F2 : Nat → Prop} {v hv : Value} {l : List Int} {hd pt : ByteArray} {bg on : Bool} (h : TPs w k F F1 F2 v hv l ⟨hd, pt, bg, on⟩) (o : Bool) (ho : o = true → bg = true) :
    TPs (w.setCell ⟨k, 2, none⟩ (.bool o)) k F F1 F2 v hv l ⟨hd, pt, bg, o⟩ ∧ Chg F w (w.setCell ⟨k, 2, none⟩ (.bool o)) := by
  have hk : Chg (fun i => i = k) w (w.setCell ⟨k, 2, none⟩ (.bool o)) := chg_cell (F := fun i => i = k) rfl 2 _
  exact ⟨⟨h.row.set 2 (.bool o), h.hd.chg hk (fun i hi e => h.n1 (e ▸ hi)), h.dg.chg hk (fun i hi e => h.n2 (e ▸ hi)), h.eq, ho, h.n1, h.n2, h.dj, h.all⟩, chg_wide hk (fun i e => (h.all i).2 (.inl e))⟩
end Go.Proofs.Ytfkfkoebplpooaa
