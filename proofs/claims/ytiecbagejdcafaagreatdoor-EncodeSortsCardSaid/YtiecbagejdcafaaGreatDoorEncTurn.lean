/- Names whose sets are turned round, as a law builds them: slices of attributes of a call's own, and a slice of those. -/
import Derived.Test.YtiecbagejdcafaaGreatDoorC1
import Derived.Test.YtiecbagejdcafaaGreatDoorB0
import Derived.Test.YtiecbagejdcafaaGreatDoorO1
import Derived.WalkKit
import Derived.WalkSpells
namespace Go.Proofs.YtiecbagejdcafaaGreatDoor
open Go.RowKit Go.PlainAid
set_option linter.unusedVariables false
structure RA where
 oo : Option Addr
 co : Nat
 x : AttrV
def raC (r : RA) : List Value := [.slice r.oo r.x.oid.length r.co, .int .i64 r.x.tag, .string r.x.text]
def racs (l : List RA) : List Value := l.flatMap raC
theorem racs_append (l m : List RA) : racs (l ++ m) = racs l ++ racs m := by simp [racs]
theorem racs_length (l : List RA) : (racs l).length = l.length * 3 := by
 induction l with
 |nil => rfl
 |cons e r ih => show (raC e ++ racs r).length = _; rw [List.length_append, ih]; simp [raC]; omega
theorem racs_one (l : List RA) : ∀ u ∈ racs l, u.oneCell' = true := by
 intro u hu
 obtain ⟨e, _, h⟩ := List.mem_flatMap.1 hu
 simp [raC] at h
 rcases h with rfl | rfl | rfl <;> rfl
theorem racs_at (l : List RA) (i : Nat) (h : i < l.length) (k : Nat) (hk : k < 3) : (racs l)[i * 3 + k]? = (raC l[i])[k]? := by
 induction l generalizing i with
 |nil => simp at h
 |cons e r ih =>
  show (raC e ++ racs r)[i * 3 + k]? = _
  cases i with
  |zero => rw [List.getElem?_append_left (by simp [raC]; omega)]; simp
  |succ i =>
   rw [List.getElem?_append_right (by simp [raC]; omega), show (i + 1) * 3 + k - (raC e).length = i * 3 + k by simp [raC]; omega, ih i (by simpa using h)]
   rfl
structure RaIn (w : World) (r : RA) : Prop where
 oid : Came w r.oo (ivs .u64 r.x.oid)
 cap : r.x.oid.length ≤ r.co ∧ r.co ≤ maxLen
theorem came_ras {w : World} {oa : Option Addr} {l : List AttrV} (h : CameAttrs w oa l) : ∃ R : List RA, R.map RA.x = l ∧ (∀ r ∈ R, RaIn w r) ∧ ∀ i (h : i < R.length), ∃ ad, oa = some ad ∧
  w.cell? (ad.add (i * 3)) = some (.slice R[i].oo R[i].x.oid.length R[i].co) ∧ w.cell? (at3 ad i 1) = some (.int .i64 R[i].x.tag) ∧ w.cell? (at3 ad i 2) = some (.string R[i].x.text) := by
 obtain ⟨R, hR, hQ⟩ := choose_list (n := l.length) (Q := fun i (r : RA) => ∃ h : i < l.length, r.x = l[i] ∧ ∃ ad, oa = some ad ∧ CameAttr w ad i r.x r.oo r.co) (fun i hi => by
  obtain ⟨ad, oo, co, h1, h2⟩ := h i hi
  exact ⟨⟨oo, co, l[i]⟩, hi, rfl, ad, h1, h2⟩)
 refine ⟨R, ?_, ?_, ?_⟩
 ·apply List.ext_getElem
  ·rw [List.length_map, hR]
  ·intro i h1 h2
   rw [List.getElem_map]
   exact (hQ i (by simpa using h1)).2.1
 ·intro r hr
  obtain ⟨i, hi, rfl⟩ := List.getElem_of_mem hr
  obtain ⟨_, _, ad, _, hc⟩ := hQ i hi
  exact ⟨hc.oid, hc.cap⟩
 ·intro i hi
  obtain ⟨_, _, ad, h1, hc⟩ := hQ i hi
  exact ⟨ad, h1, hc.c0, hc.c1, hc.c2⟩
theorem infoAttr : (Tryz.prog.info? 46).map (fun i => (i.zero, i.size, i.bytes)) = some (some (.agg #[.slice none 0 0, .int .i64 0, .string ⟨#[]⟩]), 3, 48) := by kernel_rfl
theorem infoSet : (Tryz.prog.info? 44).map (fun i => (i.zero, i.size, i.bytes)) = some (some (.slice none 0 0), 1, 24) := by kernel_rfl
def ARow (w : World) (base : Nat) (v : Value) (R : List RA) : Prop := w.ownsRow base 46 3 v R.length (racs R)
theorem ARow.nil (w : World) (base : Nat) : ARow w base (.slice none 0 0) [] := World.ownsRow_nil _ _ _ _
theorem ARow.one (w : World) (r : RA) : ARow (w.alloc (.cells #[.slice r.oo r.x.oid.length r.co, .int .i64 r.x.tag, .string r.x.text] 46)) w.heap.size (.slice (some ⟨w.heap.size, 0, none⟩) 1 1) [r] :=
 ⟨rfl, .inr ⟨w.heap.size, 1, #[.slice r.oo r.x.oid.length r.co, .int .i64 r.x.tag, .string r.x.text], rfl, Nat.le_refl _, heap_alloc_new w _, Nat.le_refl _, by unfold maxLen; omega, rfl, rfl⟩⟩
theorem ARow.keep {w w' : World} {base : Nat} {v : Value} {R : List RA} (h : ARow w base v R) (hb : ∀ b, v.ownBlock = some b → b < w.heap.size → w'.heap[b]? = w.heap[b]?) : ARow w' base v R := by
 obtain ⟨hl, h1 | ⟨g, cap, cur, rfl, hg, hh, hn, hcp, hs, ht⟩⟩ := h
 ·exact ⟨hl, .inl h1⟩
 ·refine ⟨hl, .inr ⟨g, cap, cur, rfl, hg, ?_, hn, hcp, hs, ht⟩⟩
  have hlt : g < w.heap.size := by
   rcases Nat.lt_or_ge g w.heap.size with h1 | h1
   ·exact h1
   ·rw [Array.getElem?_eq_none h1] at hh; cases hh
  rw [hb g rfl hlt]; exact hh
theorem ARow.below {w w' : World} {base : Nat} {v : Value} {R : List RA} (h : ARow w base v R) (hb : Below w.heap.size w w') : ARow w' base v R := h.keep (fun b _ hb' => hb.block b hb')
theorem ARow.shape {w : World} {base : Nat} {v : Value} {R : List RA} (h : ARow w base v R) : (v = .slice none 0 0 ∧ R = []) ∨ ∃ g c, v = .slice (some ⟨g, 0, none⟩) R.length c ∧ R.length ≤ c ∧ c ≤ maxLen ∧ base ≤ g ∧ g < w.heap.size := by
 rcases own_shape h with ⟨h1, h2⟩ | h1
 ·exact .inl ⟨h1, List.eq_nil_of_length_eq_zero h2⟩
 ·exact .inr h1
theorem ARow.mono {w : World} {base base' : Nat} {v : Value} {R : List RA} (h : ARow w base v R) (hb : base' ≤ base) : ARow w base' v R := by
 obtain ⟨hl, h1 | ⟨g, cap, cur, hv, hg, hh⟩⟩ := h
 ·exact ⟨hl, .inl h1⟩
 ·exact ⟨hl, .inr ⟨g, cap, cur, hv, Nat.le_trans hb hg, hh⟩⟩
theorem wpList_append_attrs {w : World} {ops : Array Oper} {rest : List Oper} {o : Oper} {a : Act} {Q : Exit → Act → World → Prop} (hgd : o.guard = none) (s x : Operand)
  (ho : o.op = .call { callee := .builtin .append, args := #[s, x], argTypes := #[44, 44] })
  (base base2 : Nat) {v v2 : Value} {L M : List RA} (hv : a.eval s = v) (hs : ARow w base v L) (hx : a.eval x = v2) (h2 : ARow w base2 v2 M) (hb : base ≤ w.heap.size) (h63 : L.length + M.length ≤ 1000000000)
  (h : ∀ v' w', ARow w' base v' (L ++ M) → w.grownBy w' v.ownBlock → wpList Tryz.prog ops Q rest (a.put o.dst v') w') : wpList Tryz.prog ops Q (o :: rest) a w := by
 obtain ⟨i0, hi, hz0, hz1, hz2⟩ := info_parts infoAttr
 rcases h2.shape with ⟨rfl, rfl⟩ | ⟨g, c, rfl, hc1, hc2, _, _⟩
 ·have hsl : ∃ ad n cb, v = .slice ad n cb ∧ n ≤ cb := by
   rcases hs.shape with ⟨rfl, _⟩ | ⟨g, c, rfl, hc, _⟩
   ·exact ⟨none, 0, 0, rfl, Nat.le_refl _⟩
   ·exact ⟨_, _, c, rfl, hc⟩
  obtain ⟨ad, n, cb, rfl, hn⟩ := hsl
  refine wpList_plain hgd fun K hK => ?_
  unfold Oper.wp execOp
  simp only [ho, resolve, invoke, builtin, Sem.run_bind, Sem.run_pure, Result.andThen_ok, List.map_toArray, List.map_cons, List.map_nil, hv, hx, run_append_empty (P := Tryz.prog) w 44 o.type 46 i0 ad n cb 0 Tryz.underlying44 hi hn]
  exact hK _ _ (h _ w (by rw [List.append_nil]; exact hs) ⟨rfl, rfl, rfl, Nat.le_refl _, fun _ _ _ => rfl⟩)
 ·refine wpList_append_own _ hgd s x 44 ho base 46 i0 _ 3 48 Tryz.underlying44 hi hz0 hz1 hz2 rfl (by decide) v L.length (racs L) hv hs ⟨g, 0, none⟩ M.length c (racs M) hx (by rw [racs_length]) (World.ownsRow.cells h2 rfl) (racs_one _) (by unfold maxLen; omega) (by omega) hb ?_
  intro v' w' q1 q2 q3
  refine h v' w' ?_ q2
  unfold ARow
  rw [List.length_append, racs_append]; exact q1
theorem ARow.came {w0 w : World} {base : Nat} {v : Value} {R : List RA} (h : ARow w base v R) (hin : ∀ r ∈ R, RaIn w0 r) (hB : Below w0.heap.size w0 w) :
  ∃ oo co, v = .slice oo R.length co ∧ R.length ≤ co ∧ co ≤ maxLen ∧ CameAttrs w oo (R.map RA.x) := by
 have hsh := h.shape
 rcases hsh with ⟨rfl, rfl⟩ | ⟨g, c, rfl, h1, h2, _, _⟩
 ·exact ⟨none, 0, rfl, Nat.le_refl _, Nat.zero_le _, fun i hi => absurd hi (Nat.not_lt_zero _)⟩
 ·refine ⟨_, c, rfl, h1, h2, fun i hi => ?_⟩
  have hi' : i < R.length := by simpa using hi
  have hcell := fun k (hk : k < 3) => World.ownsRow.cells h (g := g) rfl (i * 3 + k) ((raC R[i])[k]'hk) (by rw [racs_at R i hi' k hk]; exact List.getElem?_eq_getElem hk)
  have hA : ∀ j, (⟨g, 0, none⟩ : Addr).add j = ⟨g, j, none⟩ := fun j => by unfold Addr.add; split <;> simp_all
  have e1 : at3 ⟨g, 0, none⟩ i 1 = ⟨g, i * 3 + 1, none⟩ := by unfold at3; rw [hA]
  have e2 : at3 ⟨g, 0, none⟩ i 2 = ⟨g, i * 3 + 2, none⟩ := by unfold at3; rw [hA]
  have hr := hin _ (List.getElem_mem hi')
  refine ⟨_, R[i].oo, R[i].co, rfl, ?_⟩
  rw [List.getElem_map]
  refine ⟨?_, ?_, ?_, hr.oid.below hB, hr.cap⟩
  ·have := hcell 0 (by decide); rw [hA] at this; rw [hA]; exact this
  ·have := hcell 1 (by decide); rw [hA] at this; rw [e1]; exact this
  ·have := hcell 2 (by decide); rw [hA] at this; rw [e2]; exact this
def TIn (w : World) (start : Nat) (tv : Value) (RR : List (List RA)) : Prop :=
 ∃ vals : List Value, vals.length = RR.length ∧ ((tv = .slice none 0 0 ∧ vals = []) ∨ ∃ g, Sl w 44 tv vals g ∧ start ≤ g) ∧
  ∀ i (h1 : i < vals.length) (h2 : i < RR.length), ARow w start vals[i] RR[i] ∧ ∀ b, vals[i].ownBlock = some b → tv.ownBlock ≠ some b
theorem TIn.nil (w : World) (start : Nat) : TIn w start (.slice none 0 0) [] := ⟨[], rfl, .inl ⟨rfl, rfl⟩, fun i h => absurd h (Nat.not_lt_zero _)⟩
theorem TIn.below {w w' : World} {start : Nat} {tv : Value} {RR : List (List RA)} (h : TIn w start tv RR) (hb : Below w.heap.size w w') : TIn w' start tv RR := by
 obtain ⟨vals, h1, h2, h3⟩ := h
 refine ⟨vals, h1, ?_, fun i q1 q2 => ⟨(h3 i q1 q2).1.below hb, (h3 i q1 q2).2⟩⟩
 rcases h2 with h2 | ⟨g, hs, hg⟩
 ·exact .inl h2
 ·exact .inr ⟨g, hs.keep hb, hg⟩
theorem TIn.block {w : World} {start : Nat} {tv : Value} {RR : List (List RA)} (h : TIn w start tv RR) {b : Nat} (hb : tv.ownBlock = some b) : start ≤ b ∧ b < w.heap.size := by
 obtain ⟨vals, h1, h2, h3⟩ := h
 rcases h2 with ⟨rfl, _⟩ | ⟨g, hs, hg⟩
 ·cases hb
 ·obtain ⟨c, rfl, _, _⟩ := hs.open rfl
  injection hb with hb
  subst hb
  exact ⟨hg, hs.lt⟩
theorem wpList_append_sets {w : World} {ops : Array Oper} {rest : List Oper} {o : Oper} {a : Act} {Q : Exit → Act → World → Prop} (hgd : o.guard = none) (s x : Operand)
  (ho : o.op = .call { callee := .builtin .append, args := #[s, x], argTypes := #[23, 23] })
  (start : Nat) {tv : Value} {RR : List (List RA)} (hv : a.eval s = tv) (hT : TIn w start tv RR) (gx : Nat) (lv : Value) (R : List RA) (hx : a.eval x = .slice (some ⟨gx, 0, none⟩) 1 1) (hc : w.cell? ⟨gx, 0, none⟩ = some lv)
  (hl : ARow w start lv R) (hne : ∀ b, lv.ownBlock = some b → tv.ownBlock ≠ some b) (hst : start ≤ w.heap.size) (h63 : RR.length + 1 ≤ 1000000000)
  (h : ∀ tv' w', TIn w' start tv' (RR ++ [R]) → w.grownBy w' tv.ownBlock → wpList Tryz.prog ops Q rest (a.put o.dst tv') w') : wpList Tryz.prog ops Q (o :: rest) a w := by
 obtain ⟨i0, hi, hz0, hz1, hz2⟩ := info_parts infoSet
 obtain ⟨vals, h1, h2, h3⟩ := hT
 have hlv : ∃ oo n c, lv = .slice oo n c := by
  rcases hl.shape with ⟨rfl, _⟩ | ⟨g, c, rfl, _⟩
  ·exact ⟨_, _, _, rfl⟩
  ·exact ⟨_, _, _, rfl⟩
 have hone : ∀ u ∈ [lv], u.oneCell' = true := by
  intro u hu
  obtain ⟨_, _, _, rfl⟩ := hlv
  simp at hu; subst hu; rfl
 have hcell : ∀ j u, [lv][j]? = some u → w.cell? ((⟨gx, 0, none⟩ : Addr).add j) = some u := by
  intro j u hj
  match j, hj with
  |0, hj => simp at hj; subst hj; rw [addr0]; exact hc
 -- what the new one is
 have fin : ∀ tv' w' g', Sl w' 44 tv' (vals ++ [lv]) g' → (tv.ownBlock = some g' ∨ w.heap.size ≤ g') → w.grownBy w' tv.ownBlock → start ≤ g' → TIn w' start tv' (RR ++ [R]) := by
  intro tv' w' g' hs' hg' hgr hst'
  refine ⟨vals ++ [lv], by rw [List.length_append, List.length_append, h1]; rfl, .inr ⟨g', hs', hst'⟩, ?_⟩
  obtain ⟨c', hc', _, _⟩ := hs'.open rfl
  have hob : tv'.ownBlock = some g' := by rw [hc']; rfl
  have each : ∀ (v : Value) (S : List RA), ARow w start v S → (∀ b, v.ownBlock = some b → tv.ownBlock ≠ some b) → ARow w' start v S ∧ ∀ b, v.ownBlock = some b → tv'.ownBlock ≠ some b := by
   intro v S hA hN
   refine ⟨hA.keep (fun b hb hlt => hgr.block b hlt (fun e => hN b hb e.symm)), fun b hb e => ?_⟩
   rw [hob] at e
   injection e with e
   subst e
   rcases hg' with q | q
   ·exact hN _ hb q
   ·rcases hA.shape with ⟨rfl, _⟩ | ⟨g, c, rfl, _, _, _, hlt⟩
    ·cases hb
    ·injection hb with hb
     have hb : g = g' := hb
     omega
  intro i q1 q2
  by_cases hlt : i < vals.length
  ·rw [List.getElem_append_left hlt, List.getElem_append_left (by omega)]
   exact each _ _ (h3 i hlt (by omega)).1 (h3 i hlt (by omega)).2
  ·rw [List.getElem_append_right (by omega), List.getElem_append_right (by omega)]
   have e1 : i - vals.length = 0 := by simp at q1; omega
   have e2 : i - RR.length = 0 := by omega
   simp only [e1, e2, List.getElem_cons_zero]
   exact each _ _ hl hne
 rcases h2 with ⟨rfl, rfl⟩ | ⟨g, hs, hg⟩
 ·refine wpList_append_own _ hgd s x 23 ho w.heap.size 44 i0 _ 1 24 Tryz.underlying23 hi hz0 hz1 hz2 rfl (by decide) (.slice none 0 0) 0 [] hv (World.ownsRow_nil _ _ _ _) ⟨gx, 0, none⟩ 1 1 [lv] hx rfl hcell hone (by unfold maxLen; omega) (by omega) (Nat.le_refl _) ?_
  intro v' w' q1 q2 q3
  obtain ⟨g', hs', hg'⟩ := Sl.of_own q1 (fun e => by have := (q3.1 e).2; cases this)
  exact h v' w' (fin v' w' g' hs' (.inr hg') q2 (Nat.le_trans hst hg')) q2
 ·obtain ⟨c, rfl, hc1, hc2⟩ := hs.open rfl
  refine wpList_append_sl (P := Tryz.prog) hgd s x 23 ho 44 i0 (.slice none 0 0) 24 Tryz.underlying23 hi hz0 hz1 hz2 rfl hv hs ⟨gx, 0, none⟩ 1 1 [lv] hx rfl hcell hone (by rw [h1]; unfold maxLen; omega) (by rw [h1]; omega) ?_
  intro v' w' g' hs' hg' hgr
  refine h v' w' (fin v' w' g' hs' ?_ hgr ?_) hgr
  ·rcases hg' with q | q
   ·exact .inl (by rw [q]; rfl)
   ·exact .inr (Nat.le_of_eq q.symm)
  ·rcases hg' with q | q <;> omega
theorem TIn.came {w0 w : World} {start : Nat} {tv : Value} {RR : List (List RA)} (h : TIn w start tv RR) (hin : ∀ R ∈ RR, ∀ r ∈ R, RaIn w0 r) (hB : Below w0.heap.size w0 w) :
  ∃ oi ci, tv = .slice oi RR.length ci ∧ RR.length ≤ ci ∧ ci ≤ maxLen ∧ CameSets w oi (RR.map (List.map RA.x)) := by
 obtain ⟨vals, h1, h2, h3⟩ := h
 rcases h2 with ⟨rfl, rfl⟩ | ⟨g, hs, hg⟩
 ·obtain rfl : RR = [] := List.eq_nil_of_length_eq_zero h1.symm
  exact ⟨none, 0, rfl, Nat.le_refl _, Nat.zero_le _, fun i hi => absurd hi (Nat.not_lt_zero _)⟩
 ·obtain ⟨c, rfl, hc1, hc2⟩ := hs.open h1
  refine ⟨_, c, rfl, hc1, hc2, fun i hi => ?_⟩
  have hi' : i < RR.length := by simpa using hi
  obtain ⟨hA, _⟩ := h3 i (by omega) hi'
  obtain ⟨oo, co, e1, e2, e3, e4⟩ := hA.came (hin _ (List.getElem_mem hi')) hB
  have hadd : (⟨g, 0, none⟩ : Addr).add i = ⟨g, i, none⟩ := by unfold Addr.add; split <;> simp_all
  refine ⟨_, oo, co, rfl, ?_⟩
  rw [List.getElem_map]
  refine ⟨?_, e4, by rw [List.length_map]; exact ⟨e2, e3⟩⟩
  rw [hadd, hs.cell (by omega), e1, List.length_map]
end Go.Proofs.YtiecbagejdcafaaGreatDoor
