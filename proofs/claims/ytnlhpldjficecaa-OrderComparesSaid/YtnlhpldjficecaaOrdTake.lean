/- Package order's sorter: a byte taken. -/
import Derived.Test.YtnlhpldjficecaaOrdAt
import Derived.Test.YtnlhpldjficecaaStrs
namespace Go.Proofs.Ytnlhpldjficecaa
open Go.RowKit Go.PlainAid
set_option linter.unusedVariables false
/-- append onto nothing, as one step of a region that draws. -/
theorem step_append_nilb {ops : Array Oper} {o : Oper} {a : Act} {X : World} {K : Act → World → Prop} {Q : Exit → Act → World → Prop} {E : Prop} (hg : o.guard = none) (s x : Operand)
    (hop : o.op = .call { callee := .builtin .append, args := #[s, x], argTypes := #[46, 46] })
    (hv : a.eval s = .slice none 0 0) (gx c : Nat) (b : Int) (hx : a.eval x = .slice (some ⟨gx, 0, none⟩) 1 c) (hc : X.cell? ⟨gx, 0, none⟩ = some (.int .u8 b))
    (hK : ∀ v' X1 g', Sl X1 5 v' (u8s [b]) g' → X.heap.size ≤ g' → Below X.heap.size X X1 → K (a.put o.dst v') X1) :
    if Region.wanted o (yielded ops a.tmps) = true then Oper.wp Try.prog o a X K Q else E := by
  have hw : Region.wanted o (yielded ops a.tmps) = true := by simp [Region.wanted, hg]
  rw [if_pos hw]
  obtain ⟨i0, hi, hz0, hz1, hz2⟩ := info_parts infoU8
  refine wp_append_own (P := Try.prog) (w := X) s x 46 hop X.heap.size 5 i0 (.int .u8 0) 1 1 Try.underlying46 hi hz0 hz1 hz2 rfl (by decide) (.slice none 0 0) 0 [] hv (World.ownsRow_nil _ _ _ _) ⟨gx, 0, none⟩ 1 c [.int .u8 b] hx rfl ?_ ?_ (by unfold maxLen; omega) (by omega) (Nat.le_refl _) ?_
  · intro j u hj
    match j, hj with
    | 0, hj => simp at hj; subst hj; rw [addr0]; exact hc
  · intro u hu; simp at hu; subst hu; rfl
  · intro v' w' h1 h2 h3
    obtain ⟨g', hs, hg'⟩ := Sl.of_own h1 (fun h => by have := (h3.1 h).2; cases this)
    exact hK v' w' g' hs hg' ⟨h2.os, h2.tape, h2.output, h2.size, fun i hi => h2.block i hi (by intro h; cases h)⟩
/-- append onto a slice of the call's own, as one step of a region that draws. -/
theorem step_append_slb {ops : Array Oper} {o : Oper} {a : Act} {X : World} {K : Act → World → Prop} {Q : Exit → Act → World → Prop} {E : Prop} (hg : o.guard = none) (s x : Operand)
    (hop : o.op = .call { callee := .builtin .append, args := #[s, x], argTypes := #[46, 46] })
    {v : Value} {l : List Int} {g : Nat} (hv : a.eval s = v) (hs : Sl X 5 v (u8s l) g) (gx c : Nat) (b : Int) (hx : a.eval x = .slice (some ⟨gx, 0, none⟩) 1 c) (hc : X.cell? ⟨gx, 0, none⟩ = some (.int .u8 b)) (hl : l.length ≤ 100000000)
    (hK : ∀ v' X1 g', Sl X1 5 v' (u8s (l ++ [b])) g' → (g' = g ∨ X.heap.size ≤ g') → X.grownBy X1 (some g) → K (a.put o.dst v') X1) :
    if Region.wanted o (yielded ops a.tmps) = true then Oper.wp Try.prog o a X K Q else E := by
  have hw : Region.wanted o (yielded ops a.tmps) = true := by simp [Region.wanted, hg]
  rw [if_pos hw]
  obtain ⟨i0, hi, hz0, hz1, hz2⟩ := info_parts infoU8
  obtain ⟨v', w', g', hrun, h2, h3, h4⟩ := run_append_sl (P := Try.prog) X 46 o.type 5 i0 (.int .u8 0) 1 Try.underlying46 hi hz0 hz1 hz2 rfl hs ⟨gx, 0, none⟩ 1 c [.int .u8 b] rfl (fun j u hj => by
    match j, hj with
    | 0, hj => simp at hj; subst hj; rw [addr0]; exact hc) (fun u hu => by simp at hu; subst hu; rfl) (by rw [u8s_length]; unfold maxLen; omega) (by rw [u8s_length]; omega)
  unfold Oper.wp
  simp only [execOp, hop, resolve, invoke, builtin, Sem.run_bind, Sem.run_pure, Result.andThen_ok, List.map_toArray, List.map_cons, List.map_nil, hv, hx, hrun]
  refine hK v' w' g' (by rw [u8s_append]; exact h2) ?_ h4
  rcases h3 with h | h
  · exact .inl h
  · exact .inr (Nat.le_of_eq h.symm)
theorem drawn_below (w : World) (n : Nat) : Below w.heap.size w (w.drewN n) := ⟨rfl, rfl, rfl, Nat.le_refl _, fun _ _ => rfl⟩
/-- What take leaves. -/
def Took (w : World) (k : Nat) (F : Nat → Prop) (m : OM) (b : Int) (w' : World) : Prop := ∃ F', (∀ i, F' i → F i ∨ w.heap.size ≤ i) ∧ SoAt w' k F' { m with last := m.last ++ [b] } ∧ Chg F w w'
theorem came_next (m : OM) (b : Int) : ((m.last.length : Int) + 1) = (({ m with last := m.last ++ [b] } : OM).last.length : Int) := by show _ = ((m.last ++ [b]).length : Int); rw [List.length_append]; simp
theorem chg_set2 {F : Nat → Prop} {w X : World} {k : Nat} (hk : F k) (h : Chg F w X) (i : Nat) (v : Value) : Chg F w (X.setCell ⟨k, i, none⟩ v) :=
  ⟨h.os, h.tape, h.output, by simpa using h.size, fun j hj hn => (Below.heap_setCell X _ v j (by show j ≠ k; intro e; subst e; exact hn hk)).trans (h.block j hj hn)⟩
theorem hi_set {w : World} {k : Nat} {F : Nat → Prop} {v : Value} {l : List Int} (h : Hi w k F v l) (i : Nat) (u : Value) : Hi (w.setCell ⟨k, i, none⟩ u) k F v l := by
  rcases h with h | ⟨g, hs, hk, h⟩
  · exact .inl h
  · exact .inr ⟨g, hs.far (by show g ≠ k; omega) u, hk, h⟩
theorem hi_drew {w : World} {k : Nat} {F : Nat → Prop} {v : Value} {l : List Int} (h : Hi w k F v l) (n : Nat) : Hi (w.drewN n) k F v l := by
  rcases h with h | ⟨g, hs, hk, h⟩
  · exact .inl h
  · exact .inr ⟨g, hs.drewN n, hk, h⟩
def mk0 (most : Nat) (prev last : List Int) (n : Nat) : OM := ⟨most, prev, last, n, 0⟩
set_option maxRecDepth 100000 in
set_option maxHeartbeats 8000000 in
/-- When it is decided already that the element comes first. -/
theorem take_first {w : World} {k : Nat} {F : Nat → Prop} {most n : Nat} {prev last : List Int} {v : Value} {l : List Int} (b : Int) (hR : Row w k 48 [.int .i64 most, v, .int .i64 (last.length : Int), .bool true, .int .i64 0]) (hH : Hi w k F v l) (hK : Keeps (mk0 most prev last n) l true) (hm : last.length ≤ 65536) (hb : 0 ≤ b ∧ b ≤ 255) :
    Calls Try.prog 24 #[.pointer (some ⟨k, 0, none⟩), .int .u8 b] w fun e w' => e = .returned (.tuple #[]) ∧ Took w k F (mk0 most prev last n) b w' := by
  have q3 : w.cell? ⟨k, 3, none⟩ = some (.bool true) := hR.cell 3
  have q2 : w.cell? ⟨k, 2, none⟩ = some (.int .i64 (last.length : Int)) := hR.cell 2
  have f2 := hR.frozen 2
  have hT : Took w k F (mk0 most prev last n) b (w.setCell ⟨k, 2, none⟩ (.int .i64 ((last.length : Int) + 1))) := by
    refine ⟨F, fun i hi => .inl hi, ⟨v, _, true, l, hR.set 2 _, hi_set hH _ _, fun _ => ⟨came_next (mk0 most prev last n) b, keeps_first hK hb⟩⟩, chg_set2 hH.self ⟨rfl, rfl, rfl, Nat.le_refl _, fun _ _ _ => rfl⟩ _ _⟩
  have HT := Lib.hid hT
  clear hT hR hH hK
  generalize last.length = n at *
  go_enter Try.func24, Try.ntmps24
  go_wp2
  go_end0
  exact ⟨rfl, HT.out⟩
set_option maxRecDepth 100000 in
set_option maxHeartbeats 8000000 in
/-- A byte that isn't greater than the one ahead's. -/
theorem take_within {w : World} {k g cap : Nat} {F : Nat → Prop} {most n : Nat} {prev last : List Int} {l : List Int} (b c : Int) (hR : Row w k 48 [.int .i64 most, .slice (some ⟨g, 0, none⟩) l.length cap, .int .i64 (last.length : Int), .bool false, .int .i64 0])
    (hS : Sl w 5 (.slice (some ⟨g, 0, none⟩) l.length cap) (u8s l) g) (hkg : k ≠ g) (hF : ∀ i, F i ↔ i = k ∨ i = g) (hK : Keeps (mk0 most prev last n) l false) (hm : last.length ≤ 65536) (hb : 0 ≤ b ∧ b ≤ 255) (hc : l[last.length]? = some c) (hcb : ¬ c < b) :
    Calls Try.prog 24 #[.pointer (some ⟨k, 0, none⟩), .int .u8 b] w fun e w' => e = .returned (.tuple #[]) ∧ Took w k F (mk0 most prev last n) b w' := by
  have hlt : last.length < l.length := (List.getElem?_eq_some_iff.1 hc).1
  have hl65 : l.length ≤ 65536 := hK.hlen
  have q1 : w.cell? ⟨k, 1, none⟩ = some (.slice (some ⟨g, 0, none⟩) l.length cap) := hR.cell 1
  have q3 : w.cell? ⟨k, 3, none⟩ = some (.bool false) := hR.cell 3
  have q2 : w.cell? ⟨k, 2, none⟩ = some (.int .i64 (last.length : Int)) := hR.cell 2
  have f2 := hR.frozen 2
  have f3 := hR.frozen 3
  have qc : w.cell? ⟨g, last.length, none⟩ = some (.int .u8 c) := by
    rw [hS.cells_u8 _ hlt]
    rw [List.getElem?_eq_getElem hlt] at hc
    rw [Option.some.inj hc]
  have hT : ∀ q, Took w k F (mk0 most prev last n) b (((w.drewN q).setCell ⟨k, 3, none⟩ (.bool (decide (b < c)))).setCell ⟨k, 2, none⟩ (.int .i64 ((last.length : Int) + 1))) := by
    intro q
    have hH : Hi w k F (.slice (some ⟨g, 0, none⟩) l.length cap) l := .inr ⟨g, hS, hkg, hF⟩
    have hR2 : Row (w.drewN q) k 48 [.int .i64 most, .slice (some ⟨g, 0, none⟩) l.length cap, .int .i64 (last.length : Int), .bool false, .int .i64 0] := hR.below (drawn_below w q) hR.lt
    have hR3 := hR2.set 3 (.bool (decide (b < c)))
    refine ⟨F, fun i hi => .inl hi, ⟨_, _, decide (b < c), l, hR3.set 2 _, hi_set (hi_set (hi_drew hH q) _ _) _ _, fun _ => ⟨came_next (mk0 most prev last n) b, keeps_within hK hb hc hcb⟩⟩, chg_set2 hH.self (chg_set2 hH.self (Chg.of_below (drawn_below w q)) _ _) _ _⟩
  have HT := Lib.hid hT
  have hne : ((last.length : Int) == (l.length : Int)) = false := by simp; omega
  have hlc : l.length ≤ cap := by obtain ⟨sp, h, _, _⟩ := hS; injection h with _ _ h; rw [h, u8s_length]; omega
  have hcm : cap ≤ maxLen := by obtain ⟨sp, h, h2, _⟩ := hS; injection h with _ _ h; rw [h]; exact h2
  have hkw := hR.lt
  clear hT hR hS hK hF
  generalize last.length = i at *
  generalize l.length = L at *
  have hd : decide (c < b) = false := decide_eq_false hcb
  have hlti : (i : Int) < (L : Int) := by omega
  go_enter Try.func24, Try.ntmps24
  go_wp2
  go_quiet (fail)
  go_wp2
  have q1' : (w.drewN nq).cell? ⟨k, 1, none⟩ = some (.slice (some ⟨g, 0, none⟩) L cap) := q1
  have q2' : (w.drewN nq).cell? ⟨k, 2, none⟩ = some (.int .i64 (i : Int)) := q2
  have qc' : (w.drewN nq).cell? ⟨g, i, none⟩ = some (.int .u8 c) := qc
  have f3' : (w.drewN nq).frozen? ⟨k, 3, none⟩ = false := f3
  have f2' : (w.drewN nq).frozen? ⟨k, 2, none⟩ = false := f2
  go_region
  go_wp2
  go_end0
  exact ⟨rfl, HT.out _⟩
set_option maxRecDepth 100000 in
set_option maxHeartbeats 8000000 in
/-- The first byte of all. -/
theorem take_none {w : World} {k : Nat} {F : Nat → Prop} {most n : Nat} {prev : List Int} (b : Int) (hR : Row w k 48 [.int .i64 most, .slice none 0 0, .int .i64 0, .bool false, .int .i64 0])
    (hF : ∀ i, F i ↔ i = k) (hK : Keeps (mk0 most prev [] n) [] false) (hb : 0 ≤ b ∧ b ≤ 255) :
    Calls Try.prog 24 #[.pointer (some ⟨k, 0, none⟩), .int .u8 b] w fun e w' => e = .returned (.tuple #[]) ∧ Took w k F (mk0 most prev [] n) b w' := by
  have q1 : w.cell? ⟨k, 1, none⟩ = some (.slice none 0 0) := hR.cell 1
  have q3 : w.cell? ⟨k, 3, none⟩ = some (.bool false) := hR.cell 3
  have q2 : w.cell? ⟨k, 2, none⟩ = some (.int .i64 0) := hR.cell 2
  have hkw := hR.lt
  have hT : ∀ (X : World) (v : Value) (g : Nat), Below w.heap.size w X → Sl X 5 v (u8s [b]) g → w.heap.size ≤ g → Took w k F (mk0 most prev [] n) b ((X.setCell ⟨k, 1, none⟩ v).setCell ⟨k, 2, none⟩ (.int .i64 1)) := by
    intro X v g hB hS hg
    have hR2 := ((hR.below hB hkw).set 1 v).set 2 (.int .i64 1)
    have hKb := keeps_behind (b := b) hK hb (by show 0 + 1 ≤ 65536; omega) (.inl rfl)
    refine ⟨fun i => i = k ∨ i = g, fun i hi => ?_, ⟨v, 1, false, [b], hR2, .inr ⟨g, (hS.far (by show g ≠ k; omega) _).far (by show g ≠ k; omega) _, by omega, fun i => Iff.rfl⟩, fun _ => ⟨rfl, hKb⟩⟩, chg_set2 ((hF k).2 rfl) (chg_set2 ((hF k).2 rfl) (Chg.of_below hB) _ _) _ _⟩
    rcases hi with rfl | rfl
    · exact .inl ((hF _).2 rfl)
    · exact .inr hg
  have HT := Lib.hid hT
  have HR := Lib.hid hR
  clear hT hR hK hF hb
  go_enter Try.func24, Try.ntmps24
  go_wp2
  go_quiet (fail)
  go_wp2
  have hwW : w.heap.size ≤ (w.drewN nq).heap.size := Nat.le_refl _
  have HB : Hid (Below w.heap.size w (w.drewN nq)) := Lib.hid (drawn_below w nq)
  have HRW : Hid (Row (w.drewN nq) k 48 [.int .i64 most, .slice none 0 0, .int .i64 0, .bool false, .int .i64 0]) := Lib.hid (HR.out.below (drawn_below w nq) hkw)
  clear q1 q2 q3 HR
  generalize w.drewN nq = W at *
  have q1 : W.cell? ⟨k, 1, none⟩ = some (.slice none 0 0) := HRW.out.cell 1
  have q2 : W.cell? ⟨k, 2, none⟩ = some (.int .i64 0) := HRW.out.cell 2
  have a1 : (W.alloc (.cells #[.int .u8 b] 5)).cell? ⟨k, 1, none⟩ = some (.slice none 0 0) := (HRW.out.alloc _).cell 1
  have a2 : (W.alloc (.cells #[.int .u8 b] 5)).cell? ⟨k, 2, none⟩ = some (.int .i64 0) := (HRW.out.alloc _).cell 2
  have HA : Hid (∀ X, X = W.alloc (.cells #[.int .u8 b] 5) ∨ X = (W.alloc (.cells #[.int .u8 b] 5)).drew → X.cell? ⟨W.heap.size, 0, none⟩ = some (.int .u8 b) ∧ Below W.heap.size W X) := Lib.hid (by
    rintro X (rfl | rfl)
    · exact ⟨by simp, (Below.refl _ _).alloc (Nat.le_refl _) _⟩
    · refine ⟨?_, ((Below.refl _ _).alloc (Nat.le_refl _) _).drew⟩
      show (W.alloc (.cells #[.int .u8 b] 5)).cell? ⟨W.heap.size, 0, none⟩ = _
      simp)
  go_region_law (first
    | (refine step_append_nilb rfl (.tmp 58) (.tmp 60) rfl rfl W.heap.size 1 b rfl (HA.out _ (by first | exact .inl rfl | exact .inr rfl)).1 ?_
       intro v1 X1 g1 hs1 hg1 hb1
       have hB1 : Below w.heap.size w X1 := HB.out.trans ((HA.out _ (by first | exact .inl rfl | exact .inr rfl)).2.trans (hb1.mono (by simp)) |>.mono hwW)
       obtain ⟨c1, rfl, hc1, hcm1⟩ := hs1.open (n := 1) rfl
       have hgw : w.heap.size ≤ g1 := Nat.le_trans (by simp; omega) hg1
       have hr1 := HRW.out.below ((HA.out _ (by first | exact .inl rfl | exact .inr rfl)).2.trans (hb1.mono (by simp))) HRW.out.lt
       have z1 := hr1.frozen 1
       have c1' := hr1.cell 1))
  all_goals
    have hr2 := hr1.set 1 (.slice (some ⟨g1, 0, none⟩) 1 c1)
    have y2 := hr2.cell 2
    have x2 := hr2.frozen 2
    have HD := Lib.hid (HT.out X1 _ g1 hB1 hs1 hgw)
    clear hr1 hr2 hs1 hB1 hb1 hg1 HA HRW HB c1' z1 a1 a2 q1 q2
    go_wp2
    go_end0
    exact ⟨rfl, HD.out⟩
set_option maxRecDepth 100000 in
set_option maxHeartbeats 8000000 in
/-- A byte behind all of the one ahead, or a greater one. -/
theorem take_behind {w : World} {k g cap : Nat} {F : Nat → Prop} {most n : Nat} {prev last l : List Int} (b : Int) (hR : Row w k 48 [.int .i64 most, .slice (some ⟨g, 0, none⟩) l.length cap, .int .i64 (last.length : Int), .bool false, .int .i64 0])
    (hS : Sl w 5 (.slice (some ⟨g, 0, none⟩) l.length cap) (u8s l) g) (hkg : k ≠ g) (hF : ∀ i, F i ↔ i = k ∨ i = g) (hK : Keeps (mk0 most prev last n) l false) (hm : last.length + 1 ≤ 65536) (hb : 0 ≤ b ∧ b ≤ 255)
    (hq : last.length = l.length ∨ ∃ c, l[last.length]? = some c ∧ c < b) :
    Calls Try.prog 24 #[.pointer (some ⟨k, 0, none⟩), .int .u8 b] w fun e w' => e = .returned (.tuple #[]) ∧ Took w k F (mk0 most prev last n) b w' := by
  have hkw := hR.lt
  have hgw := hS.lt
  have hlc : l.length ≤ cap := by obtain ⟨sp, h, _, _⟩ := hS; injection h with _ _ h; rw [h, u8s_length]; omega
  have hcm : cap ≤ maxLen := by obtain ⟨sp, h, h2, _⟩ := hS; injection h with _ _ h; rw [h]; exact h2
  have hcl : last.length ≤ l.length := (hK.no rfl).1
  have hT : ∀ (W X : World) (v : Value) (g' : Nat), Below w.heap.size w W → W.grownBy X (some g) → Row X k 48 [.int .i64 most, .slice (some ⟨g, 0, none⟩) l.length cap, .int .i64 (last.length : Int), .bool false, .int .i64 0] → Sl X 5 v (u8s (l.take last.length ++ [b])) g' → (g' = g ∨ w.heap.size ≤ g') → Took w k F (mk0 most prev last n) b ((X.setCell ⟨k, 1, none⟩ v).setCell ⟨k, 2, none⟩ (.int .i64 ((last.length : Int) + 1))) := by
    intro W X v g' hB hX hRX hS2 hg'
    have hR2 := (hRX.set 1 v).set 2 (.int .i64 ((last.length : Int) + 1))
    have hKb := keeps_behind (b := b) hK hb hm hq
    have hkg' : g' ≠ k := by rcases hg' with h | h <;> omega
    have hc0 : Chg F w X := ⟨hX.os.trans hB.os, hX.tape.trans hB.tape, hX.output.trans hB.output, Nat.le_trans hB.size hX.size, fun i hi hn => (hX.block i (Nat.lt_of_lt_of_le hi hB.size) (by intro e; injection e with e; subst e; exact hn ((hF _).2 (.inr rfl)))).trans (hB.block i hi)⟩
    refine ⟨fun i => i = k ∨ i = g', fun i hi => ?_, ⟨v, _, false, l.take last.length ++ [b], hR2, .inr ⟨g', (hS2.far (by exact hkg') _).far (by exact hkg') _, fun e => hkg' e.symm, fun i => Iff.rfl⟩, fun _ => ⟨came_next (mk0 most prev last n) b, hKb⟩⟩, chg_set2 ((hF k).2 (.inl rfl)) (chg_set2 ((hF k).2 (.inl rfl)) hc0 _ _) _ _⟩
    rcases hi with rfl | rfl
    · exact .inl ((hF _).2 (.inl rfl))
    · rcases hg' with h | h
      · exact .inl ((hF _).2 (.inr h))
      · exact .inr h
  have HT := Lib.hid hT
  have HR := Lib.hid hR
  have HS := Lib.hid hS
  have hl65 : l.length ≤ 65536 := hK.hlen
  have HQ : Hid (last.length = l.length ∨ ∃ c : Int, w.cell? ⟨g, last.length, none⟩ = some (.int .u8 c) ∧ c < b ∧ last.length < l.length) := Lib.hid (by
    rcases hq with h | ⟨c, hc, hcb⟩
    · exact .inl h
    · have hlt := (List.getElem?_eq_some_iff.1 hc).1
      refine .inr ⟨c, ?_, hcb, hlt⟩
      rw [hS.cells_u8 _ hlt]
      rw [List.getElem?_eq_getElem hlt] at hc
      rw [Option.some.inj hc])
  have hfr := hS.front (k := last.length) (by rw [u8s_length]; exact hcl)
  rw [show (u8s l).take last.length = u8s (l.take last.length) by simp [u8s]] at hfr
  have HFr := Lib.hid hfr
  have hfl : (l.take last.length).length ≤ 100000000 := by rw [List.length_take]; omega
  have hfl1 : (l.take last.length).length = last.length := by rw [List.length_take]; omega
  have HFL := Lib.hid (show (l.take last.length).length ≤ 100000000 ∧ (u8s (l.take last.length ++ [b])).length = last.length + 1 from ⟨hfl, by rw [u8s_length, List.length_append, hfl1]; rfl⟩)
  have q1 : w.cell? ⟨k, 1, none⟩ = some (.slice (some ⟨g, 0, none⟩) l.length cap) := hR.cell 1
  have q3 : w.cell? ⟨k, 3, none⟩ = some (.bool false) := hR.cell 3
  have q2 : w.cell? ⟨k, 2, none⟩ = some (.int .i64 (last.length : Int)) := hR.cell 2
  clear hT hR hS hK hF hb hq hfr hfl hfl1
  generalize l.take last.length = l1 at *
  generalize last.length = i at *
  generalize l.length = L at *
  have hwri : IntKind.i64.wrap (i : Int) = (i : Int) := by rw [IntKind.wrap_i64]; omega
  have hci : (i : Int) ≤ (cap : Int) := by omega
  have hic : i ≤ cap := by omega
  rcases HQ.out with hq | ⟨c, qc, hcb, hiL⟩
  all_goals
   first
    | have hne : ((i : Int) == (L : Int)) = true := by simp; omega
      clear hq
    | have hne : ((i : Int) == (L : Int)) = false := by simp; omega
      have hd : decide (c < b) = true := decide_eq_true hcb
      have hiLi : (i : Int) < (L : Int) := by omega
   clear HQ
   go_enter Try.func24, Try.ntmps24
   go_wp2
   go_quiet (fail)
   go_wp2
   have hwW : w.heap.size ≤ (w.drewN nq).heap.size := Nat.le_refl _
   have HB : Hid (Below w.heap.size w (w.drewN nq)) := Lib.hid (drawn_below w nq)
   have HRW : Hid (Row (w.drewN nq) k 48 [.int .i64 most, .slice (some ⟨g, 0, none⟩) L cap, .int .i64 (i : Int), .bool false, .int .i64 0]) := Lib.hid (HR.out.below (drawn_below w nq) hkw)
   have HSW : Hid (Sl (w.drewN nq) 5 (.slice (some ⟨g, 0, none⟩) i cap) (u8s l1) g) := Lib.hid (HFr.out.drewN nq)
   clear q1 q2 q3 HR
   try clear qc
   generalize w.drewN nq = W at *
   have q1 : W.cell? ⟨k, 1, none⟩ = some (.slice (some ⟨g, 0, none⟩) L cap) := HRW.out.cell 1
   have q2 : W.cell? ⟨k, 2, none⟩ = some (.int .i64 (i : Int)) := HRW.out.cell 2
   have a1 : (W.alloc (.cells #[.int .u8 b] 5)).cell? ⟨k, 1, none⟩ = some (.slice (some ⟨g, 0, none⟩) L cap) := (HRW.out.alloc _).cell 1
   have a2 : (W.alloc (.cells #[.int .u8 b] 5)).cell? ⟨k, 2, none⟩ = some (.int .i64 (i : Int)) := (HRW.out.alloc _).cell 2
   have HA : Hid (∀ X, X = W.alloc (.cells #[.int .u8 b] 5) ∨ X = (W.alloc (.cells #[.int .u8 b] 5)).drew → X.cell? ⟨W.heap.size, 0, none⟩ = some (.int .u8 b) ∧ Below W.heap.size W X) := Lib.hid (by
     rintro X (rfl | rfl)
     · exact ⟨by simp, (Below.refl _ _).alloc (Nat.le_refl _) _⟩
     · refine ⟨?_, ((Below.refl _ _).alloc (Nat.le_refl _) _).drew⟩
       show (W.alloc (.cells #[.int .u8 b] 5)).cell? ⟨W.heap.size, 0, none⟩ = _
       simp)
   have HB2 : Hid (Below w.heap.size w (W.alloc (.cells #[.int .u8 b] 5)) ∧ Below w.heap.size w (W.alloc (.cells #[.int .u8 b] 5)).drew) := Lib.hid ⟨HB.out.trans ((HA.out _ (.inl rfl)).2.mono hwW), HB.out.trans ((HA.out _ (.inr rfl)).2.mono hwW)⟩
   go_region_law (first
     | (refine step_append_slb rfl (.tmp 58) (.tmp 60) rfl (l := l1) (g := g) rfl (by first | exact (HSW.out.alloc _).drew | exact HSW.out.alloc _) W.heap.size 1 b rfl (HA.out _ (by first | exact .inl rfl | exact .inr rfl)).1 HFL.out.1 ?_
        intro v1 X1 g1 hs1 hg1 hb1
        obtain ⟨c1, rfl, hc1, hcm1⟩ := hs1.open HFL.out.2
        have hr1 : Row X1 k 48 [.int .i64 most, .slice (some ⟨g, 0, none⟩) L cap, .int .i64 (i : Int), .bool false, .int .i64 0] := Row.grown (by first | exact (HRW.out.alloc _).below (Below.refl _ _).drew (HRW.out.alloc _).lt | exact HRW.out.alloc _) hb1 (by intro e; injection e with e; exact hkg e)
        have hgw1 : g1 = g ∨ w.heap.size ≤ g1 := hg1.imp id (fun h => Nat.le_trans HB2.out.1.size h)
        have hD : Took w k F (mk0 most prev last n) b ((X1.setCell ⟨k, 1, none⟩ (.slice (some ⟨g1, 0, none⟩) (i + 1) c1)).setCell ⟨k, 2, none⟩ (.int .i64 ((i : Int) + 1))) := by
          first
            | exact HT.out _ X1 _ g1 HB2.out.2 hb1 hr1 hs1 hgw1
            | exact HT.out _ X1 _ g1 HB2.out.1 hb1 hr1 hs1 hgw1
        have z1 := hr1.frozen 1
        have c1' := hr1.cell 1))
   all_goals
     have hr2 := hr1.set 1 (.slice (some ⟨g1, 0, none⟩) (i + 1) c1)
     have y2 := hr2.cell 2
     have x2 := hr2.frozen 2
     have HD := Lib.hid hD
     clear hr1 hr2 hs1 hb1 hg1 HA HRW HB c1' z1 a1 a2 q1 q2 hD
     go_wp2
     go_end0
     exact ⟨rfl, HD.out⟩
end Go.Proofs.Ytnlhpldjficecaa
