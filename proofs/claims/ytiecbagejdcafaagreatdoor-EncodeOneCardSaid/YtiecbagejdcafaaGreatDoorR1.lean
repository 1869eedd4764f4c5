/- Elements in order, in plain words: which of two lists of numbers comes first, the shorter one with 0 behind it. They hold of lists of numbers alone, under no condition on the program. -/
import Derived.Test.YtiecbagejdcafaaGreatDoorP0
import Derived.Test.YtiecbagejdcafaaGreatDoorB0
import Derived.Test.YtiecbagejdcafaaGreatDoorO1
import Derived.Deep.LoopGhost
import Derived.Handy
import Derived.Laws.Cover1
import Derived.Deep.QuietTactic
import Derived.BigQuiet
import Derived.Deep.Cut
import Derived.Deep.RegionLaw
namespace Go.Proofs.YtiecbagejdcafaaGreatDoor
open Go.PlainAid
set_option linter.unusedVariables false
def cmp1 (x y : Int) : Int := if x < y then -1 else if y < x then 1 else 0
def cmpL : List Int → List Int → Int
 |[], [] => 0
 |[], y :: r => if cmp1 0 y ≠ 0 then cmp1 0 y else cmpL [] r
 |x :: r, [] => if cmp1 x 0 ≠ 0 then cmp1 x 0 else cmpL r []
 |x :: r, y :: q => if cmp1 x y ≠ 0 then cmp1 x y else cmpL r q
def hd0 (l : List Int) : Int := l.headD 0
theorem cmpL_step (a b : List Int) : cmpL a b = if cmp1 (hd0 a) (hd0 b) ≠ 0 then cmp1 (hd0 a) (hd0 b) else cmpL a.tail b.tail := by
 cases a with
 |nil =>
  cases b with
  |nil => rfl
  |cons y r => rw [cmpL]; rfl
 |cons x r =>
  cases b with
  |nil => rw [cmpL]; rfl
  |cons y q => rw [cmpL]; rfl
theorem cmp1_neg (x y : Int) : cmp1 y x = -cmp1 x y := by unfold cmp1; repeat' split; all_goals omega
theorem cmp1_zero {x y : Int} : cmp1 x y = 0 ↔ x = y := by unfold cmp1; repeat' split; all_goals omega
theorem cmp1_cases (x y : Int) : (cmp1 x y = -1 ∧ x < y) ∨ (cmp1 x y = 1 ∧ y < x) ∨ (cmp1 x y = 0 ∧ x = y) := by unfold cmp1; repeat' split; all_goals omega
theorem cmpL_range (a b : List Int) : cmpL a b = -1 ∨ cmpL a b = 0 ∨ cmpL a b = 1 := by
 induction a, b using cmpL.induct with
 |case1 => simp [cmpL]
 |case2 y r h => rw [cmpL, if_pos h]; have := cmp1_cases 0 y; omega
 |case3 y r h ih => rw [cmpL, if_neg h]; exact ih
 |case4 x r h => rw [cmpL, if_pos h]; have := cmp1_cases x 0; omega
 |case5 x r h ih => rw [cmpL, if_neg h]; exact ih
 |case6 x r y q h => rw [cmpL, if_pos h]; have := cmp1_cases x y; omega
 |case7 x r y q h ih => rw [cmpL, if_neg h]; exact ih
theorem tail_len {a : List Int} {n : Nat} (h : a.length ≤ n + 1) : a.tail.length ≤ n := by rw [List.length_tail]; omega
theorem nil_of_len {a : List Int} (h : a.length ≤ 0) : a = [] := List.length_eq_zero_iff.1 (by omega)
theorem cmpL_negF : ∀ (n : Nat) (a b : List Int), a.length ≤ n → b.length ≤ n → cmpL b a = -cmpL a b := by
 intro n
 induction n with
 |zero => intro a b ha hb; rw [nil_of_len ha, nil_of_len hb]; simp [cmpL]
 |succ n ih =>
  intro a b ha hb
  rw [cmpL_step b a, cmpL_step a b, cmp1_neg (hd0 a) (hd0 b), ih _ _ (tail_len ha) (tail_len hb)]
  by_cases h : cmp1 (hd0 a) (hd0 b) = 0
  ·rw [if_neg (by omega), if_neg (by omega)]
  ·rw [if_pos (by omega), if_pos (by omega)]
theorem cmpL_neg (a b : List Int) : cmpL b a = -cmpL a b := cmpL_negF (max a.length b.length) a b (by omega) (by omega)
theorem cmpL_self (a : List Int) : cmpL a a = 0 := by have := cmpL_neg a a; omega
theorem cmpL_transF : ∀ (n : Nat) (a b c : List Int), a.length ≤ n → b.length ≤ n → c.length ≤ n → (cmpL a b ≤ 0 → cmpL b c ≤ 0 → cmpL a c ≤ 0) ∧ (cmpL a b = 0 → cmpL b c = cmpL a c) := by
 intro n
 induction n with
 |zero => intro a b c ha hb hc; rw [nil_of_len ha, nil_of_len hb, nil_of_len hc]; exact ⟨fun _ _ => by simp [cmpL], fun _ => rfl⟩
 |succ n ih =>
  intro a b c ha hb hc
  obtain ⟨i1, i2⟩ := ih a.tail b.tail c.tail (tail_len ha) (tail_len hb) (tail_len hc)
  rw [cmpL_step a b, cmpL_step b c, cmpL_step a c]
  generalize hd0 a = x
  generalize hd0 b = y
  generalize hd0 c = z
  have h1 := cmp1_cases x y
  have h2 := cmp1_cases y z
  have h3 := cmp1_cases x z
  by_cases e1 : cmp1 x y = 0
  ·rw [if_neg (by omega)]
   by_cases e2 : cmp1 y z = 0
   ·rw [if_neg (by omega), if_neg (by omega)]
    exact ⟨i1, i2⟩
   ·rw [if_pos e2, if_pos (by omega)]
    exact ⟨fun _ _ => by omega, fun _ => by omega⟩
  ·rw [if_pos e1]
   refine ⟨fun g1 g2 => ?_, fun g => absurd g e1⟩
   by_cases e2 : cmp1 y z = 0
   ·rw [if_pos (by omega)]; omega
   ·rw [if_pos e2] at g2
    rw [if_pos (by omega)]; omega
theorem cmpL_trans {a b c : List Int} (h1 : cmpL a b ≤ 0) (h2 : cmpL b c ≤ 0) : cmpL a c ≤ 0 := (cmpL_transF (max a.length (max b.length c.length)) a b c (by omega) (by omega) (by omega)).1 h1 h2
theorem cmpL_same {a b : List Int} (c : List Int) (h : cmpL a b = 0) : cmpL b c = cmpL a c := (cmpL_transF (max a.length (max b.length c.length)) a b c (by omega) (by omega) (by omega)).2 h
theorem cmpL_pad (a : List Int) : cmpL a (a ++ [0]) = 0 := by
 induction a with
 |nil => simp [cmpL, cmp1]
 |cons x r ih =>
  rw [List.cons_append, cmpL, cmp1_zero.2 rfl]
  simpa using ih
theorem cmpL_zero (a b : List Int) : cmpL (a ++ [0]) b = cmpL a b := cmpL_same b (cmpL_pad a)
theorem cmpL_zeros (a b : List Int) : ∀ k, cmpL (a ++ List.replicate k 0) b = cmpL a b := by
 intro k
 induction k with
 |zero => simp
 |succ k ih => rw [List.replicate_succ', ← List.append_assoc, cmpL_zero, ih]
theorem less_cmp : ∀ (a b : List UInt8), a.length = b.length →
  Op.bytesLess a b = decide (cmpL (a.map fun u => (u.toNat : Int)) (b.map fun u => (u.toNat : Int)) = -1) ∧ (a == b) = decide (cmpL (a.map fun u => (u.toNat : Int)) (b.map fun u => (u.toNat : Int)) = 0) := by
 intro a
 induction a with
 |nil =>
  intro b h
  obtain rfl : b = [] := List.length_eq_zero_iff.1 h.symm
  exact ⟨by simp [Op.bytesLess, cmpL], by simp [cmpL]⟩
 |cons x r ih =>
  intro b h
  cases b with
  |nil => simp at h
  |cons y q =>
   obtain ⟨i1, i2⟩ := ih q (by simpa using h)
   rw [List.map_cons, List.map_cons, cmpL]
   have hlt : (x < y) ↔ ((x.toNat : Int) < (y.toNat : Int)) := by rw [UInt8.lt_iff_toNat_lt]; omega
   have heq : (x = y) ↔ ((x.toNat : Int) = (y.toNat : Int)) := by rw [← UInt8.toNat_inj]; omega
   have hc := cmp1_cases (x.toNat : Int) (y.toNat : Int)
   show (decide (x < y) || (x == y && Op.bytesLess r q)) = _ ∧ _
   rcases hc with ⟨c1, c2⟩ | ⟨c1, c2⟩ | ⟨c1, c2⟩
   ·have h1 : x < y := hlt.2 c2
    have h2 : ¬ x = y := fun e => by have := heq.1 e; omega
    rw [if_pos (by omega), c1]
    refine ⟨by simp [h1], ?_⟩
    simp [h2]
   ·have h1 : ¬ x < y := fun e => by have := hlt.1 e; omega
    have h2 : ¬ x = y := fun e => by have := heq.1 e; omega
    rw [if_pos (by omega), c1]
    refine ⟨by simp [h1, h2], ?_⟩
    simp [h2]
   ·have h1 : ¬ x < y := fun e => by have := hlt.1 e; omega
    have h2 : x = y := heq.2 c2
    rw [if_neg (by omega)]
    refine ⟨by simp [h2, i1], ?_⟩
    rw [← i2]
    simp [h2]
end Go.Proofs.YtiecbagejdcafaaGreatDoor
/- What layer 16's reference gives: which of two elements comes first; Same and Great of lists of elements. Of every two elements of together at most 2^62 bytes. -/
namespace Go.Proofs.YtiecbagejdcafaaGreatDoor
open Go.RowKit Go.PlainAid
set_option linter.unusedVariables false
theorem bl_snoc0 (s : ByteArray) : bl (s ++ ⟨#[0]⟩) = bl s ++ [0] := by rw [bl_append]; rfl
theorem size_snoc0 (s : ByteArray) : (s ++ ⟨#[0]⟩ : ByteArray).size = s.size + 1 := by rw [ByteArray.size_append]; rfl
theorem cmp_less (s t : ByteArray) (h : s.size = t.size) : Op.bytesLess s.toList t.toList = decide (cmpL (bl s) (bl t) = -1) ∧ (s.toList == t.toList) = decide (cmpL (bl s) (bl t) = 0) := by
 rw [ByteArray.toList_eq, ByteArray.toList_eq]
 exact less_cmp s.data.toList t.data.toList (by rw [Array.length_toList, Array.length_toList]; exact h)
set_option maxRecDepth 100000 in
set_option maxHeartbeats 4000000 in
theorem refCompare_any (a b : ByteArray) (ha : a.size ≤ 1000000000000000) (hb : b.size ≤ 1000000000000000) (w : World) :
  Calls Tryz.prog 64 #[.string a, .string b] w fun e w' => e = .returned (.int .i64 (cmpL (bl a) (bl b))) ∧ w' = w := by
 obtain ⟨R, hR⟩ : ∃ R, cmpL (bl a) (bl b) = R := ⟨_, rfl⟩
 rw [hR]
 have HR := Lib.hid hR
 clear hR
 go_enter Tryz.func64, Tryz.ntmps64
 go_wp2_with fail
 go_loopg [0] b.size (fun gk sv wr => ∃ (s : ByteArray) (k : Nat), sv = .string s ∧ Hid (bl s = bl a ++ List.replicate k 0) ∧ s.size = a.size + k ∧ s.size ≤ max a.size b.size ∧ b.size - s.size ≤ gk ∧ w = wr)
 case atStart => exact ⟨a, 0, rfl, Lib.hid (by simp), by omega, by omega, by omega, rfl⟩
 case round =>
  obtain ⟨s, k, rfl, HS, hs, hm, hgk, rfl⟩ := hrel
  by_cases hlt : s.size < b.size
  ·have hlt2 : (s.size : Int) < (b.size : Int) := by omega
   have hov : ¬ 9223372036854775807 < s.size + (⟨#[0]⟩ : ByteArray).size := by show ¬ 9223372036854775807 < s.size + 1; omega
   go_wp2_with fail
   go_roundg (b.size - (s.size + 1))
   case measure => omega
   case rel => exact ⟨s ++ ⟨#[0]⟩, k + 1, rfl, Lib.hid (by rw [bl_snoc0, HS.out, List.replicate_succ', List.append_assoc]), by rw [size_snoc0]; omega, by rw [size_snoc0]; omega, by rw [size_snoc0]; omega, rfl⟩
  ·have hlt2 : ¬ (s.size : Int) < (b.size : Int) := by omega
   have hge : b.size ≤ s.size := by omega
   clear hlt
   go_wp2_with fail
   go_loopg [1] s.size (fun gk sv wr => ∃ (t : ByteArray) (j : Nat), sv = .string t ∧ Hid (bl t = bl b ++ List.replicate j 0) ∧ t.size = b.size + j ∧ t.size ≤ s.size ∧ s.size - t.size ≤ gk ∧ w = wr)
   case atStart => exact ⟨b, 0, rfl, Lib.hid (by simp), by omega, by omega, by omega, rfl⟩
   case round =>
    obtain ⟨t, j, rfl, HT, ht, htm, hgk2, rfl⟩ := hrel
    by_cases hlt : t.size < s.size
    ·have hlt3 : (t.size : Int) < (s.size : Int) := by omega
     have hov : ¬ 9223372036854775807 < t.size + (⟨#[0]⟩ : ByteArray).size := by show ¬ 9223372036854775807 < t.size + 1; omega
     go_wp2_with fail
     go_roundg (s.size - (t.size + 1))
     case measure => omega
     case rel => exact ⟨t ++ ⟨#[0]⟩, j + 1, rfl, Lib.hid (by rw [bl_snoc0, HT.out, List.replicate_succ', List.append_assoc]), by rw [size_snoc0]; omega, by rw [size_snoc0]; omega, by rw [size_snoc0]; omega, rfl⟩
    ·have hlt3 : ¬ (t.size : Int) < (s.size : Int) := by omega
     obtain ⟨c1, c2⟩ := cmp_less s t (by omega)
     have hc : cmpL (bl s) (bl t) = R := by
      rw [HS.out, HT.out, cmpL_zeros, cmpL_neg, cmpL_zeros, ← cmpL_neg]; exact HR.out
     rw [hc] at c1 c2
     have hrg := cmpL_range (bl s) (bl t)
     rw [hc] at hrg
     clear hc HS HT HR hlt
     rcases hrg with rfl | rfl | rfl
     ·replace c1 : Op.bytesLess s.toList t.toList = true := c1
      clear c2
      go_wp2_with fail
      go_returns
      exact ⟨rfl, rfl⟩
     ·replace c1 : Op.bytesLess s.toList t.toList = false := c1
      replace c2 : (s.toList == t.toList) = true := c2
      go_wp2_with fail

      go_returns
      exact ⟨rfl, rfl⟩
     ·replace c1 : Op.bytesLess s.toList t.toList = false := c1
      replace c2 : (s.toList == t.toList) = false := c2
      go_wp2_with fail
      go_returns
      exact ⟨rfl, rfl⟩
end Go.Proofs.YtiecbagejdcafaaGreatDoor
/- Slices of texts: of a call's own (Sl) and as they came (Came): appended to, cut off, and read. Of any slice from a block's head on. -/
namespace Go.Proofs.YtiecbagejdcafaaGreatDoor
open Go.RowKit
set_option linter.unusedVariables false
theorem svs_length (l : List ByteArray) : (svs l).length = l.length := by simp [svs]
theorem svs_append (l m : List ByteArray) : svs (l ++ m) = svs l ++ svs m := by simp [svs]
theorem svs_one (l : List ByteArray) : ∀ u ∈ svs l, u.oneCell' = true := by
 intro u hu
 obtain ⟨x, _, rfl⟩ := List.mem_map.1 hu
 rfl
theorem svs_get {l : List ByteArray} {j : Nat} (h : j < l.length) : (svs l)[j]? = some (.string l[j]) := by simp [svs, h]
theorem infoStr : (Tryz.prog.info? 9).map (fun i => (i.zero, i.size, i.bytes)) = some (some (.string ⟨#[]⟩), 1, 16) := by kernel_rfl
theorem sl_new_strs (w : World) (l : List ByteArray) (hl : l.length ≤ maxLen) : Sl (w.alloc (.cells (svs l).toArray 9)) 9 (.slice (some ⟨w.heap.size, 0, none⟩) l.length l.length) (svs l) w.heap.size := by
 have := Sl.new w 9 (svs l) (by rw [svs_length]; exact hl)
 rwa [svs_length] at this
theorem Sl.front {w : World} {t : TypeId} {l : List Value} {g n c k : Nat} (h : Sl w t (.slice (some ⟨g, 0, none⟩) n c) l g) (hk : k ≤ l.length) : Sl w t (.slice (some ⟨g, 0, none⟩) k c) (l.take k) g := by
 obtain ⟨sp, hv, hm, hr⟩ := h
 injection hv with _ h1 h2
 refine ⟨l.drop k ++ sp, ?_, ?_, ?_⟩
 ·have e1 : (l.take k).length = k := by rw [List.length_take]; omega
  rw [e1, List.length_append, List.length_drop, h2]
  congr 1
  omega
 ·rw [List.length_take, List.length_append, List.length_drop]; omega
 ·rw [← List.append_assoc, List.take_append_drop]; exact hr
theorem run_append_strs (w : World) (ty : TypeId) {v : Value} {l : List ByteArray} {g : Nat} (hs : Sl w 9 v (svs l) g)
  (ox : Option Addr) (m c : Nat) (l2 : List ByteArray) (hm : l2.length = m) (hc : Came w ox (svs l2)) (h63 : l.length + l2.length ≤ 1000000000000) :
  ∃ v' w' g', (Builtin.append_ #[65, 65] ty #[v, .slice ox m c]).run Tryz.prog w = .ok v' w' ∧ Sl w' 9 v' (svs (l ++ l2)) g' ∧ (g' = g ∨ g' = w.heap.size) ∧ w.grownBy w' (some g) := by
 obtain ⟨i0, hi, hz0, hz1, hz2⟩ := info_parts infoStr
 by_cases h0 : ox = none
 ·subst h0
  have hl2 : l2 = [] := by
   cases l2 with
   |nil => rfl
   |cons x r =>
    obtain ⟨a, h, _⟩ := hc 0 _ rfl
    cases h
  subst hl2
  have hm0 : m = 0 := hm.symm
  subst hm0
  obtain ⟨cb, rfl, hcb, _⟩ := hs.open rfl
  exact ⟨_, w, g, run_append_empty w _ _ _ i0 _ _ _ _ Tryz.underlying65 hi hcb, by rw [List.append_nil]; exact hs, .inl rfl, grown_refl _ _⟩
 ·obtain ⟨ad, rfl⟩ := Option.ne_none_iff_exists'.1 h0
  obtain ⟨v', w', g', hrun, h2, h3, h4⟩ := run_append_sl (P := Tryz.prog) w 65 ty 9 i0 (.string ⟨#[]⟩) 16 Tryz.underlying65 hi hz0 hz1 hz2 rfl hs ad m c (svs l2) (by rw [svs_length]; exact hm) (fun j u hj => by
   obtain ⟨a, h, h'⟩ := hc j u hj
   cases h; exact h') (svs_one _) (by rw [svs_length]; unfold maxLen; omega) (by rw [svs_length]; omega)
  exact ⟨v', w', g', hrun, by rw [svs_append]; exact h2, h3, h4⟩
theorem wpList_append_strs {w : World} {ops : Array Oper} {rest : List Oper} {o : Oper} {a : Act} {Q : Exit → Act → World → Prop} (hgd : o.guard = none) (s x : Operand)
  (ho : o.op = .call { callee := .builtin .append, args := #[s, x], argTypes := #[65, 65] })
  {v : Value} {l : List ByteArray} {g : Nat} (hv : a.eval s = v) (hs : Sl w 9 v (svs l) g)
  (ox : Option Addr) (m c : Nat) (l2 : List ByteArray) (hx : a.eval x = .slice ox m c) (hm : l2.length = m) (hc : Came w ox (svs l2)) (h63 : l.length + l2.length ≤ 1000000000000)
  (h : ∀ v' w' g', Sl w' 9 v' (svs (l ++ l2)) g' → (g' = g ∨ g' = w.heap.size) → w.grownBy w' (some g) → wpList Tryz.prog ops Q rest (a.put o.dst v') w') : wpList Tryz.prog ops Q (o :: rest) a w := by
 refine wpList_plain hgd fun K hK => ?_
 obtain ⟨v', w', g', hr, h2, h3, h4⟩ := run_append_strs w o.type hs ox m c l2 hm hc h63
 unfold Oper.wp execOp
 simp only [ho, resolve, invoke, builtin, Sem.run_bind, Sem.run_pure, Result.andThen_ok, List.map_toArray, List.map_cons, List.map_nil, hv, hx, hr]
 exact hK _ _ (h v' w' g' h2 h3 h4)
theorem step_append_strs {ops : Array Oper} {o : Oper} {a : Act} {w : World} {K : Act → World → Prop} {Q : Exit → Act → World → Prop} {E : Prop} (hg : o.guard = none) (s x : Operand)
  (hop : o.op = .call { callee := .builtin .append, args := #[s, x], argTypes := #[65, 65] })
  {v : Value} {l : List ByteArray} {g : Nat} (hv : a.eval s = v) (hs : Sl w 9 v (svs l) g)
  (ox : Option Addr) (m c : Nat) (l2 : List ByteArray) (hx : a.eval x = .slice ox m c) (hm : l2.length = m) (hc : Came w ox (svs l2)) (h63 : l.length + l2.length ≤ 1000000000000)
  (hK : ∀ v' w' g', Sl w' 9 v' (svs (l ++ l2)) g' → (g' = g ∨ g' = w.heap.size) → w.grownBy w' (some g) → K (a.put o.dst v') w') :
  if Region.wanted o (yielded ops a.tmps) = true then Oper.wp Tryz.prog o a w K Q else E := by
 have hw : Region.wanted o (yielded ops a.tmps) = true := by simp [Region.wanted, hg]
 rw [if_pos hw]
 obtain ⟨v', w', g', hrun, h2, h3, h4⟩ := run_append_strs w o.type hs ox m c l2 hm hc h63
 unfold Oper.wp
 simp only [execOp, hop, resolve, invoke, builtin, Sem.run_bind, Sem.run_pure, Result.andThen_ok, List.map_toArray, List.map_cons, List.map_nil, hv, hx, hrun]
 exact hK v' w' g' h2 h3 h4
end Go.Proofs.YtiecbagejdcafaaGreatDoor
/- What layer 16's reference gives of lists of elements: Great, Same, Sort. Of every list that came in or that a call has made; Sort of at most 1000 elements of at most 100000 bytes each. -/
namespace Go.Proofs.YtiecbagejdcafaaGreatDoor
open Go.RowKit Go.PlainAid
set_option linter.unusedVariables false
theorem came_str {w : World} {o : Option Addr} {l : List ByteArray} (h : Came w o (svs l)) {i : Nat} (hi : i < l.length) : ∃ a, o = some a ∧ w.cell? (a.add i) = some (.string l[i]) := h i _ (svs_get hi)
end Go.Proofs.YtiecbagejdcafaaGreatDoor
/- What layer 16's reference gives of elements that are to be sorted: each behind all that don't come behind it. Of at most 1000 elements of at most 100000 bytes each. -/
namespace Go.Proofs.YtiecbagejdcafaaGreatDoor
open Go.RowKit Go.PlainAid
set_option linter.unusedVariables false
def kO (out : List ByteArray) (x : ByteArray) : Nat → Nat
 |0 => 0
 |k + 1 => if 0 < cmpL (bl (out.getD k ⟨#[]⟩)) (bl x) then kO out x k else k + 1
theorem kO_le (out : List ByteArray) (x : ByteArray) : ∀ k, kO out x k ≤ k := by
 intro k
 induction k with
 |zero => exact Nat.le_refl _
 |succ k ih => rw [kO]; split <;> omega
def insP (out : List ByteArray) (x : ByteArray) : List ByteArray := out.take (kO out x out.length) ++ x :: out.drop (kO out x out.length)
def sortS (l : List ByteArray) : List ByteArray := l.foldl insP []
theorem insP_len (out : List ByteArray) (x : ByteArray) : (insP out x).length = out.length + 1 := by
 have := kO_le out x out.length
 unfold insP
 rw [List.length_append, List.length_cons, List.length_take, List.length_drop]; omega
theorem sortS_snoc (l : List ByteArray) (x : ByteArray) : sortS (l ++ [x]) = insP (sortS l) x := by unfold sortS; rw [List.foldl_append]; rfl
theorem fold_len (l : List ByteArray) : ∀ acc, (l.foldl insP acc).length = acc.length + l.length := by
 induction l with
 |nil => intro acc; rfl
 |cons x l ih => intro acc; rw [List.foldl_cons, ih, insP_len, List.length_cons]; omega
theorem sortS_len (l : List ByteArray) : (sortS l).length = l.length := by unfold sortS; rw [fold_len]; simp
theorem insP_mem {out : List ByteArray} {x y : ByteArray} : y ∈ insP out x ↔ y ∈ out ∨ y = x := by
 unfold insP
 rw [List.mem_append, List.mem_cons]
 have : y ∈ out ↔ y ∈ out.take (kO out x out.length) ∨ y ∈ out.drop (kO out x out.length) := by rw [← List.mem_append, List.take_append_drop]
 rw [this]
 constructor
 ·rintro (h | h | h)
  ·exact .inl (.inl h)
  ·exact .inr h
  ·exact .inl (.inr h)
 ·rintro ((h | h) | h)
  ·exact .inl h
  ·exact .inr (.inr h)
  ·exact .inr (.inl h)
theorem fold_mem (l : List ByteArray) (y : ByteArray) : ∀ acc, y ∈ l.foldl insP acc ↔ y ∈ acc ∨ y ∈ l := by
 induction l with
 |nil => intro acc; simp
 |cons x l ih =>
  intro acc
  rw [List.foldl_cons, ih, insP_mem, List.mem_cons]
  constructor
  ·rintro ((h | h) | h)
   ·exact .inl h
   ·exact .inr (.inl h)
   ·exact .inr (.inr h)
  ·rintro (h | h | h)
   ·exact .inl (.inl h)
   ·exact .inl (.inr h)
   ·exact .inr h
theorem sortS_mem (l : List ByteArray) (y : ByteArray) : y ∈ sortS l ↔ y ∈ l := by unfold sortS; rw [fold_mem]; simp
theorem addr_at (g k j : Nat) : (⟨g, k, none⟩ : Addr).add j = ⟨g, k + j, none⟩ := by unfold Addr.add; split <;> simp_all
theorem sl_drop {w : World} {v : Value} {out : List ByteArray} {g : Nat} (h : Sl w 9 v (svs out) g) (k : Nat) : Came w (some ⟨g, k, none⟩) (svs (out.drop k)) := by
 intro j u hj
 refine ⟨_, rfl, ?_⟩
 have hj' := (List.getElem?_eq_some_iff.1 hj).1
 rw [svs_length, List.length_drop] at hj'
 rw [svs_get (by rw [List.length_drop]; omega), List.getElem_drop] at hj
 rw [addr_at, h.cell (by rw [svs_length]; omega)]
 rw [← hj]
 simp [svs]
set_option maxRecDepth 100000 in
set_option maxHeartbeats 16000000 in
theorem refSortS_any (o : Option Addr) (c : Nat) (l : List ByteArray) (hl : l.length ≤ c) (hc : c ≤ maxLen) (hn : l.length ≤ 1000) (w : World) (h : Came w o (svs l)) (hs : ∀ x ∈ l, x.size ≤ 100000) :
    Calls Tryz.prog 38 #[.slice o l.length c] w fun e w' => ∃ v g, e = .returned v ∧ Sl w' 9 v (svs (sortS l)) g ∧ w.heap.size ≤ g ∧ Below w.heap.size w w' := by
  have HC := Lib.hid h
  have HS := Lib.hid hs
  clear h hs
  go_enter Tryz.func38, Tryz.ntmps38
  go_upto_region 2 with (fail)
  have hX : w.alloc (.cells #[] 9) = w.alloc (.cells (svs []).toArray 9) := rfl
  have HB0 : Hid (Below w.heap.size w (w.alloc (.cells (svs []).toArray 9))) := Lib.hid ((Below.refl _ _).alloc (Nat.le_refl _) _)
  have HS0 : Hid (Sl (w.alloc (.cells (svs []).toArray 9)) 9 (.slice (some ⟨w.heap.size, 0, none⟩) 0 0) (svs []) w.heap.size) := Lib.hid (sl_new_strs w [] (Nat.zero_le _))
  rw [hX]
  clear hX
  generalize w.alloc (.cells (svs []).toArray 9) = W0 at *
  go_wp2_with fail
  go_loopg [3, 4] l.length (fun gk sv iv wr => ∃ (i g : Nat), iv = .int .i64 (i : Int) ∧ i ≤ l.length ∧ l.length - i ≤ gk ∧ Hid (Sl wr 9 sv (svs (sortS (l.take i))) g) ∧ w.heap.size ≤ g ∧ Hid (Below w.heap.size w wr))
  case atStart => exact ⟨0, w.heap.size, rfl, by omega, by omega, by rw [List.take_zero]; exact HS0, Nat.le_refl _, HB0⟩
  case round =>
    obtain ⟨i, g, rfl, hi, hgk, HO, hg, HB⟩ := hrel
    by_cases hlt : i < l.length
    · have hlt2 : (i : Int) < (l.length : Int) := by omega
      have hT : Hid (sortS (l.take (i + 1)) = insP (sortS (l.take i)) l[i]) := Lib.hid (by rw [List.take_succ_eq_append_getElem hlt, sortS_snoc])
      have hol : (sortS (l.take i)).length = i := by rw [sortS_len, List.length_take]; omega
      have HOm : Hid (∀ x ∈ sortS (l.take i), x.size ≤ 100000) := Lib.hid (fun x hx => HS.out x (List.mem_of_mem_take ((sortS_mem _ x).1 hx)))
      have hxs : l[i].size ≤ 100000 := HS.out _ (List.getElem_mem hlt)
      obtain ⟨ad, rfl, hx⟩ := came_str (HC.out.below HB.out) hlt
      have hci : i < c := by omega
      obtain ⟨W1, rfl⟩ : ∃ W1, W1 = wr := ⟨_, rfl⟩
      generalize hxl : l[i] = x at *
      have HXl := Lib.hid hxl
      clear hxl
      generalize sortS (l.take i) = out at *
      obtain ⟨co, rfl, hco, hcm⟩ := HO.out.open (n := i) (by rw [svs_length]; exact hol)
      go_wp2_with fail
      go_loopg [5] i (fun gk2 kv wr2 => ∃ (k n : Nat), kv = .int .i64 (k : Int) ∧ k ≤ i ∧ k ≤ gk2 ∧ Hid (wr2 = W1.drewN n) ∧ Hid (kO out x i = kO out x k))
      case atStart => exact ⟨i, 0, rfl, by omega, by omega, Lib.hid rfl, Lib.hid rfl⟩
      case round =>
        obtain ⟨k, n, rfl, hk, hgk2, HW, HK⟩ := hrel
        cases k with
        | zero =>
          have HKz : Hid (kO out x i = 0) := HK
          go_wp2_with fail
          go_quiet (fail)
          have HO2 : Hid (Sl (wr.drewN nq) 9 (.slice (some ⟨g, 0, none⟩) i co) (svs out) g) := Lib.hid (by rw [HW.out]; exact (HO.out.drewN n).drewN nq)
          have HB2 : Hid (Below w.heap.size w (wr.drewN nq)) := Lib.hid (by
            rw [HW.out, World.drewN_drewN]
            have h := HB.out
            exact ⟨h.os, h.tape, h.output, h.size, h.block⟩)
          have hx2 : (wr.drewN nq).cell? (ad.add i) = some (.string x) := by rw [HW.out]; exact hx
          clear HO HB hx HW
          generalize wr.drewN nq = W2 at *
          have hgW := HO2.out.lt
          have hwW : w.heap.size ≤ W2.heap.size := HB2.out.size
          have HDr := Lib.hid ((sl_drop HO2.out 0).below (w' := W2.alloc (.cells #[] 9)) ((Below.refl _ _).alloc (Nat.le_refl _) _))
          have HEm : Hid (Sl (W2.alloc (.cells #[] 9)) 9 (.slice (some ⟨W2.heap.size, 0, none⟩) 0 0) (svs []) W2.heap.size) := Lib.hid (sl_new_strs W2 [] (Nat.zero_le _))
          have hdl : (out.drop 0).length = i - 0 := by rw [List.length_drop, hol]
          go_wp2_with (at_builtin; refine wpList_append_strs rfl (.tmp 33) (.tmp 36) rfl (l := []) (g := W2.heap.size) rfl HEm.out (some ⟨g, 0, none⟩) (i - 0) (co - 0) (out.drop 0) rfl hdl HDr.out (by rw [hdl, List.length_nil]; omega) ?_)
          intro v3 w3 g3 hs3 hg3 hgr3
          have hs3 : Sl w3 9 v3 (svs (out.drop 0)) g3 := by first | exact hs3 | simpa using hs3
          have hdl3 : (svs (out.drop 0)).length = i - 0 := by rw [svs_length]; exact hdl
          obtain ⟨c3, rfl, hc3, hcm3⟩ := hs3.open hdl3
          have hg3W : W2.heap.size ≤ g3 := by
            rcases hg3 with rfl | rfl
            · exact Nat.le_refl _
            · simp
          have hgg3 : g ≠ g3 := by omega
          have HO3 : Hid (Sl w3 9 (.slice (some ⟨g, 0, none⟩) i co) (svs out) g) := Lib.hid ((HO2.out.alloc _).grown hgr3 (by intro e; first | (injection e with e; omega) | injection e))
          have HB3 : Hid (Below w.heap.size w w3) := Lib.hid ((HB2.out.alloc hwW _).grown hgr3 (by simp; omega) (by intro q hq; injection hq with hq; omega))
          have HS3 := Lib.hid hs3
          have hx3 : w3.cell? (ad.add i) = some (.string x) := by
            obtain ⟨a9, h9, h10⟩ := came_str (HC.out.below HB3.out) hlt
            rw [HXl.out] at h10
            injection h9 with h9
            rw [h9]; exact h10
          have hw3 : w.heap.size ≤ w3.heap.size := HB3.out.size
          have hgl3 := HO3.out.lt
          have hg3l := HS3.out.lt
          have HF3 : Hid (Sl w3 9 (.slice (some ⟨g, 0, none⟩) 0 co) (svs (out.take 0)) g) := Lib.hid (by
            have h1 := HO3.out.front (k := 0) (by rw [svs_length]; omega)
            have h2 : (svs out).take 0 = svs (out.take 0) := by simp [svs]
            rw [h2] at h1; first | exact h1 | (rw [hcc] at h1; exact h1))
          have htl : (out.take 0).length = 0 := by rw [List.length_take]; omega
          clear hs3 hgr3 hg3 HO2 HB2 hx2 HDr HEm HO3
          have hkc : 0 ≤ co := by omega
          have hfb : (out.take 0).length + 1 ≤ 1000000000000 := by omega
          have hfb2 : (out.take 0 ++ [x]).length + (out.drop 0).length ≤ 1000000000000 := by rw [List.length_append, List.length_singleton, htl, hdl]; omega
          have HIns : Hid (sortS (l.take (i + 1)) = (out.take 0 ++ [x]) ++ out.drop 0) := Lib.hid (by
            rw [hT.out]
            unfold insP
            rw [hol, HKz.out, List.append_assoc]; rfl)
          have hone : ∀ X : World, Came (X.alloc (.cells #[.string x] 9)) (some ⟨X.heap.size, 0, none⟩) (svs [x]) := fun X => Came.sl (sl_new_strs X [x] (by show 1 ≤ maxLen; unfold maxLen; omega))
          have HOne := Lib.hid hone
          have HDL := Lib.hid hdl
          have hwg : w.heap.size ≤ g := hg
          have hnn : (0 : Int) ≤ 0 := by omega
          have hkci : 0 ≤ (co : Int) := by omega
          have HFX : Hid (Sl (w3.alloc (.cells #[.string x] 9)) 9 (.slice (some ⟨g, 0, none⟩) 0 co) (svs (out.take 0)) g) := Lib.hid (HF3.out.alloc _)
          have HSX : Hid (Sl (w3.alloc (.cells #[.string x] 9)) 9 (.slice (some ⟨g3, 0, none⟩) (i - 0) c3) (svs (out.drop 0)) g3) := Lib.hid (HS3.out.alloc _)
          have HBX : Hid (Below w.heap.size w (w3.alloc (.cells #[.string x] 9))) := Lib.hid (HB3.out.alloc hw3 _)
          have hX : w.heap.size ≤ (w3.alloc (.cells #[.string x] 9)).heap.size := HBX.out.size
          have hX3 : g3 < (w3.alloc (.cells #[.string x] 9)).heap.size := HSX.out.lt
          clear hone hol hdl hdl3 hs3
          go_wp2_with fail
          go_region_law (first
            | (refine step_append_strs rfl (.tmp 40) (.tmp 45) rfl (l := out.take 0) (g := g) rfl (by first | exact HFX.out.drew | exact HFX.out) (some ⟨w3.heap.size, 0, none⟩) 1 1 [x] rfl rfl (by first | exact (HOne.out _).drew | exact HOne.out _) hfb ?_
               intro v6 w6 g6 hs6 hg6 hgr6
               have h36 : Sl w6 9 (.slice (some ⟨g3, 0, none⟩) (i - 0) c3) (svs (out.drop 0)) g3 := Sl.grown (by first | exact HSX.out.drew | exact HSX.out) hgr6 (by intro e; first | (injection e with e; omega) | injection e)
               have hb6 : Below w.heap.size w w6 := Below.grown (by first | exact HBX.out.drew | exact HBX.out) hgr6 hX (by intro q hq; injection hq with hq; omega)
               have hg6n : g6 ≠ g3 := by
                 rcases hg6 with h | h
                 · omega
                 · have h : g6 = (w3.alloc (.cells #[.string x] 9)).heap.size := h
                   omega
               have hg6w : w.heap.size ≤ g6 := by
                 rcases hg6 with h | h
                 · omega
                 · have h : g6 = (w3.alloc (.cells #[.string x] 9)).heap.size := h
                   omega
               clear hgr6 hg6)
            | (refine step_append_strs rfl (.tmp 46) (.tmp 47) rfl (l := out.take 0 ++ [x]) (g := g6) rfl (by first | exact hs6.drew | exact hs6) (some ⟨g3, 0, none⟩) _ _ (out.drop 0) rfl (by first | (rw [HDL.out]; omega) | rw [HDL.out]) (by first | exact (Came.sl h36).drew | exact Came.sl h36) hfb2 ?_
               intro v8 w8 g8 hs8 hg8 hgr8
               have hb8 : Below w.heap.size w w8 := Below.grown (by first | exact hb6.drew | exact hb6) hgr8 hb6.size (by intro q hq; injection hq with hq; omega)
               have hg8w : w.heap.size ≤ g8 := by
                 have hz := hb6.size
                 rcases hg8 with h | h
                 · omega
                 · rw [h]; exact hz))
          all_goals
            have HS9 : Hid (Sl w8 9 v8 (svs (sortS (l.take (i + 1)))) g8) := Lib.hid (by rw [HIns.out]; exact hs8)
            have HB9 := Lib.hid hb8
            clear hs8 hb8 hgr8 hg8 HIns HFX HSX HBX
            go_wp2
            go_roundg (l.length - (i + 1))
            case measure => omega
            case rel => exact ⟨i + 1, g8, by simp, by omega, by omega, HS9, hg8w, HB9⟩

        | succ m =>
          have hm : m < out.length := by omega
          have hmi : (m : Int) < (i : Int) := by omega
          have hcm2 : wr.cell? ⟨g, m, none⟩ = some (.string out[m]) := by
            rw [HW.out]
            have h1 := (HO.out.drewN n).cell (i := m) (by rw [svs_length]; exact hm)
            have h2 : (svs out)[m]'(by rw [svs_length]; exact hm) = .string out[m] := by simp [svs]
            rw [h2] at h1; exact h1
          have hxq : wr.cell? (ad.add i) = some (.string x) := by rw [HW.out]; exact hx
          have hym : out[m].size ≤ 100000 := HOm.out _ (List.getElem_mem hm)
          have HQ := Lib.hid (refCompare_any out[m] x (by omega) (by omega))
          have hkm : kO out x (m + 1) = if 0 < cmpL (bl out[m]) (bl x) then kO out x m else m + 1 := by
            rw [kO, List.getD_eq_getElem?_getD, List.getElem?_eq_getElem hm]; rfl
          have HKm := Lib.hid (HK.out.trans hkm)
          clear hkm HK
          generalize out[m] = y at *
          generalize cmpL (bl y) (bl x) = C at *
          by_cases hC : 0 < C
          · rw [if_pos hC] at HKm
            go_wp2_with fail
            go_quiet ((go_at_call 64; exact Calls.quiet_of_same (HQ.out _)))
            go_wp2
            go_roundg m
            case measure => omega
            case rel => exact ⟨m, n + nq, by simp, by omega, by omega, Lib.hid (by rw [HW.out, World.drewN_drewN]), HKm⟩
          · rw [if_neg hC] at HKm
            go_wp2_with fail
            go_quiet ((go_at_call 64; exact Calls.quiet_of_same (HQ.out _)))
            have HO2 : Hid (Sl (wr.drewN nq) 9 (.slice (some ⟨g, 0, none⟩) i co) (svs out) g) := Lib.hid (by rw [HW.out]; exact (HO.out.drewN n).drewN nq)
            have HB2 : Hid (Below w.heap.size w (wr.drewN nq)) := Lib.hid (by
              rw [HW.out, World.drewN_drewN]
              have h := HB.out
              exact ⟨h.os, h.tape, h.output, h.size, h.block⟩)
            have hx2 : (wr.drewN nq).cell? (ad.add i) = some (.string x) := by rw [HW.out]; exact hx
            clear HO HB hx HW HQ hcm2
            generalize wr.drewN nq = W2 at *
            have hgW := HO2.out.lt
            have hwW : w.heap.size ≤ W2.heap.size := HB2.out.size
            have HDr := Lib.hid ((sl_drop HO2.out (m + 1)).below (w' := W2.alloc (.cells #[] 9)) ((Below.refl _ _).alloc (Nat.le_refl _) _))
            have HEm : Hid (Sl (W2.alloc (.cells #[] 9)) 9 (.slice (some ⟨W2.heap.size, 0, none⟩) 0 0) (svs []) W2.heap.size) := Lib.hid (sl_new_strs W2 [] (Nat.zero_le _))
            have hdl : (out.drop (m + 1)).length = i - (m + 1) := by rw [List.length_drop, hol]
            by_cases hcc : co = (m + 1)
            · have HNil : Hid (out.drop (m + 1) = []) := Lib.hid (List.drop_eq_nil_of_le (by omega))
              go_wp2_with (at_builtin; refine wpList_append_strs rfl (.tmp 33) (.tmp 36) rfl (l := []) (g := W2.heap.size) rfl HEm.out (some ⟨g, 0, none⟩) (i - (m + 1)) 0 (out.drop (m + 1)) rfl hdl (by rw [HNil.out]; exact Came.nil _ _) (by rw [hdl, List.length_nil]; omega) ?_)
              intro v3 w3 g3 hs3 hg3 hgr3
              have hs3 : Sl w3 9 v3 (svs (out.drop (m + 1))) g3 := by first | exact hs3 | simpa using hs3
              have hdl3 : (svs (out.drop (m + 1))).length = i - (m + 1) := by rw [svs_length]; exact hdl
              obtain ⟨c3, rfl, hc3, hcm3⟩ := hs3.open hdl3
              have hg3W : W2.heap.size ≤ g3 := by
                rcases hg3 with rfl | rfl
                · exact Nat.le_refl _
                · simp
              have hgg3 : g ≠ g3 := by omega
              have HO3 : Hid (Sl w3 9 (.slice (some ⟨g, 0, none⟩) i co) (svs out) g) := Lib.hid ((HO2.out.alloc _).grown hgr3 (by intro e; first | (injection e with e; omega) | injection e))
              have HB3 : Hid (Below w.heap.size w w3) := Lib.hid ((HB2.out.alloc hwW _).grown hgr3 (by simp; omega) (by intro q hq; injection hq with hq; omega))
              have HS3 := Lib.hid hs3
              have hx3 : w3.cell? (ad.add i) = some (.string x) := by
                obtain ⟨a9, h9, h10⟩ := came_str (HC.out.below HB3.out) hlt
                rw [HXl.out] at h10
                injection h9 with h9
                rw [h9]; exact h10
              have hw3 : w.heap.size ≤ w3.heap.size := HB3.out.size
              have hgl3 := HO3.out.lt
              have hg3l := HS3.out.lt
              have HF3 : Hid (Sl w3 9 (.slice (some ⟨g, 0, none⟩) (m + 1) (m + 1)) (svs (out.take (m + 1))) g) := Lib.hid (by
                have h1 := HO3.out.front (k := (m + 1)) (by rw [svs_length]; omega)
                have h2 : (svs out).take (m + 1) = svs (out.take (m + 1)) := by simp [svs]
                rw [h2] at h1; first | exact h1 | (rw [hcc] at h1; exact h1))
              have htl : (out.take (m + 1)).length = (m + 1) := by rw [List.length_take]; omega
              clear hs3 hgr3 hg3 HO2 HB2 hx2 HDr HEm HO3
              have hkc : (m + 1) ≤ (m + 1) := by omega
              have hfb : (out.take (m + 1)).length + 1 ≤ 1000000000000 := by omega
              have hfb2 : (out.take (m + 1) ++ [x]).length + (out.drop (m + 1)).length ≤ 1000000000000 := by rw [List.length_append, List.length_singleton, htl, hdl]; omega
              have HIns : Hid (sortS (l.take (i + 1)) = (out.take (m + 1) ++ [x]) ++ out.drop (m + 1)) := Lib.hid (by
                rw [hT.out]
                unfold insP
                rw [hol, HKm.out, List.append_assoc]; rfl)
              have hone : ∀ X : World, Came (X.alloc (.cells #[.string x] 9)) (some ⟨X.heap.size, 0, none⟩) (svs [x]) := fun X => Came.sl (sl_new_strs X [x] (by show 1 ≤ maxLen; unfold maxLen; omega))
              have HOne := Lib.hid hone
              have HDL := Lib.hid hdl
              have hwg : w.heap.size ≤ g := hg
              have hnn : (0 : Int) ≤ (m : Int) + 1 := by omega
              have hkci : (m : Int) + 1 ≤ (co : Int) := by omega
              have HFX : Hid (Sl (w3.alloc (.cells #[.string x] 9)) 9 (.slice (some ⟨g, 0, none⟩) (m + 1) (m + 1)) (svs (out.take (m + 1))) g) := Lib.hid (HF3.out.alloc _)
              have HSX : Hid (Sl (w3.alloc (.cells #[.string x] 9)) 9 (.slice (some ⟨g3, 0, none⟩) (i - (m + 1)) c3) (svs (out.drop (m + 1))) g3) := Lib.hid (HS3.out.alloc _)
              have HBX : Hid (Below w.heap.size w (w3.alloc (.cells #[.string x] 9))) := Lib.hid (HB3.out.alloc hw3 _)
              have hX : w.heap.size ≤ (w3.alloc (.cells #[.string x] 9)).heap.size := HBX.out.size
              have hX3 : g3 < (w3.alloc (.cells #[.string x] 9)).heap.size := HSX.out.lt
              clear hone hol hdl hdl3 hs3
              go_wp2_with fail
              go_region_law (first
                | (refine step_append_strs rfl (.tmp 40) (.tmp 45) rfl (l := out.take (m + 1)) (g := g) rfl (by first | exact HFX.out.drew | exact HFX.out) (some ⟨w3.heap.size, 0, none⟩) 1 1 [x] rfl rfl (by first | exact (HOne.out _).drew | exact HOne.out _) hfb ?_
                   intro v6 w6 g6 hs6 hg6 hgr6
                   have h36 : Sl w6 9 (.slice (some ⟨g3, 0, none⟩) (i - (m + 1)) c3) (svs (out.drop (m + 1))) g3 := Sl.grown (by first | exact HSX.out.drew | exact HSX.out) hgr6 (by intro e; first | (injection e with e; omega) | injection e)
                   have hb6 : Below w.heap.size w w6 := Below.grown (by first | exact HBX.out.drew | exact HBX.out) hgr6 hX (by intro q hq; injection hq with hq; omega)
                   have hg6n : g6 ≠ g3 := by
                     rcases hg6 with h | h
                     · omega
                     · have h : g6 = (w3.alloc (.cells #[.string x] 9)).heap.size := h
                       omega
                   have hg6w : w.heap.size ≤ g6 := by
                     rcases hg6 with h | h
                     · omega
                     · have h : g6 = (w3.alloc (.cells #[.string x] 9)).heap.size := h
                       omega
                   clear hgr6 hg6)
                | (refine step_append_strs rfl (.tmp 46) (.tmp 47) rfl (l := out.take (m + 1) ++ [x]) (g := g6) rfl (by first | exact hs6.drew | exact hs6) (some ⟨g3, 0, none⟩) _ _ (out.drop (m + 1)) rfl (by first | (rw [HDL.out]; omega) | rw [HDL.out]) (by first | exact (Came.sl h36).drew | exact Came.sl h36) hfb2 ?_
                   intro v8 w8 g8 hs8 hg8 hgr8
                   have hb8 : Below w.heap.size w w8 := Below.grown (by first | exact hb6.drew | exact hb6) hgr8 hb6.size (by intro q hq; injection hq with hq; omega)
                   have hg8w : w.heap.size ≤ g8 := by
                     have hz := hb6.size
                     rcases hg8 with h | h
                     · omega
                     · rw [h]; exact hz))
              all_goals
                have HS9 : Hid (Sl w8 9 v8 (svs (sortS (l.take (i + 1)))) g8) := Lib.hid (by rw [HIns.out]; exact hs8)
                have HB9 := Lib.hid hb8
                clear hs8 hb8 hgr8 hg8 HIns HFX HSX HBX
                go_wp2
                go_roundg (l.length - (i + 1))
                case measure => omega
                case rel => exact ⟨i + 1, g8, by simp, by omega, by omega, HS9, hg8w, HB9⟩

            · by_cases hic : i = (m + 1)
              · have HNil : Hid (out.drop (m + 1) = []) := Lib.hid (List.drop_eq_nil_of_le (by omega))
                have hz9 : i - (m + 1) = 0 := by omega
                clear hic
                go_wp2_with (at_builtin; refine wpList_append_strs rfl (.tmp 33) (.tmp 36) rfl (l := []) (g := W2.heap.size) rfl HEm.out (some ⟨g, (m + 1), none⟩) 0 (co - (m + 1)) (out.drop (m + 1)) rfl (by rw [hdl]; omega) (by rw [HNil.out]; exact Came.nil _ _) (by rw [hdl, List.length_nil]; omega) ?_)
                intro v3 w3 g3 hs3 hg3 hgr3
                have hs3 : Sl w3 9 v3 (svs (out.drop (m + 1))) g3 := by first | exact hs3 | simpa using hs3
                have hdl3 : (svs (out.drop (m + 1))).length = i - (m + 1) := by rw [svs_length]; exact hdl
                obtain ⟨c3, rfl, hc3, hcm3⟩ := hs3.open hdl3
                have hg3W : W2.heap.size ≤ g3 := by
                  rcases hg3 with rfl | rfl
                  · exact Nat.le_refl _
                  · simp
                have hgg3 : g ≠ g3 := by omega
                have HO3 : Hid (Sl w3 9 (.slice (some ⟨g, 0, none⟩) i co) (svs out) g) := Lib.hid ((HO2.out.alloc _).grown hgr3 (by intro e; first | (injection e with e; omega) | injection e))
                have HB3 : Hid (Below w.heap.size w w3) := Lib.hid ((HB2.out.alloc hwW _).grown hgr3 (by simp; omega) (by intro q hq; injection hq with hq; omega))
                have HS3 := Lib.hid hs3
                have hx3 : w3.cell? (ad.add i) = some (.string x) := by
                  obtain ⟨a9, h9, h10⟩ := came_str (HC.out.below HB3.out) hlt
                  rw [HXl.out] at h10
                  injection h9 with h9
                  rw [h9]; exact h10
                have hw3 : w.heap.size ≤ w3.heap.size := HB3.out.size
                have hgl3 := HO3.out.lt
                have hg3l := HS3.out.lt
                have HF3 : Hid (Sl w3 9 (.slice (some ⟨g, 0, none⟩) (m + 1) co) (svs (out.take (m + 1))) g) := Lib.hid (by
                  have h1 := HO3.out.front (k := (m + 1)) (by rw [svs_length]; omega)
                  have h2 : (svs out).take (m + 1) = svs (out.take (m + 1)) := by simp [svs]
                  rw [h2] at h1; first | exact h1 | (rw [hcc] at h1; exact h1))
                have htl : (out.take (m + 1)).length = (m + 1) := by rw [List.length_take]; omega
                clear hs3 hgr3 hg3 HO2 HB2 hx2 HDr HEm HO3
                have hkc : (m + 1) ≤ co := by omega
                have hfb : (out.take (m + 1)).length + 1 ≤ 1000000000000 := by omega
                have hfb2 : (out.take (m + 1) ++ [x]).length + (out.drop (m + 1)).length ≤ 1000000000000 := by rw [List.length_append, List.length_singleton, htl, hdl]; omega
                have HIns : Hid (sortS (l.take (i + 1)) = (out.take (m + 1) ++ [x]) ++ out.drop (m + 1)) := Lib.hid (by
                  rw [hT.out]
                  unfold insP
                  rw [hol, HKm.out, List.append_assoc]; rfl)
                have hone : ∀ X : World, Came (X.alloc (.cells #[.string x] 9)) (some ⟨X.heap.size, 0, none⟩) (svs [x]) := fun X => Came.sl (sl_new_strs X [x] (by show 1 ≤ maxLen; unfold maxLen; omega))
                have HOne := Lib.hid hone
                have HDL := Lib.hid hdl
                have hwg : w.heap.size ≤ g := hg
                have hnn : (0 : Int) ≤ (m : Int) + 1 := by omega
                have hkci : (m : Int) + 1 ≤ (co : Int) := by omega
                have HFX : Hid (Sl (w3.alloc (.cells #[.string x] 9)) 9 (.slice (some ⟨g, 0, none⟩) (m + 1) co) (svs (out.take (m + 1))) g) := Lib.hid (HF3.out.alloc _)
                have HSX : Hid (Sl (w3.alloc (.cells #[.string x] 9)) 9 (.slice (some ⟨g3, 0, none⟩) (i - (m + 1)) c3) (svs (out.drop (m + 1))) g3) := Lib.hid (HS3.out.alloc _)
                have HBX : Hid (Below w.heap.size w (w3.alloc (.cells #[.string x] 9))) := Lib.hid (HB3.out.alloc hw3 _)
                have hX : w.heap.size ≤ (w3.alloc (.cells #[.string x] 9)).heap.size := HBX.out.size
                have hX3 : g3 < (w3.alloc (.cells #[.string x] 9)).heap.size := HSX.out.lt
                clear hone hol hdl hdl3 hs3
                go_wp2_with fail
                go_region_law (first
                  | (refine step_append_strs rfl (.tmp 40) (.tmp 45) rfl (l := out.take (m + 1)) (g := g) rfl (by first | exact HFX.out.drew | exact HFX.out) (some ⟨w3.heap.size, 0, none⟩) 1 1 [x] rfl rfl (by first | exact (HOne.out _).drew | exact HOne.out _) hfb ?_
                     intro v6 w6 g6 hs6 hg6 hgr6
                     have h36 : Sl w6 9 (.slice (some ⟨g3, 0, none⟩) (i - (m + 1)) c3) (svs (out.drop (m + 1))) g3 := Sl.grown (by first | exact HSX.out.drew | exact HSX.out) hgr6 (by intro e; first | (injection e with e; omega) | injection e)
                     have hb6 : Below w.heap.size w w6 := Below.grown (by first | exact HBX.out.drew | exact HBX.out) hgr6 hX (by intro q hq; injection hq with hq; omega)
                     have hg6n : g6 ≠ g3 := by
                       rcases hg6 with h | h
                       · omega
                       · have h : g6 = (w3.alloc (.cells #[.string x] 9)).heap.size := h
                         omega
                     have hg6w : w.heap.size ≤ g6 := by
                       rcases hg6 with h | h
                       · omega
                       · have h : g6 = (w3.alloc (.cells #[.string x] 9)).heap.size := h
                         omega
                     clear hgr6 hg6)
                  | (refine step_append_strs rfl (.tmp 46) (.tmp 47) rfl (l := out.take (m + 1) ++ [x]) (g := g6) rfl (by first | exact hs6.drew | exact hs6) (some ⟨g3, 0, none⟩) _ _ (out.drop (m + 1)) rfl (by first | (rw [HDL.out]; omega) | rw [HDL.out]) (by first | exact (Came.sl h36).drew | exact Came.sl h36) hfb2 ?_
                     intro v8 w8 g8 hs8 hg8 hgr8
                     have hb8 : Below w.heap.size w w8 := Below.grown (by first | exact hb6.drew | exact hb6) hgr8 hb6.size (by intro q hq; injection hq with hq; omega)
                     have hg8w : w.heap.size ≤ g8 := by
                       have hz := hb6.size
                       rcases hg8 with h | h
                       · omega
                       · rw [h]; exact hz))
                all_goals
                  have HS9 : Hid (Sl w8 9 v8 (svs (sortS (l.take (i + 1)))) g8) := Lib.hid (by rw [HIns.out]; exact hs8)
                  have HB9 := Lib.hid hb8
                  clear hs8 hb8 hgr8 hg8 HIns HFX HSX HBX
                  go_wp2
                  go_roundg (l.length - (i + 1))
                  case measure => omega
                  case rel => exact ⟨i + 1, g8, by simp, by omega, by omega, HS9, hg8w, HB9⟩

              · have hic2 : ¬ i - (m + 1) = 0 := by omega
                go_wp2_with (at_builtin; refine wpList_append_strs rfl (.tmp 33) (.tmp 36) rfl (l := []) (g := W2.heap.size) rfl HEm.out (some ⟨g, (m + 1), none⟩) (i - (m + 1)) (co - (m + 1)) (out.drop (m + 1)) rfl hdl HDr.out (by rw [hdl, List.length_nil]; omega) ?_)
                intro v3 w3 g3 hs3 hg3 hgr3
                have hs3 : Sl w3 9 v3 (svs (out.drop (m + 1))) g3 := by first | exact hs3 | simpa using hs3
                have hdl3 : (svs (out.drop (m + 1))).length = i - (m + 1) := by rw [svs_length]; exact hdl
                obtain ⟨c3, rfl, hc3, hcm3⟩ := hs3.open hdl3
                have hg3W : W2.heap.size ≤ g3 := by
                  rcases hg3 with rfl | rfl
                  · exact Nat.le_refl _
                  · simp
                have hgg3 : g ≠ g3 := by omega
                have HO3 : Hid (Sl w3 9 (.slice (some ⟨g, 0, none⟩) i co) (svs out) g) := Lib.hid ((HO2.out.alloc _).grown hgr3 (by intro e; first | (injection e with e; omega) | injection e))
                have HB3 : Hid (Below w.heap.size w w3) := Lib.hid ((HB2.out.alloc hwW _).grown hgr3 (by simp; omega) (by intro q hq; injection hq with hq; omega))
                have HS3 := Lib.hid hs3
                have hx3 : w3.cell? (ad.add i) = some (.string x) := by
                  obtain ⟨a9, h9, h10⟩ := came_str (HC.out.below HB3.out) hlt
                  rw [HXl.out] at h10
                  injection h9 with h9
                  rw [h9]; exact h10
                have hw3 : w.heap.size ≤ w3.heap.size := HB3.out.size
                have hgl3 := HO3.out.lt
                have hg3l := HS3.out.lt
                have HF3 : Hid (Sl w3 9 (.slice (some ⟨g, 0, none⟩) (m + 1) co) (svs (out.take (m + 1))) g) := Lib.hid (by
                  have h1 := HO3.out.front (k := (m + 1)) (by rw [svs_length]; omega)
                  have h2 : (svs out).take (m + 1) = svs (out.take (m + 1)) := by simp [svs]
                  rw [h2] at h1; first | exact h1 | (rw [hcc] at h1; exact h1))
                have htl : (out.take (m + 1)).length = (m + 1) := by rw [List.length_take]; omega
                clear hs3 hgr3 hg3 HO2 HB2 hx2 HDr HEm HO3
                have hkc : (m + 1) ≤ co := by omega
                have hfb : (out.take (m + 1)).length + 1 ≤ 1000000000000 := by omega
                have hfb2 : (out.take (m + 1) ++ [x]).length + (out.drop (m + 1)).length ≤ 1000000000000 := by rw [List.length_append, List.length_singleton, htl, hdl]; omega
                have HIns : Hid (sortS (l.take (i + 1)) = (out.take (m + 1) ++ [x]) ++ out.drop (m + 1)) := Lib.hid (by
                  rw [hT.out]
                  unfold insP
                  rw [hol, HKm.out, List.append_assoc]; rfl)
                have hone : ∀ X : World, Came (X.alloc (.cells #[.string x] 9)) (some ⟨X.heap.size, 0, none⟩) (svs [x]) := fun X => Came.sl (sl_new_strs X [x] (by show 1 ≤ maxLen; unfold maxLen; omega))
                have HOne := Lib.hid hone
                have HDL := Lib.hid hdl
                have hwg : w.heap.size ≤ g := hg
                have hnn : (0 : Int) ≤ (m : Int) + 1 := by omega
                have hkci : (m : Int) + 1 ≤ (co : Int) := by omega
                have HFX : Hid (Sl (w3.alloc (.cells #[.string x] 9)) 9 (.slice (some ⟨g, 0, none⟩) (m + 1) co) (svs (out.take (m + 1))) g) := Lib.hid (HF3.out.alloc _)
                have HSX : Hid (Sl (w3.alloc (.cells #[.string x] 9)) 9 (.slice (some ⟨g3, 0, none⟩) (i - (m + 1)) c3) (svs (out.drop (m + 1))) g3) := Lib.hid (HS3.out.alloc _)
                have HBX : Hid (Below w.heap.size w (w3.alloc (.cells #[.string x] 9))) := Lib.hid (HB3.out.alloc hw3 _)
                have hX : w.heap.size ≤ (w3.alloc (.cells #[.string x] 9)).heap.size := HBX.out.size
                have hX3 : g3 < (w3.alloc (.cells #[.string x] 9)).heap.size := HSX.out.lt
                clear hone hol hdl hdl3 hs3
                go_wp2_with fail
                go_region_law (first
                  | (refine step_append_strs rfl (.tmp 40) (.tmp 45) rfl (l := out.take (m + 1)) (g := g) rfl (by first | exact HFX.out.drew | exact HFX.out) (some ⟨w3.heap.size, 0, none⟩) 1 1 [x] rfl rfl (by first | exact (HOne.out _).drew | exact HOne.out _) hfb ?_
                     intro v6 w6 g6 hs6 hg6 hgr6
                     have h36 : Sl w6 9 (.slice (some ⟨g3, 0, none⟩) (i - (m + 1)) c3) (svs (out.drop (m + 1))) g3 := Sl.grown (by first | exact HSX.out.drew | exact HSX.out) hgr6 (by intro e; first | (injection e with e; omega) | injection e)
                     have hb6 : Below w.heap.size w w6 := Below.grown (by first | exact HBX.out.drew | exact HBX.out) hgr6 hX (by intro q hq; injection hq with hq; omega)
                     have hg6n : g6 ≠ g3 := by
                       rcases hg6 with h | h
                       · omega
                       · have h : g6 = (w3.alloc (.cells #[.string x] 9)).heap.size := h
                         omega
                     have hg6w : w.heap.size ≤ g6 := by
                       rcases hg6 with h | h
                       · omega
                       · have h : g6 = (w3.alloc (.cells #[.string x] 9)).heap.size := h
                         omega
                     clear hgr6 hg6)
                  | (refine step_append_strs rfl (.tmp 46) (.tmp 47) rfl (l := out.take (m + 1) ++ [x]) (g := g6) rfl (by first | exact hs6.drew | exact hs6) (some ⟨g3, 0, none⟩) _ _ (out.drop (m + 1)) rfl (by first | (rw [HDL.out]; omega) | rw [HDL.out]) (by first | exact (Came.sl h36).drew | exact Came.sl h36) hfb2 ?_
                     intro v8 w8 g8 hs8 hg8 hgr8
                     have hb8 : Below w.heap.size w w8 := Below.grown (by first | exact hb6.drew | exact hb6) hgr8 hb6.size (by intro q hq; injection hq with hq; omega)
                     have hg8w : w.heap.size ≤ g8 := by
                       have hz := hb6.size
                       rcases hg8 with h | h
                       · omega
                       · rw [h]; exact hz))
                all_goals
                  have HS9 : Hid (Sl w8 9 v8 (svs (sortS (l.take (i + 1)))) g8) := Lib.hid (by rw [HIns.out]; exact hs8)
                  have HB9 := Lib.hid hb8
                  clear hs8 hb8 hgr8 hg8 HIns HFX HSX HBX
                  go_wp2
                  go_roundg (l.length - (i + 1))
                  case measure => omega
                  case rel => exact ⟨i + 1, g8, by simp, by omega, by omega, HS9, hg8w, HB9⟩

    · have hlt2 : ¬ (i : Int) < (l.length : Int) := by omega
      obtain rfl : i = l.length := by omega
      have hBf := HB.out
      have hO := HO.out
      rw [List.take_length] at hO
      clear HC HS HO HB HS0 HB0
      go_wp2
      go_returns
      exact ⟨_, rfl, g, hO, hg, hBf⟩
end Go.Proofs.YtiecbagejdcafaaGreatDoor
/- What package order's Compare gives: which of two elements comes first. Of every two elements of at most 10^15 bytes each. -/
namespace Go.Proofs.YtiecbagejdcafaaGreatDoor
open Go.RowKit Go.PlainAid
set_option linter.unusedVariables false
theorem isNaN_any (x : Int) (w : World) : Calls Tryz.prog 156 #[.int .u8 x] w fun e w' => e = .returned (.bool false) ∧ w' = w := by
 have h : (x != x) = false := by simp
 go_enter Tryz.func156, Tryz.ntmps156
 go_wp2
 go_returns
 exact ⟨rfl, rfl⟩
set_option maxHeartbeats 1000000 in
theorem cmpB_any (x y : Int) (w : World) : Calls Tryz.prog 114 #[.int .u8 x, .int .u8 y] w fun e w' => e = .returned (.int .i64 (cmp1 x y)) ∧ w' = w := by
 obtain ⟨R, hR⟩ : ∃ R, cmp1 x y = R := ⟨_, rfl⟩
 rw [hR]
 unfold cmp1 at hR
 go_enter Tryz.func114, Tryz.ntmps114
 by_cases h1 : x < y
 ·rw [if_pos h1] at hR
  subst hR
  go_wp2_with ((with_reducible refine (isNaN_any _ _).mono ?_); rintro e w1 ⟨rfl, rfl⟩)
  go_returns
  exact ⟨rfl, rfl⟩
 ·rw [if_neg h1] at hR
  by_cases h2 : y < x
  ·rw [if_pos h2] at hR
   subst hR
   go_wp2_with ((with_reducible refine (isNaN_any _ _).mono ?_); rintro e w1 ⟨rfl, rfl⟩)
   go_returns
   exact ⟨rfl, rfl⟩
  ·rw [if_neg h2] at hR
   subst hR
   go_wp2_with ((with_reducible refine (isNaN_any _ _).mono ?_); rintro e w1 ⟨rfl, rfl⟩)
   go_returns
   exact ⟨rfl, rfl⟩
theorem byteAt_any (s : ByteArray) (hs : s.size ≤ 1000000000000000) (i : Nat) (hi : i ≤ 1000000000000000) (w : World) :
  Calls Tryz.prog 115 #[.string s, .int .i64 (i : Int)] w fun e w' => e = .returned (.int .u8 (hd0 ((bl s).drop i))) ∧ w' = w := by
 by_cases h : i < s.size
 ·have hlt : (i : Int) < (s.size : Int) := by omega
  have hg := get_bt s i h
  rw [bl_drop s i h]
  show Calls _ _ _ _ fun e w' => e = .returned (.int .u8 (bt s i)) ∧ w' = w
  generalize bt s i = x at *
  go_enter Tryz.func115, Tryz.ntmps115
  go_wp2
  go_returns
  exact ⟨rfl, rfl⟩
 ·have hlt : ¬ (i : Int) < (s.size : Int) := by omega
  rw [bl_drop_end s i (by omega)]
  show Calls _ _ _ _ fun e w' => e = .returned (.int .u8 0) ∧ w' = w
  clear h
  go_enter Tryz.func115, Tryz.ntmps115
  go_wp2
  go_returns
  exact ⟨rfl, rfl⟩
theorem drop_tail (l : List Int) (i : Nat) : (l.drop i).tail = l.drop (i + 1) := by rw [List.tail_drop]
set_option maxRecDepth 100000 in
set_option maxHeartbeats 4000000 in
theorem ordCompare_any (a b : ByteArray) (ha : a.size ≤ 1000000000000000) (hb : b.size ≤ 1000000000000000) (w : World) :
  Calls Tryz.prog 89 #[.string a, .string b] w fun e w' => e = .returned (.int .i64 (cmpL (bl a) (bl b))) ∧ w' = w := by
 obtain ⟨R, hR⟩ : ∃ R, cmpL (bl a) (bl b) = R := ⟨_, rfl⟩
 rw [hR]
 have HR := Lib.hid hR
 clear hR
 obtain ⟨M, hM⟩ : ∃ M, max a.size b.size = M := ⟨_, rfl⟩
 have hMi : max (a.size : Int) (b.size : Int) = (M : Int) := by omega
 have hM2 : M ≤ 1000000000000000 := by omega
 have haM : a.size ≤ M := by omega
 have hbM : b.size ≤ M := by omega
 clear hM
 have HHH := Lib.hid hMi
 clear hMi
 go_enter Tryz.func89, Tryz.ntmps89
 go_wp2_with fail
 rw [HHH.out]
 clear HHH
 go_loopg [12] M (fun gk iv wr => ∃ i : Nat, iv = .int .i64 (i : Int) ∧ i ≤ M ∧ M - i ≤ gk ∧ w = wr ∧ Hid (cmpL ((bl a).drop i) ((bl b).drop i) = R))
 case atStart => exact ⟨0, rfl, by omega, by omega, rfl, HR⟩
 case round =>
  obtain ⟨i, rfl, hi, hgk, rfl, HI⟩ := hrel
  by_cases hlt : i < M
  ·have hlt2 : (i : Int) < (M : Int) := by omega
   have hC1 := byteAt_any a ha i (by omega) w
   have hC2 := byteAt_any b hb i (by omega) w
   have hst := HI.out
   rw [cmpL_step, drop_tail, drop_tail] at hst
   generalize hd0 ((bl a).drop i) = x at *
   generalize hd0 ((bl b).drop i) = y at *
   have hC3 := cmpB_any x y w
   have HC1 := Lib.hid hC1
   have HC2 := Lib.hid hC2
   have HC3 := Lib.hid hC3
   clear hC1 hC2 hC3
   by_cases hz : cmp1 x y = 0
   ·rw [if_neg (by omega)] at hst
    have HS := Lib.hid hst
    have hne : (cmp1 x y != 0) = false := by simp [hz]
    clear hst HI
    go_wp2_with fail
    refine HC1.out.mono ?_
    rintro e w1 ⟨rfl, rfl⟩
    go_wp2_with fail
    refine HC2.out.mono ?_
    rintro e w2 ⟨rfl, rfl⟩
    go_wp2_with fail
    refine HC3.out.mono ?_
    rintro e w3 ⟨rfl, rfl⟩
    go_wp2_with fail
    go_roundg (M - (i + 1))
    case measure => omega
    case rel => exact ⟨i + 1, by simp, by omega, by omega, rfl, HS⟩
   ·rw [if_pos hz] at hst
    have hne : (cmp1 x y != 0) = true := by simp [hz]
    subst hst
    clear HI
    go_wp2_with fail
    refine HC1.out.mono ?_
    rintro e w1 ⟨rfl, rfl⟩
    go_wp2_with fail
    refine HC2.out.mono ?_
    rintro e w2 ⟨rfl, rfl⟩
    go_wp2_with fail
    refine HC3.out.mono ?_
    rintro e w3 ⟨rfl, rfl⟩
    go_wp2_with fail
    go_returns
    exact ⟨rfl, rfl⟩
  ·have hlt2 : ¬ (i : Int) < (M : Int) := by omega
   have hst := HI.out
   rw [List.drop_eq_nil_of_le (by rw [bl_length]; omega), List.drop_eq_nil_of_le (by rw [bl_length]; omega)] at hst
   rw [show cmpL [] [] = 0 by simp [cmpL]] at hst
   subst hst
   clear HI hlt
   go_wp2
   go_returns
   exact ⟨rfl, rfl⟩
end Go.Proofs.YtiecbagejdcafaaGreatDoor
