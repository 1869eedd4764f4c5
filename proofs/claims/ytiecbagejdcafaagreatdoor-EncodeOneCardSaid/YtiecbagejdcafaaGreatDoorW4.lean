/- Dates and their contents in plain words: what is put is got, what is got is put, the later one is the greater text. They hold of texts alone, under no condition on the program. -/
import Derived.Test.YtiecbagejdcafaaGreatDoorW3
import Derived.Test.YtiecbagejdcafaaGreatDoorB0
import Derived.Test.YtiecbagejdcafaaGreatDoorW2
import Derived.Lib.AppendIntMem
import Derived.PlainAid
import Derived.Deep.RegionWith
import Derived.Test.YtiecbagejdcafaaGreatDoorShelf
import Derived.Test.YtiecbagejdcafaaGreatDoorCards
import Derived.Test.YtiecbagejdcafaaGreatDoorTie
import Derived.WalkKit
import Derived.ProofKit
import Derived.OpenShut
import Derived.Deep.DeepHandedRow
import Derived.Lib.LaidTab
import Derived.Stop.LaidErr
namespace Go.Proofs.YtiecbagejdcafaaGreatDoor
open Go.PlainAid
set_option linter.unusedVariables false
theorem less_rest (l : List UInt8) : Op.bytesLess l [] = false := by cases l <;> rfl
theorem less4 (t : ByteArray) (h : 4 ≤ t.size) (p q r s : UInt8) : Op.bytesLess t.toList [p, q, r, s] = decide (bt t 0 < p.toNat ∨ (bt t 0 = p.toNat ∧ (bt t 1 < q.toNat ∨ (bt t 1 = q.toNat ∧ (bt t 2 < r.toNat ∨ (bt t 2 = r.toNat ∧ bt t 3 < s.toNat)))))) := by
 rw [Lib.toList_data]
 obtain ⟨⟨l⟩⟩ := t
 have hl : 4 ≤ l.length := h
 match l, hl with
 |a :: b :: c :: d :: rest, _ =>
  show Op.bytesLess (a :: b :: c :: d :: rest) _ = decide ((a.toNat : Int) < p.toNat ∨ ((a.toNat : Int) = p.toNat ∧ ((b.toNat : Int) < q.toNat ∨ ((b.toNat : Int) = q.toNat ∧ ((c.toNat : Int) < r.toNat ∨ ((c.toNat : Int) = r.toNat ∧ (d.toNat : Int) < s.toNat))))))
  have e : Op.bytesLess (a :: b :: c :: d :: rest) [p, q, r, s] = (decide (a < p) || (a == p && (decide (b < q) || (b == q && (decide (c < r) || (c == r && (decide (d < s) || (d == s && Op.bytesLess rest []))))))))  := rfl
  rw [e, less_rest]
  have q1 : ∀ x y : UInt8, (x == y) = decide ((x.toNat : Int) = (y.toNat : Int)) := fun x y => by rw [← decide_eq_decide.2 (u8_eq x y)]; rfl
  have q2 : ∀ x y : UInt8, decide (x < y) = decide ((x.toNat : Int) < (y.toNat : Int)) := fun x y => decide_eq_decide.2 (u8_lt x y)
  rw [q1, q1, q1, q1, q2, q2, q2, q2, Bool.and_false, Bool.or_false]
  simp only [Bool.decide_or, Bool.decide_and]
theorem date_digits {l : List Int} (h : dateP l) : ∀ i, i < 14 → isD (g l i) := fun i hi => (h.2 i (by rw [h.1]; exact hi)).1
theorem yr_is (l : List Int) : yr l = 1000 * (g l 0 - 48) + 100 * (g l 1 - 48) + 10 * (g l 2 - 48) + (g l 3 - 48) := by
 unfold yr n2; simp only [Nat.zero_add, Nat.reduceAdd]; omega
theorem less_1950 (t : ByteArray) (h : dateP (bl t)) : Op.bytesLess t.toList [49, 57, 53, 48] = decide (yr (bl t) < 1950) := by
 have hs : t.size = 14 := by rw [← bl_length]; exact h.1
 rw [less4 t (by omega)]
 have d0 := date_digits h 0 (by decide)
 have d1 := date_digits h 1 (by decide)
 have d2 := date_digits h 2 (by decide)
 have d3 := date_digits h 3 (by decide)
 rw [yr_is]
 rw [← bt_g] at *
 rw [← bt_g] at *
 rw [← bt_g] at *
 rw [← bt_g] at *
 unfold isD at *
 apply decide_eq_decide.2
 show (bt t 0 < 49 ∨ (bt t 0 = 49 ∧ (bt t 1 < 57 ∨ (bt t 1 = 57 ∧ (bt t 2 < 53 ∨ (bt t 2 = 53 ∧ bt t 3 < 48)))))) ↔ _
 omega
theorem less_2050d (t : ByteArray) (h : dateP (bl t)) : Op.bytesLess t.toList [50, 48, 53, 48] = decide (yr (bl t) < 2050) := by
 have hs : t.size = 14 := by rw [← bl_length]; exact h.1
 rw [less4 t (by omega)]
 have d0 := date_digits h 0 (by decide)
 have d1 := date_digits h 1 (by decide)
 have d2 := date_digits h 2 (by decide)
 have d3 := date_digits h 3 (by decide)
 rw [yr_is]
 rw [← bt_g] at *
 rw [← bt_g] at *
 rw [← bt_g] at *
 rw [← bt_g] at *
 unfold isD at *
 apply decide_eq_decide.2
 show (bt t 0 < 50 ∨ (bt t 0 = 50 ∧ (bt t 1 < 48 ∨ (bt t 1 = 48 ∧ (bt t 2 < 53 ∨ (bt t 2 = 53 ∧ bt t 3 < 48)))))) ↔ _
 omega
/-! ### Put and Get -/
def wOk (d : ByteArray) : Bool := decide (dateP (bl d) ∧ 1950 ≤ yr (bl d))
def wTag (d : ByteArray) : Int := if yr (bl d) < 2050 then 23 else 24
def wC (d : ByteArray) : ByteArray := (if yr (bl d) < 2050 then d.extract 2 14 else d) ++ ⟨#[90]⟩
theorem wC_bl (d : ByteArray) (h : d.size = 14) : bl (wC d) = (if yr (bl d) < 2050 then (bl d).drop 2 else bl d) ++ [90] := by
 unfold wC
 rw [bl_append]
 split
 ·rw [bl_extract _ _ _ (by omega), List.take_of_length_le (by rw [List.length_drop, bl_length]; omega)]; rfl
 ·rfl
theorem g_drop (l : List Int) (k i : Nat) : g (l.drop k) i = g l (k + i) := by
 unfold g; rw [List.getD_eq_getElem?_getD, List.getElem?_drop, List.getD_eq_getElem?_getD]
theorem cent_date {l : List Int} (h : dateP l) (h0 : 1950 ≤ yr l) (h1 : yr l < 2050) : cent (g l 2) ++ l.drop 2 = l := by
 have d0 := date_digits h 0 (by decide)
 have d1 := date_digits h 1 (by decide)
 have d2 := date_digits h 2 (by decide)
 have d3 := date_digits h 3 (by decide)
 rw [yr_is] at h0 h1
 unfold isD at d0 d1 d2 d3
 have hl := h.1
 have e2 : l = [g l 0, g l 1] ++ l.drop 2 := by
  match l, hl with
  |a :: b :: r, _ => rfl
 have hc : cent (g l 2) = [g l 0, g l 1] := by
  unfold cent
  split
  ·rename_i hx; rw [show g l 0 = 50 by omega, show g l 1 = 48 by omega]
  ·rename_i hx; rw [show g l 0 = 49 by omega, show g l 1 = 57 by omega]
 rw [hc]; exact e2.symm
theorem wOk_iff {d : ByteArray} : wOk d = true ↔ dateP (bl d) ∧ 1950 ≤ yr (bl d) := by unfold wOk; rw [decide_eq_true_eq]
theorem wOk_size {d : ByteArray} (h : wOk d = true) : d.size = 14 := by rw [← bl_length]; exact (wOk_iff.1 h).1.1
theorem w_put {d : ByteArray} (h : wOk d = true) : rightP (wTag d) (bl (wC d)) ∧ fullS (wTag d) (wC d) = d ∧ (wC d).size = (if yr (bl d) < 2050 then 13 else 15) := by
 obtain ⟨hd, hy⟩ := wOk_iff.1 h
 have hs := wOk_size h
 have hb := wC_bl d hs
 have hl := hd.1
 unfold wTag
 by_cases hu : yr (bl d) < 2050
 ·rw [if_pos hu] at hb ⊢
  have hsz : (wC d).size = 13 := by rw [← bl_length, hb, List.length_append, List.length_drop, hl]; rfl
  have hdl : ((bl d).drop 2).length = 12 := by rw [List.length_drop, hl]
  have hg0 : g (bl (wC d)) 0 = g (bl d) 2 := by rw [hb, g_left (by omega), g_drop]
  have hf : fullC 23 (bl (wC d)) = bl d := by
   unfold fullC
   rw [if_neg (by decide), hg0, hb, List.take_append_of_le_length (by omega), List.take_of_length_le (by omega)]
   exact cent_date hd hy hu
  refine ⟨(right_utc _).2 ⟨by rw [bl_length]; exact hsz, ?_, by rw [hf]; exact hd⟩, bl_inj ?_, by rw [if_pos hu]; exact hsz⟩
  ·rw [hb, g_right (by omega), hdl]; rfl
  ·rw [fullS_bl _ _ (by omega) (fun e => absurd e (by decide)), hf]
 ·rw [if_neg hu] at hb ⊢
  have hsz : (wC d).size = 15 := by rw [← bl_length, hb, List.length_append, hl]; rfl
  have hf : fullC 24 (bl (wC d)) = bl d := by
   unfold fullC
   rw [if_pos rfl, hb, List.take_append_of_le_length (by omega), List.take_of_length_le (by omega)]
  have hg : ∀ i, i < 14 → g (bl (wC d)) i = g (bl d) i := fun i hi => by rw [hb, g_left (by omega)]
  have d0 := date_digits hd 0 (by decide)
  have d1 := date_digits hd 1 (by decide)
  have d2 := date_digits hd 2 (by decide)
  have d3 := date_digits hd 3 (by decide)
  have hy2 : 2050 ≤ yr (bl d) := by omega
  rw [yr_is] at hy2
  unfold isD at d0 d1 d2 d3
  refine ⟨(right_gen _).2 ⟨by rw [bl_length]; exact hsz, ?_, by rw [hf]; exact hd, ⟨fun _ => ?_, fun e => by omega⟩, ⟨fun e => by omega, fun _ => ?_⟩⟩, bl_inj ?_, by rw [if_neg hu]; exact hsz⟩
  ·rw [hb, g_right (by omega), hl]; rfl
  ·rw [hg 0 (by decide)]; omega
  ·rw [hg 0 (by decide), hg 1 (by decide), hg 2 (by decide)]; omega
  ·rw [fullS_bl _ _ (by omega) (fun _ => by omega), hf]
theorem g_cent (x : Int) (m : List Int) (i : Nat) : g (cent x ++ m) (i + 2) = g m i := by rw [g_right (by rw [cent_length]; omega), cent_length, Nat.add_sub_cancel]
theorem g_cent0 (x : Int) (m : List Int) : g (cent x ++ m) 0 = if x < 53 then 50 else 49 := by
 rw [g_left (by rw [cent_length]; decide)]; unfold cent; split <;> rfl
theorem g_cent1 (x : Int) (m : List Int) : g (cent x ++ m) 1 = if x < 53 then 48 else 57 := by
 rw [g_left (by rw [cent_length]; decide)]; unfold cent; split <;> rfl
theorem w_got {tag : Int} {s : ByteArray} (h : rightP tag (bl s)) : wOk (fullS tag s) = true ∧ wTag (fullS tag s) = tag ∧ wC (fullS tag s) = s ∧ 13 ≤ s.size ∧ s.size ≤ 15 ∧ (tag = 24 → s.size = 15) := by
 have ht : tag = 23 ∨ tag = 24 := by rcases h.1 with ⟨h, _⟩ | ⟨h, _⟩; exact .inl h; exact .inr h
 rcases ht with rfl | rfl
 ·obtain ⟨hl, hz, hd⟩ := (right_utc _).1 h
  have hs : s.size = 13 := by rw [← bl_length]; exact hl
  have hf := fullS_bl 23 s (by omega) (fun e => absurd e (by decide))
  have hfs := fullS_size 23 s (by omega) (fun e => absurd e (by decide))
  have hc : fullC 23 (bl s) = cent (g (bl s) 0) ++ (bl s).take 12 := by unfold fullC; rw [if_neg (by decide)]
  have hdF : dateP (bl (fullS 23 s)) := by rw [hf]; exact hd
  have d2 := date_digits hdF 2 (by decide)
  have d3 := date_digits hdF 3 (by decide)
  have e0 : g (bl (fullS 23 s)) 0 = if g (bl s) 0 < 53 then 50 else 49 := by rw [hf, hc, g_cent0]
  have e1 : g (bl (fullS 23 s)) 1 = if g (bl s) 0 < 53 then 48 else 57 := by rw [hf, hc, g_cent1]
  have e2 : g (bl (fullS 23 s)) 2 = g (bl s) 0 := by rw [hf, hc, g_cent _ _ 0, g_take (by decide)]
  have hy : 1950 ≤ yr (bl (fullS 23 s)) ∧ yr (bl (fullS 23 s)) < 2050 := by
   rw [yr_is, e0, e1, e2]
   rw [e2] at d2
   unfold isD at d2 d3
   split <;> omega
  refine ⟨wOk_iff.2 ⟨hdF, hy.1⟩, if_pos hy.2, bl_inj ?_, by omega, by omega, fun e => absurd e (by decide)⟩
  rw [wC_bl _ hfs, if_pos hy.2, hf, hc, List.drop_append_of_le_length (by rw [cent_length]; exact Nat.le_refl _)]
  rw [List.drop_of_length_le (by rw [cent_length]; exact Nat.le_refl _), List.nil_append]
  apply List.ext_getElem
  ·rw [List.length_append, List.length_take, hl]; rfl
  ·intro i h1 h2
   by_cases hi : i < 12
   ·rw [List.getElem_append_left (by rw [List.length_take]; omega), List.getElem_take]
   ·have : i = 12 := by omega
    subst this
    rw [List.getElem_append_right (by rw [List.length_take]; omega), ← g_at h2, hz]
    simp
 ·obtain ⟨hl, hz, hd, hy0, hy2⟩ := (right_gen _).1 h
  have hs : s.size = 15 := by rw [← bl_length]; exact hl
  have hf := fullS_bl 24 s (by omega) (fun _ => by omega)
  have hfs := fullS_size 24 s (by omega) (fun _ => by omega)
  have hc : fullC 24 (bl s) = (bl s).take 14 := by unfold fullC; rw [if_pos rfl]
  have hdF : dateP (bl (fullS 24 s)) := by rw [hf]; exact hd
  have hg : ∀ i, i < 14 → g (bl (fullS 24 s)) i = g (bl s) i := fun i hi => by rw [hf, hc, g_take hi]
  have d0 := date_digits hdF 0 (by decide)
  have d1 := date_digits hdF 1 (by decide)
  have d2 := date_digits hdF 2 (by decide)
  have d3 := date_digits hdF 3 (by decide)
  have y0 := hy0.1 rfl
  have y2 := hy2.2 rfl
  have hy : 2050 ≤ yr (bl (fullS 24 s)) := by
   rw [yr_is, hg 0 (by decide), hg 1 (by decide), hg 2 (by decide), hg 3 (by decide)]
   rw [hg 0 (by decide)] at d0
   rw [hg 1 (by decide)] at d1
   rw [hg 2 (by decide)] at d2
   rw [hg 3 (by decide)] at d3
   unfold isD at d0 d1 d2 d3
   omega
  refine ⟨wOk_iff.2 ⟨hdF, by omega⟩, if_neg (by omega), bl_inj ?_, by omega, by omega, fun _ => hs⟩
  rw [wC_bl _ hfs, if_neg (by omega), hf, hc]
  apply List.ext_getElem
  ·rw [List.length_append, List.length_take, hl]; rfl
  ·intro i h1 h2
   by_cases hi : i < 14
   ·rw [List.getElem_append_left (by rw [List.length_take]; omega), List.getElem_take]
   ·have : i = 14 := by omega
    subst this
    rw [List.getElem_append_right (by rw [List.length_take]; omega), ← g_at h2, hz]
    simp
/-! ### Their order -/
theorem w_inj {a b : ByteArray} (ha : wOk a = true) (hb : wOk b = true) (ht : wTag a = wTag b) (hc : wC a = wC b) : a = b := by
 rw [← (w_put ha).2.1, ← (w_put hb).2.1, ht, hc]
/-! ### What Put and Get answer -/
def wPutT (d : ByteArray) : Int := if wOk d = true then wTag d else 0
def wPutC (d : ByteArray) : ByteArray := if wOk d = true then wC d else ⟨#[]⟩
def wGetB (tag : Int) (s : ByteArray) : Bool := decide (rightP tag (bl s))
def wGetS (tag : Int) (s : ByteArray) : ByteArray := if wGetB tag s = true then fullS tag s else ⟨#[]⟩
end Go.Proofs.YtiecbagejdcafaaGreatDoor
/- The library's table of powers of ten reads as its initialiser lays it; and so behind every call. -/
namespace Go.Proofs.YtiecbagejdcafaaGreatDoor
open Go.RowKit Go.PlainAid
set_option linter.unusedVariables false
def Tab (w : World) : Prop := Lib.TabIs Tryz.prog w "internal/strconv.uint64pow10" .u64 Lib.pow10Tab
theorem Tab.on {w w' : World} (h : Tab w) (hb : Below w.heap.size w w') : Tab w' := (Lib.tabBelow_of_tabIs h).on hb |>.here
end Go.Proofs.YtiecbagejdcafaaGreatDoor
/- What when's read gives: the landed code's contract. Of every tag and text of at most a million bytes. -/
namespace Go.Proofs.YtiecbagejdcafaaGreatDoor
open Go.RowKit Go.PlainAid
set_option linter.unusedVariables false
theorem row_kept {a W w5 : World} {g : Nat} {t : TypeId} {l : List Value} (hb : Below W.heap.size W w5) (hR : Row a g t l) (hd : W.heap = a.heap) : Row w5 g t l := by
 have h : Row W g t l := by unfold Row; rw [hd]; exact hR
 exact h.below hb h.lt
theorem below_kept {o a W w5 : World} (hb : Below W.heap.size W w5) (hB : Below o.heap.size o a) (hd : W.heap = a.heap) (h1 : W.os = a.os) (h2 : W.tape = a.tape) (h3 : W.output = a.output) : Below o.heap.size o w5 := by
 have h : Below o.heap.size o W := ⟨h1.trans hB.os, h2.trans hB.tape, h3.trans hB.output, by rw [hd]; exact hB.size, by intro k hk; rw [hd]; exact hB.block k hk⟩
 exact h.trans (hb.mono h.size)
theorem wst_kept {a W w5 : World} {g : Nat} {p l v y m : Int} (hb : Below W.heap.size W w5) (hR : Row a g 149 (wC5 p l v y m)) (hd : W.heap = a.heap) :
  w5.cell? ⟨g, 0, none⟩ = some (.int .u8 p) ∧ w5.frozen? ⟨g, 0, none⟩ = false ∧ w5.cell? ⟨g, 1, none⟩ = some (.int .i64 l) ∧ w5.frozen? ⟨g, 1, none⟩ = false ∧ w5.cell? ⟨g, 2, none⟩ = some (.int .i64 v) ∧ w5.frozen? ⟨g, 2, none⟩ = false ∧ w5.cell? ⟨g, 3, none⟩ = some (.int .i64 y) ∧ w5.frozen? ⟨g, 3, none⟩ = false ∧ w5.cell? ⟨g, 4, none⟩ = some (.int .i64 m) ∧ w5.frozen? ⟨g, 4, none⟩ = false :=
 ⟨(row_kept hb hR hd).cell 0, (row_kept hb hR hd).frozen 0, (row_kept hb hR hd).cell 1, (row_kept hb hR hd).frozen 1, (row_kept hb hR hd).cell 2, (row_kept hb hR hd).frozen 2, (row_kept hb hR hd).cell 3, (row_kept hb hR hd).frozen 3, (row_kept hb hR hd).cell 4, (row_kept hb hR hd).frozen 4⟩
theorem wPush_is (p l v y m b : Int) (hs : WS.Ok ⟨p, l, v, y, m⟩) (hb : 0 ≤ b ∧ b ≤ 255) {S : WS} {ok : Bool} (h : wPush ⟨p, l, v, y, m⟩ b = (S, ok)) (w : World) :
  Calls Tryz.prog 137 #[.agg #[.int .u8 p, .int .i64 l, .int .i64 v, .int .i64 y, .int .i64 m], .int .u8 b] w fun e w' => e = .returned (.tuple #[.agg #[.int .u8 S.p, .int .i64 S.l, .int .i64 S.v, .int .i64 S.y, .int .i64 S.m], .bool ok]) ∧ Below w.heap.size w w' := by
 have := wPush_any p l v y m b hs hb w
 rw [h] at this
 exact this
theorem wStart_is (tag n : Int) {S : WS} {ok : Bool} (h : wStart tag n = (S, ok)) (w : World) :
  Calls Tryz.prog 133 #[.int .i64 tag, .int .i64 n] w fun e w' => e = .returned (.tuple #[.agg #[.int .u8 S.p, .int .i64 S.l, .int .i64 S.v, .int .i64 S.y, .int .i64 S.m], .bool ok]) ∧ Below w.heap.size w w' := by
 have := wStart_any tag n w
 rw [h] at this
 exact this
theorem WS.no_ok : WS.Ok WS.no := ⟨by decide, by decide, by decide, by decide, by decide, by decide, by decide, by decide, by decide, by decide, fun h => absurd h (by decide)⟩
theorem take_more {α : Type} {l : List α} {i : Nat} (h : i < l.length) : l.take (i + 1) = l.take i ++ [l[i]] := by
 rw [List.take_add_one, List.getElem?_eq_getElem h]; rfl
def WAt (tag n : Int) (l : List Int) (i : Nat) (S : WS) (ok : Bool) : Prop := (ok = true ∧ canP tag n (l.take i) ∧ S = wSt tag (l.take i)) ∨ (ok = false ∧ ¬ canP tag n l ∧ S = WS.no)
theorem canP_take {tag n : Int} {l : List Int} (h : canP tag n l) : ∀ i, canP tag n (l.take i) := by
 intro i
 refine ⟨h.1, by have := h.2.1; rw [List.length_take]; omega, fun j hj => ?_⟩
 have hj2 : j < i ∧ j < l.length := by rw [List.length_take] at hj; omega
 exact (stepC_congr (fun k hk => g_take (by omega))).2 (h.2.2 j hj2.2)
theorem WAt.ok {tag n : Int} {l : List Int} {i : Nat} {S : WS} {ok : Bool} (h : WAt tag n l i S ok) : WS.Ok S := by
 rcases h with ⟨_, h, rfl⟩ | ⟨_, _, rfl⟩
 ·exact wSt_ok h
 ·exact WS.no_ok
theorem WAt.start (tag n : Int) (l : List Int) : WAt tag n l 0 (wStart tag n).1 (wStart tag n).2 := by
 rw [w_start]
 by_cases h : typ tag n
 ·rw [if_pos h]
  exact .inl ⟨rfl, ⟨h, by have := typ_off h; unfold offT at this; simp; split at this <;> omega, fun i hi => absurd hi (by simp)⟩, by rw [List.take_zero]⟩
 ·rw [if_neg h]
  exact .inr ⟨rfl, fun hc => h hc.1, rfl⟩
theorem WAt.push {tag n : Int} {l : List Int} {i : Nat} {S : WS} (h : WAt tag n l i S true) (hi : i < l.length) : WAt tag n l (i + 1) (wPush S l[i]).1 (wPush S l[i]).2 := by
 rcases h with ⟨_, h, rfl⟩ | ⟨h, _⟩
 ·rw [w_push h]
  by_cases hc : canP tag n (l.take i ++ [l[i]])
  ·rw [if_pos hc]
   exact .inl ⟨rfl, by rw [take_more hi]; exact hc, by rw [take_more hi]⟩
  ·rw [if_neg hc]
   exact .inr ⟨rfl, fun hl => hc (by rw [← take_more hi]; exact canP_take hl _), rfl⟩
 ·cases h
def wR (tag : Int) (s : ByteArray) : WS × Bool := if rightP tag (bl s) then (wSt tag (bl s), true) else (WS.no, false)
theorem right_size (tag : Int) (s : ByteArray) : rightP tag (bl s) ↔ canP tag s.size (bl s) := by
 have e : ((bl s).length : Int) = s.size := by rw [bl_length]
 unfold rightP
 rw [e]
theorem WAt.stop {tag : Int} {s : ByteArray} {i : Nat} {S : WS} (h : WAt tag s.size (bl s) i S false) : (S, false) = wR tag s := by
 rcases h with ⟨h, _⟩ | ⟨_, h, rfl⟩
 ·cases h
 ·unfold wR; rw [if_neg (fun hr => h ((right_size tag s).1 hr))]
theorem WAt.done {tag : Int} {s : ByteArray} {S : WS} (h : WAt tag s.size (bl s) s.size S true) : (S, true) = wR tag s := by
 rcases h with ⟨_, h, rfl⟩ | ⟨h, _⟩
 ·rw [List.take_of_length_le (by rw [bl_length]; exact Nat.le_refl _)] at h ⊢
  unfold wR; rw [if_pos ((right_size tag s).2 h)]
 ·cases h
set_option maxHeartbeats 8000000 in
theorem wRead_any (tag : Int) (s : ByteArray) (hs : s.size ≤ 1000000) (w : World) :
  Calls Tryz.prog 104 #[.int .i64 tag, .string s] w fun e w' => e = .returned (.tuple #[.agg #[.int .u8 (wR tag s).1.p, .int .i64 (wR tag s).1.l, .int .i64 (wR tag s).1.v, .int .i64 (wR tag s).1.y, .int .i64 (wR tag s).1.m], .bool (wR tag s).2]) ∧ Below w.heap.size w w' := by
 have hb9 : (s.size : Int) ≤ 9223372036854775807 := by omega
 have HA := Lib.hid (WAt.start tag s.size (bl s))
 obtain ⟨⟨p0, l0, v0, y0, m0⟩, ok0, hst⟩ : ∃ (S : WS) (ok : Bool), wStart tag s.size = (S, ok) := ⟨_, _, rfl⟩
 have HS := Lib.hid (wStart_is tag s.size hst)
 rw [hst] at HA
 have HGB := Lib.hid (get_bt s)
 have HX0 := Lib.hid (bt_nonneg s)
 have HX1 := Lib.hid (bt_le s)
 have HBL := Lib.hid (fun (i : Nat) (hi : i < (bl s).length) => bl_get s i hi)
 have HSZ := Lib.hid (bl_length s)
 have HE0 := Lib.hid (fun i S => WAt.stop (tag := tag) (s := s) (i := i) (S := S))
 have HE1 := Lib.hid (fun S => WAt.done (tag := tag) (s := s) (S := S))
 have HPU := Lib.hid (fun (i : Nat) (S : WS) => WAt.push (tag := tag) (n := s.size) (l := bl s) (i := i) (S := S))
 have HOK := Lib.hid (fun (i : Nat) (S : WS) (ok : Bool) => WAt.ok (tag := tag) (n := s.size) (l := bl s) (i := i) (S := S) (ok := ok))
 generalize wR tag s = R at *
 clear hst
 go_enter Tryz.func104, Tryz.ntmps104
 go_wp2_with fail
 refine (HS.out _).mono ?_
 rintro e w1 ⟨rfl, hb1⟩
 have HV1 := Lib.hid ((Row.new w 149 (wC5 0 0 0 0 0)).below hb1 (by simp))
 have hB1 : Below w.heap.size w w1 := ((Below.refl w.heap.size w).alloc (Nat.le_refl _) (.cells #[.int .u8 0, .int .i64 0, .int .i64 0, .int .i64 0, .int .i64 0] 149)).trans (hb1.mono (by simp))
 have hlt1 := HV1.out.lt
 clear hb1 HS
 go_wp2
 go_loopw [7, 8] (fun ov iv wr => ∃ (ok : Bool) (i : Nat) (p l v y m : Int), ov = .bool ok ∧ iv = .int .i64 (i : Int) ∧ i ≤ s.size ∧ Hid (Row wr w1.heap.size 149 (wC5 p l v y m)) ∧ Hid (Row wr w.heap.size 149 (wC5 0 0 0 0 0)) ∧ Hid (Below w.heap.size w wr) ∧ Hid (WAt tag s.size (bl s) i ⟨p, l, v, y, m⟩ ok)) (fun _ iv _ => s.size - (intOf iv).toNat)
 case atStart => exact ⟨ok0, 0, p0, l0, v0, y0, m0, rfl, rfl, by omega, Lib.hid (Row.new w1 149 (wC5 _ _ _ _ _)), Lib.hid (HV1.out.alloc _), Lib.hid (hB1.alloc hB1.size _), HA⟩
 case round =>
  obtain ⟨ok, i, p, l, v, y, m, rfl, rfl, hi, HRo, HVo, HB, HT⟩ := hrel
  by_cases hgo : ok = true ∧ i < s.size
  ·obtain ⟨rfl, hlt⟩ := hgo
   have hbt := HGB.out i hlt
   have hx0 := HX0.out i
   have hx1 := HX1.out i
   have hll : i < (bl s).length := by rw [HSZ.out]; exact hlt
   have hpu := HPU.out i _ HT.out hll
   rw [HBL.out i hll] at hpu
   have hok := HOK.out i _ _ HT.out
   obtain ⟨z, hz⟩ : ∃ z, bt s i = z := ⟨_, rfl⟩
   rw [hz] at hbt hx0 hx1 hpu
   obtain ⟨⟨p', l', v', y', m'⟩, ok', hpe⟩ : ∃ (S : WS) (ok : Bool), wPush ⟨p, l, v, y, m⟩ z = (S, ok) := ⟨_, _, rfl⟩
   have HP := Lib.hid (wPush_is p l v y m z hok ⟨hx0, hx1⟩ hpe)
   rw [hpe] at hpu
   have HT2 := Lib.hid hpu
   clear hpe hpu hz hok HT
   have h0 : wr.cell? ⟨w1.heap.size, 0, none⟩ = some (.int .u8 p) := HRo.out.cell 0
   have h1 : wr.cell? ⟨w1.heap.size, 1, none⟩ = some (.int .i64 l) := HRo.out.cell 1
   have h2 : wr.cell? ⟨w1.heap.size, 2, none⟩ = some (.int .i64 v) := HRo.out.cell 2
   have h3 : wr.cell? ⟨w1.heap.size, 3, none⟩ = some (.int .i64 y) := HRo.out.cell 3
   have h4 : wr.cell? ⟨w1.heap.size, 4, none⟩ = some (.int .i64 m) := HRo.out.cell 4
   have f0 := HRo.out.frozen 0
   have f1 := HRo.out.frozen 1
   have f2 := HRo.out.frozen 2
   have f3 := HRo.out.frozen 3
   have f4 := HRo.out.frozen 4
   have hls := HRo.out.lt
   have hlti : (i : Int) < (s.size : Int) := by omega
   go_wp2
   go_region_with (go_at_call 137; refine (HP.out _).mono ?_; rintro e w5 ⟨rfl, hb5⟩; obtain ⟨hc0, hf0, hc1, hf1, hc2, hf2, hc3, hf3, hc4, hf4⟩ := wst_kept hb5 HRo.out rfl)
   all_goals
    have HR5 := Lib.hid (row5 (row_kept hb5 HRo.out rfl) (.int .u8 p') (.int .i64 l') (.int .i64 v') (.int .i64 y') (.int .i64 m'))
    have HV5 := Lib.hid (row5_far (row_kept hb5 HVo.out rfl) (show w.heap.size ≠ w1.heap.size by omega) (.int .u8 p') (.int .i64 l') (.int .i64 v') (.int .i64 y') (.int .i64 m'))
    have HB5 := Lib.hid (below5 (below_kept hb5 HB.out rfl rfl rfl rfl) (show w.heap.size ≤ w1.heap.size by omega) (.int .u8 p') (.int .i64 l') (.int .i64 v') (.int .i64 y') (.int .i64 m'))
    clear hb5 hc0 hf0 hc1 hf1 hc2 hf2 hc3 hf3 hc4 hf4 h0 h1 h2 h3 h4 f0 f1 f2 f3 f4 hls HRo HVo HB HP
    go_wp2
    go_roundw
    case rel => exact ⟨ok', i + 1, p', l', v', y', m', rfl, by simp, by omega, HR5, HV5, HB5, HT2⟩
    case measure => simp [intOf]; omega
  ·have HF : Hid ((⟨⟨p, l, v, y, m⟩, ok⟩ : WS × Bool) = R) := Lib.hid (by
    cases ok
    ·exact HE0.out i _ HT.out
    ·obtain rfl : i = s.size := by
      rcases Nat.lt_or_ge i s.size with h | h
      ·exact absurd ⟨rfl, h⟩ hgo
      ·omega
     exact HE1.out _ HT.out)
   have h0 : wr.cell? ⟨w1.heap.size, 0, none⟩ = some (.int .u8 p) := HRo.out.cell 0
   have h1 : wr.cell? ⟨w1.heap.size, 1, none⟩ = some (.int .i64 l) := HRo.out.cell 1
   have h2 : wr.cell? ⟨w1.heap.size, 2, none⟩ = some (.int .i64 v) := HRo.out.cell 2
   have h3 : wr.cell? ⟨w1.heap.size, 3, none⟩ = some (.int .i64 y) := HRo.out.cell 3
   have h4 : wr.cell? ⟨w1.heap.size, 4, none⟩ = some (.int .i64 m) := HRo.out.cell 4
   have d0 : wr.cell? ⟨w.heap.size, 0, none⟩ = some (.int .u8 0) := HVo.out.cell 0
   have d1 : wr.cell? ⟨w.heap.size, 1, none⟩ = some (.int .i64 0) := HVo.out.cell 1
   have d2 : wr.cell? ⟨w.heap.size, 2, none⟩ = some (.int .i64 0) := HVo.out.cell 2
   have d3 : wr.cell? ⟨w.heap.size, 3, none⟩ = some (.int .i64 0) := HVo.out.cell 3
   have d4 : wr.cell? ⟨w.heap.size, 4, none⟩ = some (.int .i64 0) := HVo.out.cell 4
   have e0 := HVo.out.frozen 0
   have e1 := HVo.out.frozen 1
   have e2 := HVo.out.frozen 2
   have e3 := HVo.out.frozen 3
   have e4 := HVo.out.frozen 4
   have hls := HVo.out.lt
   have hne : ok = true → ¬ (i : Int) < (s.size : Int) := fun h => by
    have : ¬ i < s.size := fun h2 => hgo ⟨h, h2⟩
    omega
   clear HT HE0 HE1 HPU HOK HGB HX0 HX1 HBL HSZ hgo HA HV1
   cases ok
   ·clear hne
    go_wp2
    exact bodyPost_ret (results_cell_one Tryz.results104 _ (ad := ⟨w.heap.size, 0, none⟩) rfl rfl (wst_load (row5 HVo.out (.int .u8 p) (.int .i64 l) (.int .i64 v) (.int .i64 y) (.int .i64 m)))) rfl ⟨by rw [← HF.out]; rfl, below5 HB.out (Nat.le_refl _) _ _ _ _ _⟩
   ·have hne := hne rfl
    go_wp2
    exact bodyPost_ret (results_cell_one Tryz.results104 _ (ad := ⟨w.heap.size, 0, none⟩) rfl rfl (wst_load (row5 HVo.out (.int .u8 p) (.int .i64 l) (.int .i64 v) (.int .i64 y) (.int .i64 m)))) rfl ⟨by rw [← HF.out]; rfl, below5 HB.out (Nat.le_refl _) _ _ _ _ _⟩
end Go.Proofs.YtiecbagejdcafaaGreatDoor
/- What strconv.Itoa gives of a year of four digits, where the library's table of powers of ten reads as its initialiser lays it; and that the table reads so behind every call. Of every number under the bounds that are named. -/
namespace Go.Proofs.YtiecbagejdcafaaGreatDoor
open Go.RowKit Go.PlainAid
set_option linter.unusedVariables false
theorem itoa_any (n : Int) (h0 : -9223372036854775808 ≤ n) (h1 : n ≤ 9223372036854775807) (w : World) (hT : Tab w) :
  Calls Tryz.prog 136 #[.int .i64 n] w fun e w' => e = .returned (.string ⟨(Lib.itoa n).toArray⟩) ∧ Below w.heap.size w w' :=
 (Tryz.strconv_Itoa n h0 h1 w hT).mono (by rintro e w' ⟨rfl, k, os, rfl⟩; exact ⟨rfl, Lib.below_grow _ _ (Nat.le_refl _) _ _⟩)
theorem dec4 (u : Nat) (h : 1000 ≤ u) (h2 : u ≤ 9999) : Lib.decDigits u = [UInt8.ofNat (48 + u / 1000), UInt8.ofNat (48 + u / 100 % 10), UInt8.ofNat (48 + u / 10 % 10), UInt8.ofNat (48 + u % 10)] := by
 rw [Lib.decDigits, dif_neg (by omega), Lib.decDigits, dif_neg (by omega), Lib.decDigits, dif_neg (by omega), Lib.decDigits, dif_pos (by omega)]
 rw [show u / 10 / 10 / 10 = u / 1000 by omega, show u / 10 / 10 % 10 = u / 100 % 10 by omega]
 rfl
def yearS (y : Int) : ByteArray := ⟨(Lib.itoa y).toArray⟩
theorem yearS_bl (y : Int) (h : 1000 ≤ y) (h2 : y ≤ 9999) : bl (yearS y) = [48 + y / 1000, 48 + y / 100 % 10, 48 + y / 10 % 10, 48 + y % 10] := by
 obtain ⟨u, rfl⟩ := Int.eq_ofNat_of_zero_le (show 0 ≤ y by omega)
 have e : yearS (u : Int) = ⟨#[UInt8.ofNat (48 + u / 1000), UInt8.ofNat (48 + u / 100 % 10), UInt8.ofNat (48 + u / 10 % 10), UInt8.ofNat (48 + u % 10)]⟩ := by
  unfold yearS Lib.itoa
  rw [if_neg (by omega), Int.toNat_natCast, dec4 u (by omega) (by omega)]
 rw [e]
 show [((UInt8.ofNat (48 + u / 1000)).toNat : Int), ((UInt8.ofNat (48 + u / 100 % 10)).toNat : Int), ((UInt8.ofNat (48 + u / 10 % 10)).toNat : Int), ((UInt8.ofNat (48 + u % 10)).toNat : Int)] = _
 have q : ∀ n : Nat, n < 10 → ((UInt8.ofNat (48 + n)).toNat : Int) = 48 + (n : Int) := fun n hn => by
  rw [UInt8.toNat_ofNat']; omega
 rw [q _ (by omega), q _ (by omega), q _ (by omega), q _ (by omega)]
 rfl
theorem yearS_front (F : List Int) (h4 : 4 ≤ F.length) (hd : ∀ i, i < 4 → isD (g F i)) (hy : 1000 ≤ yr F) : bl (yearS (yr F)) = F.take 4 := by
 have hr := yr_range hd
 rw [yearS_bl _ hy hr.2]
 have d0 := hd 0 (by decide)
 have d1 := hd 1 (by decide)
 have d2 := hd 2 (by decide)
 have d3 := hd 3 (by decide)
 rw [yr_is] at *
 unfold isD at d0 d1 d2 d3
 match F, h4 with
 |a :: b :: c :: d :: r, _ =>
  have d0 : 48 ≤ a ∧ a ≤ 57 := d0
  have d1 : 48 ≤ b ∧ b ≤ 57 := d1
  have d2 : 48 ≤ c ∧ c ≤ 57 := d2
  have d3 : 48 ≤ d ∧ d ≤ 57 := d3
  show [48 + (1000 * (a - 48) + 100 * (b - 48) + 10 * (c - 48) + (d - 48)) / 1000, 48 + (1000 * (a - 48) + 100 * (b - 48) + 10 * (c - 48) + (d - 48)) / 100 % 10, 48 + (1000 * (a - 48) + 100 * (b - 48) + 10 * (c - 48) + (d - 48)) / 10 % 10, 48 + (1000 * (a - 48) + 100 * (b - 48) + 10 * (c - 48) + (d - 48)) % 10] = [a, b, c, d]
  rw [show 48 + (1000 * (a - 48) + 100 * (b - 48) + 10 * (c - 48) + (d - 48)) / 1000 = a by omega, show 48 + (1000 * (a - 48) + 100 * (b - 48) + 10 * (c - 48) + (d - 48)) / 100 % 10 = b by omega, show 48 + (1000 * (a - 48) + 100 * (b - 48) + 10 * (c - 48) + (d - 48)) / 10 % 10 = c by omega, show 48 + (1000 * (a - 48) + 100 * (b - 48) + 10 * (c - 48) + (d - 48)) % 10 = d by omega]
theorem year_full {tag : Int} {s : ByteArray} (h : rightP tag (bl s)) : yearS (yr (fullP tag (bl s))) ++ s.extract (s.size - 11) (s.size - 1) = fullS tag s ∧ 13 ≤ s.size ∧ 1000 ≤ yr (fullP tag (bl s)) ∧ yr (fullP tag (bl s)) ≤ 9999 := by
 obtain ⟨w1, _, _, w4, w5, w6⟩ := w_got h
 have ht : tag = 23 ∨ tag = 24 := by rcases h.1 with ⟨h, _⟩ | ⟨h, _⟩; exact .inl h; exact .inr h
 have hb := (wOk_iff.1 w1)
 have hfb := fullS_bl tag s (by omega) (fun e => by have := w6 e; omega)
 rw [hfb] at hb
 rcases ht with rfl | rfl
 ·have hs : s.size = 13 := by rw [← bl_length]; exact ((right_utc _).1 h).1
  have hF : fullP 23 (bl s) = cent (g (bl s) 0) ++ bl s := by unfold fullP; rw [if_neg (by decide)]
  have hC : fullC 23 (bl s) = cent (g (bl s) 0) ++ (bl s).take 12 := by unfold fullC; rw [if_neg (by decide)]
  have hg : ∀ i, i < 14 → g (fullP 23 (bl s)) i = g (fullC 23 (bl s)) i := fun i hi => by
   rw [hF, hC]
   by_cases h2 : i < 2
   ·rw [g_left (by rw [cent_length]; exact h2), g_left (by rw [cent_length]; exact h2)]
   ·rw [g_right (by rw [cent_length]; omega), g_right (by rw [cent_length]; omega), cent_length, g_take (by omega)]
  have hy : yr (fullP 23 (bl s)) = yr (fullC 23 (bl s)) := yr_congr (fun j hj => hg j (by omega))
  have hd : ∀ i, i < 4 → isD (g (fullP 23 (bl s)) i) := fun i hi => by rw [hg i (by omega)]; exact date_digits hb.1 i (by omega)
  have hr := yr_range hd
  refine ⟨bl_inj ?_, w4, by rw [hy]; omega, hr.2⟩
  rw [bl_append, yearS_front _ (by rw [fullP_length, bl_length]; simp [offT]; omega) hd (by rw [hy]; omega), bl_extract _ _ _ (by omega), hfb, hF, hC, hs]
  have hl : (bl s).length = 13 := by rw [bl_length]; exact hs
  generalize bl s = l at hl
  match l, hl with
  |[a, b, c, d, e, f, k, m, n, o, p, q, r], _ =>
   unfold cent
   split <;> rfl
 ·have hs : s.size = 15 := w6 rfl
  have hF : fullP 24 (bl s) = bl s := by unfold fullP; rw [if_pos rfl]
  have hC : fullC 24 (bl s) = (bl s).take 14 := by unfold fullC; rw [if_pos rfl]
  have hg : ∀ i, i < 14 → g (fullP 24 (bl s)) i = g (fullC 24 (bl s)) i := fun i hi => by
   rw [hF, hC, g_take (by omega)]
  have hy : yr (fullP 24 (bl s)) = yr (fullC 24 (bl s)) := yr_congr (fun j hj => hg j (by omega))
  have hd : ∀ i, i < 4 → isD (g (fullP 24 (bl s)) i) := fun i hi => by rw [hg i (by omega)]; exact date_digits hb.1 i (by omega)
  have hr := yr_range hd
  refine ⟨bl_inj ?_, w4, by rw [hy]; omega, hr.2⟩
  rw [bl_append, yearS_front _ (by rw [fullP_length, bl_length]; simp [offT]; omega) hd (by rw [hy]; omega), bl_extract _ _ _ (by omega), hfb, hF, hC, hs]
  have hl : (bl s).length = 15 := by rw [bl_length]; exact hs
  generalize bl s = l at hl
  match l, hl with
  |[a, b, c, d, e, f, k, m, n, o, p, q, r, t, u], _ => rfl
end Go.Proofs.YtiecbagejdcafaaGreatDoor
/- What when's Get and Put give: the landed code's contracts. Of every tag and text of at most a million bytes, where the library's table of powers of ten reads as its initialiser lays it. -/
namespace Go.Proofs.YtiecbagejdcafaaGreatDoor
open Go.RowKit Go.PlainAid
set_option linter.unusedVariables false
theorem Tab.same {a W : World} (h : Tab a) (hd : W.heap = a.heap) : Tab W := by
 unfold Tab Lib.TabIs World.var? at *
 rw [hd]; exact h
theorem wR_year {tag : Int} {s : ByteArray} (h : rightP tag (bl s)) : (wR tag s).1.y = yr (fullP tag (bl s)) ∧ (wR tag s).2 = true := by
 unfold wR
 rw [if_pos h]
 refine ⟨?_, rfl⟩
 have hL := fullP_length tag (bl s)
 have ho := typ_off h.1
 show (wF tag (fullP tag (bl s))).y = _
 unfold wF
 rw [if_pos (by rw [bl_length] at *; omega)]
set_option maxHeartbeats 4000000 in
theorem whenGet_any (tag : Int) (s : ByteArray) (hs : s.size ≤ 1000000) (w : World) (hT : Tab w) :
  Calls Tryz.prog 103 #[.int .i64 tag, .string s] w fun e w' => e = .returned (.tuple #[.string (wGetS tag s), .bool (wGetB tag s)]) ∧ Below w.heap.size w w' := by
 have hb9 : (s.size : Int) ≤ 9223372036854775807 := by omega
 have HR := Lib.hid (wRead_any tag s hs)
 by_cases hr : rightP tag (bl s)
 ·have HB : Hid (true = wGetB tag s) := Lib.hid (decide_eq_true hr).symm
  obtain ⟨f1, f2, f3, f4⟩ := year_full hr
  have HS : Hid (yearS (yr (fullP tag (bl s))) ++ s.extract (s.size - 11) (s.size - 1) = wGetS tag s) := Lib.hid (by unfold wGetS wGetB; rw [decide_eq_true hr]; exact f1)
  obtain ⟨y1, y2⟩ := wR_year hr
  generalize wR tag s = R at *
  obtain ⟨⟨p, l, v, y, m⟩, ok⟩ := R
  simp only at y1 y2
  subst y2
  rw [← y1] at HS f3 f4
  have HI := Lib.hid (fun (W : World) (h : Tab W) => itoa_any y (by omega) (by omega) W h)
  have HY : Hid ((⟨(Lib.itoa y).toArray⟩ : ByteArray) = yearS y) := Lib.hid rfl
  have hys : (yearS y).size = 4 := by rw [← bl_length, yearS_bl y f3 f4]; rfl
  have hes : (s.extract (s.size - 11) (s.size - 1)).size = 10 := by rw [ByteArray.size_extract]; omega
  have hmx : ¬ 9223372036854775807 < (yearS y).size + (s.extract (s.size - 11) (s.size - 1)).size := by omega
  obtain ⟨E, hE⟩ : ∃ E : Nat, s.size = E + 11 := ⟨s.size - 11, by omega⟩
  rw [show s.size - 11 = E by omega, show s.size - 1 = E + 10 by omega] at HS hmx
  rw [HY.out] at HI
  clear hr f1 f2 y1 HY hys hes
  generalize wGetS tag s = G at *
  generalize wGetB tag s = B at *
  generalize yearS y = Y at *
  go_enter Tryz.func103, Tryz.ntmps103
  go_wp2_with fail
  refine (HR.out _).mono ?_
  rintro e w1 ⟨rfl, hB1⟩
  have hT1 := Lib.hid (hT.on hB1)
  have c3 : (w1.alloc (.cells #[.int .u8 p, .int .i64 l, .int .i64 v, .int .i64 y, .int .i64 m] 149)).cell? ⟨w1.heap.size, 3, none⟩ = some (.int .i64 y) := (Row.new w1 149 (wC5 p l v y m)).cell 3
  have e1 : ((E : Int) + 11 - 1) = (E : Int) + 10 := by omega
  have e2 : ((E : Int) + 10 - 10) = (E : Int) := by omega
  obtain ⟨X, hX⟩ : ∃ X, s.extract E (E + 10) = X := ⟨_, rfl⟩
  rw [hX] at HS hmx
  have n0 : (0 : Int) ≤ (E : Int) := by omega
  have n1 : (E : Int) ≤ (E : Int) + 10 := by omega
  have n2 : (E : Int) + 10 ≤ (E : Int) + 11 := by omega
  have n3 : ((E : Int) + 10).toNat = E + 10 := by omega
  have hwr : IntKind.i64.wrap (E : Int) = (E : Int) := by rw [IntKind.wrap_i64]; omega
  have hBW := Lib.hid (hB1.alloc hB1.size (.cells #[.int .u8 p, .int .i64 l, .int .i64 v, .int .i64 y, .int .i64 m] 149))
  have hTW := Lib.hid (hT1.out.on ((Below.refl w1.heap.size w1).alloc (Nat.le_refl _) (.cells #[.int .u8 p, .int .i64 l, .int .i64 v, .int .i64 y, .int .i64 m] 149)))
  clear HR hT1
  go_wp2
  generalize w1.alloc (.cells #[.int .u8 p, .int .i64 l, .int .i64 v, .int .i64 y, .int .i64 m] 149) = W1 at *
  have HJ := Lib.hid (fun (W : World) (h : W.heap = W1.heap) => HI.out W (Tab.same hTW.out h))
  clear HI hTW
  go_region_with (go_at_call 136; refine (HJ.out _ (by rfl)).mono ?_; rintro e w5 ⟨rfl, hb5⟩)
  all_goals
   have hB5 := Lib.hid (below_kept hb5 hBW.out rfl rfl rfl rfl)
   clear hb5
   go_wp2
   go_returns
   exact ⟨rets2 (congrArg Value.string HS.out) (congrArg Value.bool HB.out), hB5.out⟩
 ·have HB : Hid (false = wGetB tag s) := Lib.hid (decide_eq_false hr).symm
  have HS : Hid ((⟨#[]⟩ : ByteArray) = wGetS tag s) := Lib.hid (by unfold wGetS wGetB; rw [decide_eq_false hr]; rfl)
  have hR : wR tag s = (WS.no, false) := if_neg hr
  rw [hR] at HR
  generalize wGetS tag s = G at *
  generalize wGetB tag s = B at *
  clear hr hR
  go_enter Tryz.func103, Tryz.ntmps103
  go_wp2_with fail
  refine (HR.out _).mono ?_
  rintro e w1 ⟨rfl, hB1⟩
  clear HR
  go_wp2
  go_returns
  exact ⟨rets2 (congrArg Value.string HS.out) (congrArg Value.bool HB.out), hB1.alloc hB1.size _⟩
theorem put_first {d c : ByteArray} (hr : rightP 23 (bl c)) (hf : fullS 23 c = d) : wOk d = true ∧ wTag d = 23 ∧ wC d = c := by
 obtain ⟨q1, q2, q3, _⟩ := w_got hr
 rw [hf] at q1 q2 q3
 exact ⟨q1, q2, q3⟩
theorem put_second {d : ByteArray} (h : d.size = 14) (hr : rightP 24 (bl (d ++ ⟨#[90]⟩))) : wOk d = true ∧ wTag d = 24 ∧ wC d = d ++ ⟨#[90]⟩ := by
 have hf : fullS 24 (d ++ ⟨#[90]⟩) = d := by
  have hsz : (d ++ (⟨#[90]⟩ : ByteArray)).size = 15 := by rw [ByteArray.size_append, h]; rfl
  refine bl_inj ?_
  rw [fullS_bl _ _ (by omega) (fun _ => by omega)]
  unfold fullC
  rw [if_pos rfl, bl_append, List.take_append_of_le_length (by rw [bl_length]; omega), List.take_of_length_le (by rw [bl_length]; omega)]
 obtain ⟨q1, q2, q3, _⟩ := w_got hr
 rw [hf] at q1 q2 q3
 exact ⟨q1, q2, q3⟩
theorem put_none {d : ByteArray} (h1 : ¬ (rightP 23 (bl (d.extract 2 14 ++ ⟨#[90]⟩)) ∧ fullS 23 (d.extract 2 14 ++ ⟨#[90]⟩) = d)) (h2 : ¬ rightP 24 (bl (d ++ ⟨#[90]⟩))) : wOk d = false := by
 cases hok : wOk d
 ·rfl
 ·obtain ⟨q1, q2, _⟩ := w_put hok
  unfold wTag wC at q1 q2
  by_cases hy : yr (bl d) < 2050
  ·rw [if_pos hy, if_pos hy] at q1 q2
   exact absurd ⟨q1, q2⟩ h1
  ·rw [if_neg hy, if_neg hy] at q1
   exact absurd q1 h2
theorem eq_toList (a b : ByteArray) : (a.toList == b.toList) = decide (a = b) := by
 rw [Lib.toList_data, Lib.toList_data]
 by_cases h : a = b
 ·rw [h]; simp
 ·rw [decide_eq_false h]
  have : a.data.toList ≠ b.data.toList := fun e => h (by
   cases a; cases b
   simp only at e
   rw [Array.toList_inj.1 e])
  simpa using this
set_option maxHeartbeats 4000000 in
theorem whenPut_any (d : ByteArray) (hd : d.size ≤ 1000000) (w : World) (hT : Tab w) :
  Calls Tryz.prog 79 #[.string d] w fun e w' => e = .returned (.tuple #[.int .i64 (wPutT d), .string (wPutC d), .bool (wOk d)]) ∧ Below w.heap.size w w' := by
 by_cases h14 : d.size = 14
 ·have h14i : (d.size : Int) = 14 := by omega
  have HG := Lib.hid (fun (W : World) (h : Tab W) => whenGet_any 23 (d.extract 2 14 ++ ⟨#[90]⟩) (by rw [ByteArray.size_append, ByteArray.size_extract]; show _ + 1 ≤ _; omega) W h)
  have hmx : ¬ 9223372036854775807 < (d.extract 2 14).size + (⟨#[90]⟩ : ByteArray).size := by rw [ByteArray.size_extract]; show ¬ _ < _ + 1; omega
  have hm2 : ¬ 9223372036854775807 < d.size + (⟨#[90]⟩ : ByteArray).size := by show ¬ _ < _ + 1; omega
  have h2i : (2 : Int) ≤ (d.size : Int) := by omega
  have HR := Lib.hid (wRead_any 24 (d ++ ⟨#[90]⟩) (by rw [ByteArray.size_append]; show _ + 1 ≤ _; omega))
  by_cases hfirst : rightP 23 (bl (d.extract 2 14 ++ ⟨#[90]⟩)) ∧ fullS 23 (d.extract 2 14 ++ ⟨#[90]⟩) = d
  ·obtain ⟨hr, hf⟩ := hfirst
   obtain ⟨q1, q2, q3⟩ := put_first hr hf
   have HP : Hid ((23 : Int) = wPutT d) := Lib.hid (by unfold wPutT; rw [q1, if_pos rfl]; exact q2.symm)
   have HC : Hid (d.extract 2 14 ++ (⟨#[90]⟩ : ByteArray) = wPutC d) := Lib.hid (by unfold wPutC; rw [q1, if_pos rfl]; exact q3.symm)
   have HB : Hid (true = wOk d) := Lib.hid q1.symm
   have g1 : wGetB 23 (d.extract 2 14 ++ ⟨#[90]⟩) = true := decide_eq_true hr
   have g2 : wGetS 23 (d.extract 2 14 ++ ⟨#[90]⟩) = d := by unfold wGetS; rw [g1, if_pos rfl]; exact hf
   rw [g1, g2] at HG
   clear hr hf q1 q2 q3 g1 g2 HR
   go_enter Tryz.func79, Tryz.ntmps79
   go_wp2_with fail
   refine (HG.out w hT).mono ?_
   rintro e w1 ⟨rfl, hB1⟩
   go_wp2
   go_returns
   exact ⟨rets3 (congrArg (Value.int .i64) HP.out) (congrArg Value.string HC.out) (congrArg Value.bool HB.out), hB1⟩
  ·have hgs : wGetB 23 (d.extract 2 14 ++ ⟨#[90]⟩) = true → ((wGetS 23 (d.extract 2 14 ++ ⟨#[90]⟩)).toList == d.toList) = false := fun h => by
    rw [eq_toList]
    refine decide_eq_false (fun e => hfirst ?_)
    unfold wGetS at e
    rw [h, if_pos rfl] at e
    exact ⟨of_decide_eq_true h, e⟩
   generalize wGetB 23 (d.extract 2 14 ++ ⟨#[90]⟩) = gb at *
   generalize wGetS 23 (d.extract 2 14 ++ ⟨#[90]⟩) = gs at *
   cases gb
   ·clear hgs
    by_cases hr : rightP 24 (bl (d ++ ⟨#[90]⟩))
    ·obtain ⟨q1, q2, q3⟩ := put_second h14 hr
     have HP : Hid ((24 : Int) = wPutT d) := Lib.hid (by unfold wPutT; rw [q1, if_pos rfl]; exact q2.symm)
     have HC : Hid (d ++ (⟨#[90]⟩ : ByteArray) = wPutC d) := Lib.hid (by unfold wPutC; rw [q1, if_pos rfl]; exact q3.symm)
     have HB : Hid (true = wOk d) := Lib.hid q1.symm
     have hR : wR 24 (d ++ ⟨#[90]⟩) = (wSt 24 (bl (d ++ ⟨#[90]⟩)), true) := if_pos hr
     rw [hR] at HR
     generalize wSt 24 (bl (d ++ ⟨#[90]⟩)) = S at *
     clear hr q1 q2 q3 hR hfirst
     go_enter Tryz.func79, Tryz.ntmps79
     go_wp2_with fail
     refine (HG.out w hT).mono ?_
     rintro e w1 ⟨rfl, hB1⟩
     go_wp2_with fail
     refine (HR.out _).mono ?_
     rintro e w2 ⟨rfl, hb2⟩
     have hB2 := hB1.trans (hb2.mono hB1.size)
     clear hb2 hB1
     go_wp2
     go_returns
     exact ⟨rets3 (congrArg (Value.int .i64) HP.out) (congrArg Value.string HC.out) (congrArg Value.bool HB.out), hB2.alloc hB2.size _⟩
    ·have q1 := put_none hfirst hr
     have HP : Hid ((0 : Int) = wPutT d) := Lib.hid (by unfold wPutT; rw [q1]; rfl)
     have HC : Hid ((⟨#[]⟩ : ByteArray) = wPutC d) := Lib.hid (by unfold wPutC; rw [q1]; rfl)
     have HB : Hid (false = wOk d) := Lib.hid q1.symm
     have hR : wR 24 (d ++ ⟨#[90]⟩) = (WS.no, false) := if_neg hr
     rw [hR] at HR
     clear hr q1 hR hfirst
     go_enter Tryz.func79, Tryz.ntmps79
     go_wp2_with fail
     refine (HG.out w hT).mono ?_
     rintro e w1 ⟨rfl, hB1⟩
     go_wp2_with fail
     refine (HR.out _).mono ?_
     rintro e w2 ⟨rfl, hb2⟩
     have hB2 := hB1.trans (hb2.mono hB1.size)
     clear hb2 hB1
     go_wp2
     go_returns
     exact ⟨rets3 (congrArg (Value.int .i64) HP.out) (congrArg Value.string HC.out) (congrArg Value.bool HB.out), hB2.alloc hB2.size _⟩
   ·have hgs := hgs rfl
    by_cases hr : rightP 24 (bl (d ++ ⟨#[90]⟩))
    ·obtain ⟨q1, q2, q3⟩ := put_second h14 hr
     have HP : Hid ((24 : Int) = wPutT d) := Lib.hid (by unfold wPutT; rw [q1, if_pos rfl]; exact q2.symm)
     have HC : Hid (d ++ (⟨#[90]⟩ : ByteArray) = wPutC d) := Lib.hid (by unfold wPutC; rw [q1, if_pos rfl]; exact q3.symm)
     have HB : Hid (true = wOk d) := Lib.hid q1.symm
     have hR : wR 24 (d ++ ⟨#[90]⟩) = (wSt 24 (bl (d ++ ⟨#[90]⟩)), true) := if_pos hr
     rw [hR] at HR
     generalize wSt 24 (bl (d ++ ⟨#[90]⟩)) = S at *
     clear hr q1 q2 q3 hR hfirst
     go_enter Tryz.func79, Tryz.ntmps79
     go_wp2_with fail
     refine (HG.out w hT).mono ?_
     rintro e w1 ⟨rfl, hB1⟩
     go_wp2_with fail
     refine (HR.out _).mono ?_
     rintro e w2 ⟨rfl, hb2⟩
     have hB2 := hB1.trans (hb2.mono hB1.size)
     clear hb2 hB1
     go_wp2
     go_returns
     exact ⟨rets3 (congrArg (Value.int .i64) HP.out) (congrArg Value.string HC.out) (congrArg Value.bool HB.out), hB2.alloc hB2.size _⟩
    ·have q1 := put_none hfirst hr
     have HP : Hid ((0 : Int) = wPutT d) := Lib.hid (by unfold wPutT; rw [q1]; rfl)
     have HC : Hid ((⟨#[]⟩ : ByteArray) = wPutC d) := Lib.hid (by unfold wPutC; rw [q1]; rfl)
     have HB : Hid (false = wOk d) := Lib.hid q1.symm
     have hR : wR 24 (d ++ ⟨#[90]⟩) = (WS.no, false) := if_neg hr
     rw [hR] at HR
     clear hr q1 hR hfirst
     go_enter Tryz.func79, Tryz.ntmps79
     go_wp2_with fail
     refine (HG.out w hT).mono ?_
     rintro e w1 ⟨rfl, hB1⟩
     go_wp2_with fail
     refine (HR.out _).mono ?_
     rintro e w2 ⟨rfl, hb2⟩
     have hB2 := hB1.trans (hb2.mono hB1.size)
     clear hb2 hB1
     go_wp2
     go_returns
     exact ⟨rets3 (congrArg (Value.int .i64) HP.out) (congrArg Value.string HC.out) (congrArg Value.bool HB.out), hB2.alloc hB2.size _⟩
 ·have HB : Hid (wOk d = false) := Lib.hid (by cases h : wOk d; rfl; exact absurd (wOk_size h) h14)
  have HP : Hid ((0 : Int) = wPutT d) := Lib.hid (by unfold wPutT; rw [HB.out]; rfl)
  have HC : Hid ((⟨#[]⟩ : ByteArray) = wPutC d) := Lib.hid (by unfold wPutC; rw [HB.out]; rfl)
  have hne : ((d.size : Int) != 14) = true := by simpa using (by omega : (d.size : Int) ≠ 14)
  have hb9 : (d.size : Int) ≤ 9223372036854775807 := by omega
  clear h14
  go_enter Tryz.func79, Tryz.ntmps79
  go_wp2
  go_returns
  exact ⟨rets3 (congrArg (Value.int .i64) HP.out) (congrArg Value.string HC.out) (congrArg Value.bool HB.out.symm), Below.refl _ _⟩
end Go.Proofs.YtiecbagejdcafaaGreatDoor
/- The library's tables that the rows list: that they read so is what the rows ask of a start; the world of a start in which they read so (for the witness), and what the walks take from it. -/
namespace Go.Proofs.YtiecbagejdcafaaGreatDoor
open Go.ChangeShapes Go.WideShapes Go.ChangeAt Go.RowKit
theorem gPow : Tryz.prog.globalNamed "internal/strconv.uint64pow10" = some 1 := by kernel_rfl
theorem gPowType : (Tryz.prog.globals[1]?).map (·.type) = some 233 := by kernel_rfl
theorem cells20 : Tryz.prog.cellsOf 233 = 20 := by kernel_rfl
theorem cells64 : Tryz.prog.cellsOf 51 = 1 := by kernel_rfl
theorem tabOf {W : World} (h : laidMetH Tryz.prog [("math/bits.deBruijn32tab", Rows.laid_math_bits_deBruijn32tab), ("math/bits.deBruijn64tab", Rows.laid_math_bits_deBruijn64tab), ("internal/strconv.uint64pow10", Rows.laid_internal_strconv_uint64pow10)] W) : Tab W :=
 Lib.tabIs_of_head (rest := []) gPow gPowType Tryz.underlying233 Tryz.underlying51 cells64 cells20 (laidMet.tail (laidMet.tail h))
def cellsOfData : DataW Unit → Array Value
 |.agg ds => (ds.map fun d => match d with
  |.lit (.int k z) => Value.int k z
  |_ => undef).toArray
 |_ => #[]
def layCells (cs : Array Value) : Obj → Obj
 |.cells _ t frozen => .cells cs t frozen
 |o => o
noncomputable def laidWorld (os : Os) : World :=
 { World.holding Tryz.prog os ⟨#[], #[], []⟩ with heap := (((World.holding Tryz.prog os ⟨#[], #[], []⟩).heap.modify 1 (layCells (cellsOfData Rows.laid_internal_strconv_uint64pow10))).modify 2 (layCells (cellsOfData Rows.laid_math_bits_deBruijn32tab))).modify 3 (layCells (cellsOfData Rows.laid_math_bits_deBruijn64tab)) }
end Go.Proofs.YtiecbagejdcafaaGreatDoor
