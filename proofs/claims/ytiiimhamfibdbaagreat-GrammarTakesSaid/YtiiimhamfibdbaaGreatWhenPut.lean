/- Dates and their contents in plain words: what is put is got, what is got is put, the later one is the greater text. They hold of texts alone, under no condition on the program. -/
import Derived.Test.YtiiimhamfibdbaaGreatW3
namespace Go.Proofs.YtiiimhamfibdbaaGreat
open Go.PlainAid
set_option linter.unusedVariables false
theorem less_rest (l : List UInt8) : Op.bytesLess l [] = false := by cases l <;> rfl
theorem less4 (t : ByteArray) (h : 4 ≤ t.size) (p q r s : UInt8) : Op.bytesLess t.toList [p, q, r, s] = decide (bt t 0 < p.toNat ∨ (bt t 0 = p.toNat ∧ (bt t 1 < q.toNat ∨ (bt t 1 = q.toNat ∧ (bt t 2 < r.toNat ∨ (bt t 2 = r.toNat ∧ bt t 3 < s.toNat)))))) := by
 rw [Lib.toList_data]
 obtain ⟨⟨l⟩⟩ := t
 have hl : 4 ≤ l.length := h
 match l, hl with
 |a :: b :: c :: d :: rest, _ =>
  show Op.bytesLess (a :: b :: c :: d :: rest) _ = decide ((a.toNat : Int) < p.toNat ∨ ((a.toNat : Int) = p.toNat ∧ ((b.toNat : Int) < q.toNat ∨ ((b.toNat : Int) = q.toNat ∧ ((c.toNat : Int) < r.toNat ∨ ((c.toNat : Int) = r.toNat ∧ (d.toNat : Int) < s.toNat))))))
  have e : Op.bytesLess (a :: b :: c :: d :: rest) [p, q, r, s] = (decide (a < p) || (a == p && (decide (b < q) || (b == q && (decide (c < r) || (c == r && (decide (d < s) || (d == s && Op.bytesLess rest []))))))))  := rfl
  rw [e, less_rest]
  have q1 : ∀ x y : UInt8, (x == y) = decide ((x.toNat : Int) = (y.toNat : Int)) := fun x y => by rw [← decide_eq_decide.2 (u8_eq x y)]; rfl
  have q2 : ∀ x y : UInt8, decide (x < y) = decide ((x.toNat : Int) < (y.toNat : Int)) := fun x y => decide_eq_decide.2 (u8_lt x y)
  rw [q1, q1, q1, q1, q2, q2, q2, q2, Bool.and_false, Bool.or_false]
  simp only [Bool.decide_or, Bool.decide_and]
theorem date_digits {l : List Int} (h : dateP l) : ∀ i, i < 14 → isD (g l i) := fun i hi => (h.2 i (by rw [h.1]; exact hi)).1
theorem yr_is (l : List Int) : yr l = 1000 * (g l 0 - 48) + 100 * (g l 1 - 48) + 10 * (g l 2 - 48) + (g l 3 - 48) := by
 unfold yr n2; simp only [Nat.zero_add, Nat.reduceAdd]; omega
theorem less_1950 (t : ByteArray) (h : dateP (bl t)) : Op.bytesLess t.toList [49, 57, 53, 48] = decide (yr (bl t) < 1950) := by
 have hs : t.size = 14 := by rw [← bl_length]; exact h.1
 rw [less4 t (by omega)]
 have d0 := date_digits h 0 (by decide)
 have d1 := date_digits h 1 (by decide)
 have d2 := date_digits h 2 (by decide)
 have d3 := date_digits h 3 (by decide)
 rw [yr_is]
 rw [← bt_g] at *
 rw [← bt_g] at *
 rw [← bt_g] at *
 rw [← bt_g] at *
 unfold isD at *
 apply decide_eq_decide.2
 show (bt t 0 < 49 ∨ (bt t 0 = 49 ∧ (bt t 1 < 57 ∨ (bt t 1 = 57 ∧ (bt t 2 < 53 ∨ (bt t 2 = 53 ∧ bt t 3 < 48)))))) ↔ _
 omega
theorem less_2050d (t : ByteArray) (h : dateP (bl t)) : Op.bytesLess t.toList [50, 48, 53, 48] = decide (yr (bl t) < 2050) := by
 have hs : t.size = 14 := by rw [← bl_length]; exact h.1
 rw [less4 t (by omega)]
 have d0 := date_digits h 0 (by decide)
 have d1 := date_digits h 1 (by decide)
 have d2 := date_digits h 2 (by decide)
 have d3 := date_digits h 3 (by decide)
 rw [yr_is]
 rw [← bt_g] at *
 rw [← bt_g] at *
 rw [← bt_g] at *
 rw [← bt_g] at *
 unfold isD at *
 apply decide_eq_decide.2
 show (bt t 0 < 50 ∨ (bt t 0 = 50 ∧ (bt t 1 < 48 ∨ (bt t 1 = 48 ∧ (bt t 2 < 53 ∨ (bt t 2 = 53 ∧ bt t 3 < 48)))))) ↔ _
 omega
/-! ### Put and Get -/
def wOk (d : ByteArray) : Bool := decide (dateP (bl d) ∧ 1950 ≤ yr (bl d))
def wTag (d : ByteArray) : Int := if yr (bl d) < 2050 then 23 else 24
def wC (d : ByteArray) : ByteArray := (if yr (bl d) < 2050 then d.extract 2 14 else d) ++ ⟨#[90]⟩
theorem wC_bl (d : ByteArray) (h : d.size = 14) : bl (wC d) = (if yr (bl d) < 2050 then (bl d).drop 2 else bl d) ++ [90] := by
 unfold wC
 rw [bl_append]
 split
 ·rw [bl_extract _ _ _ (by omega), List.take_of_length_le (by rw [List.length_drop, bl_length]; omega)]; rfl
 ·rfl
theorem g_drop (l : List Int) (k i : Nat) : g (l.drop k) i = g l (k + i) := by
 unfold g; rw [List.getD_eq_getElem?_getD, List.getElem?_drop, List.getD_eq_getElem?_getD]
theorem cent_date {l : List Int} (h : dateP l) (h0 : 1950 ≤ yr l) (h1 : yr l < 2050) : cent (g l 2) ++ l.drop 2 = l := by
 have d0 := date_digits h 0 (by decide)
 have d1 := date_digits h 1 (by decide)
 have d2 := date_digits h 2 (by decide)
 have d3 := date_digits h 3 (by decide)
 rw [yr_is] at h0 h1
 unfold isD at d0 d1 d2 d3
 have hl := h.1
 have e2 : l = [g l 0, g l 1] ++ l.drop 2 := by
  match l, hl with
  |a :: b :: r, _ => rfl
 have hc : cent (g l 2) = [g l 0, g l 1] := by
  unfold cent
  split
  ·rename_i hx; rw [show g l 0 = 50 by omega, show g l 1 = 48 by omega]
  ·rename_i hx; rw [show g l 0 = 49 by omega, show g l 1 = 57 by omega]
 rw [hc]; exact e2.symm
theorem wOk_iff {d : ByteArray} : wOk d = true ↔ dateP (bl d) ∧ 1950 ≤ yr (bl d) := by unfold wOk; rw [decide_eq_true_eq]
theorem wOk_size {d : ByteArray} (h : wOk d = true) : d.size = 14 := by rw [← bl_length]; exact (wOk_iff.1 h).1.1
theorem w_put {d : ByteArray} (h : wOk d = true) : rightP (wTag d) (bl (wC d)) ∧ fullS (wTag d) (wC d) = d ∧ (wC d).size = (if yr (bl d) < 2050 then 13 else 15) := by
 obtain ⟨hd, hy⟩ := wOk_iff.1 h
 have hs := wOk_size h
 have hb := wC_bl d hs
 have hl := hd.1
 unfold wTag
 by_cases hu : yr (bl d) < 2050
 ·rw [if_pos hu] at hb ⊢
  have hsz : (wC d).size = 13 := by rw [← bl_length, hb, List.length_append, List.length_drop, hl]; rfl
  have hdl : ((bl d).drop 2).length = 12 := by rw [List.length_drop, hl]
  have hg0 : g (bl (wC d)) 0 = g (bl d) 2 := by rw [hb, g_left (by omega), g_drop]
  have hf : fullC 23 (bl (wC d)) = bl d := by
   unfold fullC
   rw [if_neg (by decide), hg0, hb, List.take_append_of_le_length (by omega), List.take_of_length_le (by omega)]
   exact cent_date hd hy hu
  refine ⟨(right_utc _).2 ⟨by rw [bl_length]; exact hsz, ?_, by rw [hf]; exact hd⟩, bl_inj ?_, by rw [if_pos hu]; exact hsz⟩
  ·rw [hb, g_right (by omega), hdl]; rfl
  ·rw [fullS_bl _ _ (by omega) (fun e => absurd e (by decide)), hf]
 ·rw [if_neg hu] at hb ⊢
  have hsz : (wC d).size = 15 := by rw [← bl_length, hb, List.length_append, hl]; rfl
  have hf : fullC 24 (bl (wC d)) = bl d := by
   unfold fullC
   rw [if_pos rfl, hb, List.take_append_of_le_length (by omega), List.take_of_length_le (by omega)]
  have hg : ∀ i, i < 14 → g (bl (wC d)) i = g (bl d) i := fun i hi => by rw [hb, g_left (by omega)]
  have d0 := date_digits hd 0 (by decide)
  have d1 := date_digits hd 1 (by decide)
  have d2 := date_digits hd 2 (by decide)
  have d3 := date_digits hd 3 (by decide)
  have hy2 : 2050 ≤ yr (bl d) := by omega
  rw [yr_is] at hy2
  unfold isD at d0 d1 d2 d3
  refine ⟨(right_gen _).2 ⟨by rw [bl_length]; exact hsz, ?_, by rw [hf]; exact hd, ⟨fun _ => ?_, fun e => by omega⟩, ⟨fun e => by omega, fun _ => ?_⟩⟩, bl_inj ?_, by rw [if_neg hu]; exact hsz⟩
  ·rw [hb, g_right (by omega), hl]; rfl
  ·rw [hg 0 (by decide)]; omega
  ·rw [hg 0 (by decide), hg 1 (by decide), hg 2 (by decide)]; omega
  ·rw [fullS_bl _ _ (by omega) (fun _ => by omega), hf]
/-! ### Their order -/
/-! ### What Put and Get answer -/
end Go.Proofs.YtiiimhamfibdbaaGreat
