/- Dates and their contents in plain words: what is put is got, what is got is put, the later one is the greater text. They hold of texts alone, under no condition on the program. -/
import Derived.Test.YthjncfpgmfbehaaDoorRefWhen4
namespace Go.Proofs.YthjncfpgmfbehaaDoor
open Go.PlainAid
set_option linter.unusedVariables false
theorem less_rest (l : List UInt8) : Op.bytesLess l [] = false := by cases l <;> rfl
/-- A text's first four signs against four others. -/
theorem less4 (t : ByteArray) (h : 4 ≤ t.size) (p q r s : UInt8) : Op.bytesLess t.toList [p, q, r, s] = decide (bt t 0 < p.toNat ∨ (bt t 0 = p.toNat ∧ (bt t 1 < q.toNat ∨ (bt t 1 = q.toNat ∧ (bt t 2 < r.toNat ∨ (bt t 2 = r.toNat ∧ bt t 3 < s.toNat)))))) := by
  rw [Lib.toList_data]
  obtain ⟨⟨l⟩⟩ := t
  have hl : 4 ≤ l.length := h
  match l, hl with
  | a :: b :: c :: d :: rest, _ =>
    show Op.bytesLess (a :: b :: c :: d :: rest) _ = decide ((a.toNat : Int) < p.toNat ∨ ((a.toNat : Int) = p.toNat ∧ ((b.toNat : Int) < q.toNat ∨ ((b.toNat : Int) = q.toNat ∧ ((c.toNat : Int) < r.toNat ∨ ((c.toNat : Int) = r.toNat ∧ (d.toNat : Int) < s.toNat))))))
    have e : Op.bytesLess (a :: b :: c :: d :: rest) [p, q, r, s] = (decide (a < p) || (a == p && (decide (b < q) || (b == q && (decide (c < r) || (c == r && (decide (d < s) || (d == s && Op.bytesLess rest []))))))))  := rfl
    rw [e, less_rest]
    have q1 : ∀ x y : UInt8, (x == y) = decide ((x.toNat : Int) = (y.toNat : Int)) := fun x y => by rw [← decide_eq_decide.2 (u8_eq x y)]; rfl
    have q2 : ∀ x y : UInt8, decide (x < y) = decide ((x.toNat : Int) < (y.toNat : Int)) := fun x y => decide_eq_decide.2 (u8_lt x y)
    rw [q1, q1, q1, q1, q2, q2, q2, q2, Bool.and_false, Bool.or_false]
    simp only [Bool.decide_or, Bool.decide_and]
theorem date_digits {l : List Int} (h : dateP l) : ∀ i, i < 14 → isD (g l i) := fun i hi => (h.2 i (by rw [h.1]; exact hi)).1
theorem yr_is (l : List Int) : yr l = 1000 * (g l 0 - 48) + 100 * (g l 1 - 48) + 10 * (g l 2 - 48) + (g l 3 - 48) := by
  unfold yr n2; simp only [Nat.zero_add, Nat.reduceAdd]; omega
theorem less_1950 (t : ByteArray) (h : dateP (bl t)) : Op.bytesLess t.toList [49, 57, 53, 48] = decide (yr (bl t) < 1950) := by
  have hs : t.size = 14 := by rw [← bl_length]; exact h.1
  rw [less4 t (by omega)]
  have d0 := date_digits h 0 (by decide)
  have d1 := date_digits h 1 (by decide)
  have d2 := date_digits h 2 (by decide)
  have d3 := date_digits h 3 (by decide)
  rw [yr_is]
  rw [← bt_g] at *
  rw [← bt_g] at *
  rw [← bt_g] at *
  rw [← bt_g] at *
  unfold isD at *
  apply decide_eq_decide.2
  show (bt t 0 < 49 ∨ (bt t 0 = 49 ∧ (bt t 1 < 57 ∨ (bt t 1 = 57 ∧ (bt t 2 < 53 ∨ (bt t 2 = 53 ∧ bt t 3 < 48)))))) ↔ _
  omega
theorem less_2050d (t : ByteArray) (h : dateP (bl t)) : Op.bytesLess t.toList [50, 48, 53, 48] = decide (yr (bl t) < 2050) := by
  have hs : t.size = 14 := by rw [← bl_length]; exact h.1
  rw [less4 t (by omega)]
  have d0 := date_digits h 0 (by decide)
  have d1 := date_digits h 1 (by decide)
  have d2 := date_digits h 2 (by decide)
  have d3 := date_digits h 3 (by decide)
  rw [yr_is]
  rw [← bt_g] at *
  rw [← bt_g] at *
  rw [← bt_g] at *
  rw [← bt_g] at *
  unfold isD at *
  apply decide_eq_decide.2
  show (bt t 0 < 50 ∨ (bt t 0 = 50 ∧ (bt t 1 < 48 ∨ (bt t 1 = 48 ∧ (bt t 2 < 53 ∨ (bt t 2 = 53 ∧ bt t 3 < 48)))))) ↔ _
  omega
/-! ### Put and Get -/
def wOk (d : ByteArray) : Bool := decide (dateP (bl d) ∧ 1950 ≤ yr (bl d))
def wTag (d : ByteArray) : Int := if yr (bl d) < 2050 then 23 else 24
def wC (d : ByteArray) : ByteArray := (if yr (bl d) < 2050 then d.extract 2 14 else d) ++ ⟨#[90]⟩
theorem wC_bl (d : ByteArray) (h : d.size = 14) : bl (wC d) = (if yr (bl d) < 2050 then (bl d).drop 2 else bl d) ++ [90] := by
  unfold wC
  rw [bl_append]
  split
  · rw [bl_extract _ _ _ (by omega), List.take_of_length_le (by rw [List.length_drop, bl_length]; omega)]; rfl
  · rfl
theorem g_drop (l : List Int) (k i : Nat) : g (l.drop k) i = g l (k + i) := by
  unfold g; rw [List.getD_eq_getElem?_getD, List.getElem?_drop, List.getD_eq_getElem?_getD]
theorem cent_date {l : List Int} (h : dateP l) (h0 : 1950 ≤ yr l) (h1 : yr l < 2050) : cent (g l 2) ++ l.drop 2 = l := by
  have d0 := date_digits h 0 (by decide)
  have d1 := date_digits h 1 (by decide)
  have d2 := date_digits h 2 (by decide)
  have d3 := date_digits h 3 (by decide)
  rw [yr_is] at h0 h1
  unfold isD at d0 d1 d2 d3
  have hl := h.1
  have e2 : l = [g l 0, g l 1] ++ l.drop 2 := by
    match l, hl with
    | a :: b :: r, _ => rfl
  have hc : cent (g l 2) = [g l 0, g l 1] := by
    unfold cent
    split
    · rename_i hx; rw [show g l 0 = 50 by omega, show g l 1 = 48 by omega]
    · rename_i hx; rw [show g l 0 = 49 by omega, show g l 1 = 57 by omega]
  rw [hc]; exact e2.symm
theorem wOk_iff {d : ByteArray} : wOk d = true ↔ dateP (bl d) ∧ 1950 ≤ yr (bl d) := by unfold wOk; rw [decide_eq_true_eq]
theorem wOk_size {d : ByteArray} (h : wOk d = true) : d.size = 14 := by rw [← bl_length]; exact (wOk_iff.1 h).1.1
/-- The content that is put is right, and tells the date. -/
theorem w_put {d : ByteArray} (h : wOk d = true) : rightP (wTag d) (bl (wC d)) ∧ fullS (wTag d) (wC d) = d ∧ (wC d).size = (if yr (bl d) < 2050 then 13 else 15) := by
  obtain ⟨hd, hy⟩ := wOk_iff.1 h
  have hs := wOk_size h
  have hb := wC_bl d hs
  have hl := hd.1
  unfold wTag
  by_cases hu : yr (bl d) < 2050
  · rw [if_pos hu] at hb ⊢
    have hsz : (wC d).size = 13 := by rw [← bl_length, hb, List.length_append, List.length_drop, hl]; rfl
    have hdl : ((bl d).drop 2).length = 12 := by rw [List.length_drop, hl]
    have hg0 : g (bl (wC d)) 0 = g (bl d) 2 := by rw [hb, g_left (by omega), g_drop]
    have hf : fullC 23 (bl (wC d)) = bl d := by
      unfold fullC
      rw [if_neg (by decide), hg0, hb, List.take_append_of_le_length (by omega), List.take_of_length_le (by omega)]
      exact cent_date hd hy hu
    refine ⟨(right_utc _).2 ⟨by rw [bl_length]; exact hsz, ?_, by rw [hf]; exact hd⟩, bl_inj ?_, by rw [if_pos hu]; exact hsz⟩
    · rw [hb, g_right (by omega), hdl]; rfl
    · rw [fullS_bl _ _ (by omega) (fun e => absurd e (by decide)), hf]
  · rw [if_neg hu] at hb ⊢
    have hsz : (wC d).size = 15 := by rw [← bl_length, hb, List.length_append, hl]; rfl
    have hf : fullC 24 (bl (wC d)) = bl d := by
      unfold fullC
      rw [if_pos rfl, hb, List.take_append_of_le_length (by omega), List.take_of_length_le (by omega)]
    have hg : ∀ i, i < 14 → g (bl (wC d)) i = g (bl d) i := fun i hi => by rw [hb, g_left (by omega)]
    have d0 := date_digits hd 0 (by decide)
    have d1 := date_digits hd 1 (by decide)
    have d2 := date_digits hd 2 (by decide)
    have d3 := date_digits hd 3 (by decide)
    have hy2 : 2050 ≤ yr (bl d) := by omega
    rw [yr_is] at hy2
    unfold isD at d0 d1 d2 d3
    refine ⟨(right_gen _).2 ⟨by rw [bl_length]; exact hsz, ?_, by rw [hf]; exact hd, ⟨fun _ => ?_, fun e => by omega⟩, ⟨fun e => by omega, fun _ => ?_⟩⟩, bl_inj ?_, by rw [if_neg hu]; exact hsz⟩
    · rw [hb, g_right (by omega), hl]; rfl
    · rw [hg 0 (by decide)]; omega
    · rw [hg 0 (by decide), hg 1 (by decide), hg 2 (by decide)]; omega
    · rw [fullS_bl _ _ (by omega) (fun _ => by omega), hf]
theorem g_cent (x : Int) (m : List Int) (i : Nat) : g (cent x ++ m) (i + 2) = g m i := by rw [g_right (by rw [cent_length]; omega), cent_length, Nat.add_sub_cancel]
theorem g_cent0 (x : Int) (m : List Int) : g (cent x ++ m) 0 = if x < 53 then 50 else 49 := by
  rw [g_left (by rw [cent_length]; decide)]; unfold cent; split <;> rfl
theorem g_cent1 (x : Int) (m : List Int) : g (cent x ++ m) 1 = if x < 53 then 48 else 57 := by
  rw [g_left (by rw [cent_length]; decide)]; unfold cent; split <;> rfl
/-- The date that is got is put as it was. -/
theorem w_got {tag : Int} {s : ByteArray} (h : rightP tag (bl s)) : wOk (fullS tag s) = true ∧ wTag (fullS tag s) = tag ∧ wC (fullS tag s) = s ∧ 13 ≤ s.size ∧ s.size ≤ 15 ∧ (tag = 24 → s.size = 15) := by
  have ht : tag = 23 ∨ tag = 24 := by rcases h.1 with ⟨h, _⟩ | ⟨h, _⟩; exact .inl h; exact .inr h
  rcases ht with rfl | rfl
  · obtain ⟨hl, hz, hd⟩ := (right_utc _).1 h
    have hs : s.size = 13 := by rw [← bl_length]; exact hl
    have hf := fullS_bl 23 s (by omega) (fun e => absurd e (by decide))
    have hfs := fullS_size 23 s (by omega) (fun e => absurd e (by decide))
    have hc : fullC 23 (bl s) = cent (g (bl s) 0) ++ (bl s).take 12 := by unfold fullC; rw [if_neg (by decide)]
    have hdF : dateP (bl (fullS 23 s)) := by rw [hf]; exact hd
    have d2 := date_digits hdF 2 (by decide)
    have d3 := date_digits hdF 3 (by decide)
    have e0 : g (bl (fullS 23 s)) 0 = if g (bl s) 0 < 53 then 50 else 49 := by rw [hf, hc, g_cent0]
    have e1 : g (bl (fullS 23 s)) 1 = if g (bl s) 0 < 53 then 48 else 57 := by rw [hf, hc, g_cent1]
    have e2 : g (bl (fullS 23 s)) 2 = g (bl s) 0 := by rw [hf, hc, g_cent _ _ 0, g_take (by decide)]
    have hy : 1950 ≤ yr (bl (fullS 23 s)) ∧ yr (bl (fullS 23 s)) < 2050 := by
      rw [yr_is, e0, e1, e2]
      rw [e2] at d2
      unfold isD at d2 d3
      split <;> omega
    refine ⟨wOk_iff.2 ⟨hdF, hy.1⟩, if_pos hy.2, bl_inj ?_, by omega, by omega, fun e => absurd e (by decide)⟩
    rw [wC_bl _ hfs, if_pos hy.2, hf, hc, List.drop_append_of_le_length (by rw [cent_length]; exact Nat.le_refl _)]
    rw [List.drop_of_length_le (by rw [cent_length]; exact Nat.le_refl _), List.nil_append]
    apply List.ext_getElem
    · rw [List.length_append, List.length_take, hl]; rfl
    · intro i h1 h2
      by_cases hi : i < 12
      · rw [List.getElem_append_left (by rw [List.length_take]; omega), List.getElem_take]
      · have : i = 12 := by omega
        subst this
        rw [List.getElem_append_right (by rw [List.length_take]; omega), ← g_at h2, hz]
        simp
  · obtain ⟨hl, hz, hd, hy0, hy2⟩ := (right_gen _).1 h
    have hs : s.size = 15 := by rw [← bl_length]; exact hl
    have hf := fullS_bl 24 s (by omega) (fun _ => by omega)
    have hfs := fullS_size 24 s (by omega) (fun _ => by omega)
    have hc : fullC 24 (bl s) = (bl s).take 14 := by unfold fullC; rw [if_pos rfl]
    have hdF : dateP (bl (fullS 24 s)) := by rw [hf]; exact hd
    have hg : ∀ i, i < 14 → g (bl (fullS 24 s)) i = g (bl s) i := fun i hi => by rw [hf, hc, g_take hi]
    have d0 := date_digits hdF 0 (by decide)
    have d1 := date_digits hdF 1 (by decide)
    have d2 := date_digits hdF 2 (by decide)
    have d3 := date_digits hdF 3 (by decide)
    have y0 := hy0.1 rfl
    have y2 := hy2.2 rfl
    have hy : 2050 ≤ yr (bl (fullS 24 s)) := by
      rw [yr_is, hg 0 (by decide), hg 1 (by decide), hg 2 (by decide), hg 3 (by decide)]
      rw [hg 0 (by decide)] at d0
      rw [hg 1 (by decide)] at d1
      rw [hg 2 (by decide)] at d2
      rw [hg 3 (by decide)] at d3
      unfold isD at d0 d1 d2 d3
      omega
    refine ⟨wOk_iff.2 ⟨hdF, by omega⟩, if_neg (by omega), bl_inj ?_, by omega, by omega, fun _ => hs⟩
    rw [wC_bl _ hfs, if_neg (by omega), hf, hc]
    apply List.ext_getElem
    · rw [List.length_append, List.length_take, hl]; rfl
    · intro i h1 h2
      by_cases hi : i < 14
      · rw [List.getElem_append_left (by rw [List.length_take]; omega), List.getElem_take]
      · have : i = 14 := by omega
        subst this
        rw [List.getElem_append_right (by rw [List.length_take]; omega), ← g_at h2, hz]
        simp
/-! ### Their order -/
theorem less_app : ∀ (a b : List UInt8) (p q : List UInt8), a.length = b.length → Op.bytesLess (a ++ p) (b ++ q) = (Op.bytesLess a b || (a == b && Op.bytesLess p q))
  | [], [], p, q, _ => by simp [Op.bytesLess]
  | [], _ :: _, _, _, h => by simp at h
  | _ :: _, [], _, _, h => by simp at h
  | x :: a, y :: b, p, q, h => by
    have ih := less_app a b p q (by simpa using h)
    show (decide (x < y) || (x == y && Op.bytesLess (a ++ p) (b ++ q))) = ((decide (x < y) || (x == y && Op.bytesLess a b)) || ((x :: a) == (y :: b) && Op.bytesLess p q))
    rw [ih, List.cons_beq_cons]
    cases decide (x < y) <;> cases (x == y) <;> cases Op.bytesLess a b <;> cases (a == b) <;> rfl
theorem less_self (l : List UInt8) : Op.bytesLess l l = false := by
  induction l with
  | nil => rfl
  | cons x r ih => show (decide (x < x) || (x == x && Op.bytesLess r r)) = false; rw [ih]; simp
theorem less_take (a b : ByteArray) (k : Nat) (ha : k ≤ a.size) (hb : k ≤ b.size) (h : Op.bytesLess (a.toList.take k) (b.toList.take k) = true) : Op.bytesLess a.toList b.toList = true := by
  have la : a.toList.length = a.size := by rw [Lib.toList_data]; rfl
  have lb : b.toList.length = b.size := by rw [Lib.toList_data]; rfl
  rw [← List.take_append_drop k a.toList, ← List.take_append_drop k b.toList, less_app _ _ _ _ (by rw [List.length_take, List.length_take]; omega), h]; rfl
theorem less_total : ∀ (l m : List UInt8), l.length = m.length → Op.bytesLess l m = true ∨ l = m ∨ Op.bytesLess m l = true
  | [], [], _ => .inr (.inl rfl)
  | [], _ :: _, h => by simp at h
  | _ :: _, [], h => by simp at h
  | x :: l, y :: m, h => by
    rcases Nat.lt_trichotomy x.toNat y.toNat with hx | hx | hx
    · left; show (decide (x < y) || _) = true; rw [decide_eq_true (show x < y from hx)]; rfl
    · have e : x = y := UInt8.toNat_inj.1 hx
      subst e
      rcases less_total l m (by simpa using h) with h | h | h
      · left; show (decide (x < x) || (x == x && Op.bytesLess l m)) = true; rw [h]; simp
      · right; left; rw [h]
      · right; right; show (decide (x < x) || (x == x && Op.bytesLess m l)) = true; rw [h]; simp
    · right; right; show (decide (y < x) || _) = true; rw [decide_eq_true (show y < x from hx)]; rfl
theorem less_asym : ∀ (l m : List UInt8), Op.bytesLess l m = true → Op.bytesLess m l = false
  | [], [], h => by cases h
  | [], _ :: _, _ => rfl
  | _ :: _, [], h => by cases h
  | x :: l, y :: m, h => by
    have h : (decide (x < y) || (x == y && Op.bytesLess l m)) = true := h
    show (decide (y < x) || (y == x && Op.bytesLess m l)) = false
    rcases Nat.lt_trichotomy x.toNat y.toNat with hx | hx | hx
    · have h1 : ¬ y < x := by rw [UInt8.lt_iff_toNat_lt]; omega
      have h2 : (y == x) = false := by simp; intro e; rw [e] at hx; omega
      rw [decide_eq_false h1, h2]; rfl
    · have e : x = y := UInt8.toNat_inj.1 hx
      subst e
      have h1 : ¬ x < x := by rw [UInt8.lt_iff_toNat_lt]; omega
      rw [decide_eq_false h1] at h ⊢
      have : Op.bytesLess l m = true := by simpa using h
      rw [less_asym l m this]; simp
    · have h1 : ¬ x < y := by rw [UInt8.lt_iff_toNat_lt]; omega
      have h2 : (x == y) = false := by simp; intro e; rw [e] at hx; omega
      rw [decide_eq_false h1, h2] at h; cases h
/-- Of two dates the one of the later year is the greater text. -/
theorem less_year (a b : ByteArray) (ha : dateP (bl a)) (hb : dateP (bl b)) (h : yr (bl a) < yr (bl b)) : Op.bytesLess a.toList b.toList = true := by
  have sa : a.size = 14 := by rw [← bl_length]; exact ha.1
  have sb : b.size = 14 := by rw [← bl_length]; exact hb.1
  refine less_take a b 4 (by omega) (by omega) ?_
  have a0 := date_digits ha 0 (by decide)
  have a1 := date_digits ha 1 (by decide)
  have a2 := date_digits ha 2 (by decide)
  have a3 := date_digits ha 3 (by decide)
  have b0 := date_digits hb 0 (by decide)
  have b1 := date_digits hb 1 (by decide)
  have b2 := date_digits hb 2 (by decide)
  have b3 := date_digits hb 3 (by decide)
  rw [yr_is, yr_is] at h
  simp only [← bt_g] at a0 a1 a2 a3 b0 b1 b2 b3 h
  unfold isD at *
  clear ha hb
  rw [Lib.toList_data, Lib.toList_data]
  obtain ⟨⟨l⟩⟩ := a
  obtain ⟨⟨m⟩⟩ := b
  have hl : l.length = 14 := sa
  have hm : m.length = 14 := sb
  match l, hl, m, hm with
  | x0 :: x1 :: x2 :: x3 :: r, _, y0 :: y1 :: y2 :: y3 :: q, _ =>
    have a0 : 48 ≤ (x0.toNat : Int) ∧ (x0.toNat : Int) ≤ 57 := a0
    have a1 : 48 ≤ (x1.toNat : Int) ∧ (x1.toNat : Int) ≤ 57 := a1
    have a2 : 48 ≤ (x2.toNat : Int) ∧ (x2.toNat : Int) ≤ 57 := a2
    have a3 : 48 ≤ (x3.toNat : Int) ∧ (x3.toNat : Int) ≤ 57 := a3
    have b0 : 48 ≤ (y0.toNat : Int) ∧ (y0.toNat : Int) ≤ 57 := b0
    have b1 : 48 ≤ (y1.toNat : Int) ∧ (y1.toNat : Int) ≤ 57 := b1
    have b2 : 48 ≤ (y2.toNat : Int) ∧ (y2.toNat : Int) ≤ 57 := b2
    have b3 : 48 ≤ (y3.toNat : Int) ∧ (y3.toNat : Int) ≤ 57 := b3
    have h : 1000 * ((x0.toNat : Int) - 48) + 100 * ((x1.toNat : Int) - 48) + 10 * ((x2.toNat : Int) - 48) + ((x3.toNat : Int) - 48) < 1000 * ((y0.toNat : Int) - 48) + 100 * ((y1.toNat : Int) - 48) + 10 * ((y2.toNat : Int) - 48) + ((y3.toNat : Int) - 48) := h
    show Op.bytesLess [x0, x1, x2, x3] [y0, y1, y2, y3] = true
    have e : Op.bytesLess [x0, x1, x2, x3] [y0, y1, y2, y3] = (decide (x0 < y0) || (x0 == y0 && (decide (x1 < y1) || (x1 == y1 && (decide (x2 < y2) || (x2 == y2 && (decide (x3 < y3) || (x3 == y3 && false)))))))) := rfl
    have q1 : ∀ x y : UInt8, (x == y) = decide ((x.toNat : Int) = (y.toNat : Int)) := fun x y => by rw [← decide_eq_decide.2 (u8_eq x y)]; rfl
    have q2 : ∀ x y : UInt8, decide (x < y) = decide ((x.toNat : Int) < (y.toNat : Int)) := fun x y => decide_eq_decide.2 (u8_lt x y)
    rw [e, q1, q1, q1, q1, q2, q2, q2, q2, Bool.and_false, Bool.or_false, ← Bool.decide_and, ← Bool.decide_or, ← Bool.decide_and, ← Bool.decide_or, ← Bool.decide_and, ← Bool.decide_or]
    exact decide_eq_true (by omega)
/-- Dates of two tags: those of UTCTimes come ahead. -/
theorem w_tags {a b : ByteArray} (ha : wOk a = true) (hb : wOk b = true) (h : wTag a ≠ wTag b) : Op.bytesLess a.toList b.toList = decide (wTag a = 23) := by
  obtain ⟨da, _⟩ := wOk_iff.1 ha
  obtain ⟨db, _⟩ := wOk_iff.1 hb
  unfold wTag at *
  by_cases h1 : yr (bl a) < 2050
  · rw [if_pos h1] at h ⊢
    by_cases h2 : yr (bl b) < 2050
    · rw [if_pos h2] at h; exact absurd rfl h
    · rw [less_year a b da db (by omega)]; rfl
  · rw [if_neg h1] at h ⊢
    by_cases h2 : yr (bl b) < 2050
    · rw [less_asym _ _ (less_year b a db da (by omega))]; rfl
    · rw [if_neg h2] at h; exact absurd rfl h
theorem toList_append (a b : ByteArray) : (a ++ b).toList = a.toList ++ b.toList := by rw [Lib.toList_data, Lib.toList_data, Lib.toList_data, ByteArray.data_append, Array.toList_append]
/-- Contents of GeneralizedTimes are in their dates' order. -/
theorem w_gen {a b : ByteArray} (ha : wOk a = true) (hb : wOk b = true) (ta : wTag a = 24) (tb : wTag b = 24) : Op.bytesLess (wC a).toList (wC b).toList = Op.bytesLess a.toList b.toList := by
  have ya : ¬ yr (bl a) < 2050 := by intro h; unfold wTag at ta; rw [if_pos h] at ta; cases ta
  have yb : ¬ yr (bl b) < 2050 := by intro h; unfold wTag at tb; rw [if_pos h] at tb; cases tb
  have sa := wOk_size ha
  have sb := wOk_size hb
  have la : a.toList.length = a.size := by rw [Lib.toList_data]; rfl
  have lb : b.toList.length = b.size := by rw [Lib.toList_data]; rfl
  unfold wC
  rw [if_neg ya, if_neg yb, toList_append, toList_append, less_app _ _ _ _ (by omega), less_self]
  simp
/-- A tag and a content are of one date. -/
theorem w_inj {a b : ByteArray} (ha : wOk a = true) (hb : wOk b = true) (ht : wTag a = wTag b) (hc : wC a = wC b) : a = b := by
  rw [← (w_put ha).2.1, ← (w_put hb).2.1, ht, hc]
theorem toList_eq (a b : ByteArray) : (a.toList == b.toList) = decide (a = b) := by
  by_cases h : a = b
  · rw [h, decide_eq_true rfl]; exact beq_self_eq_true _
  · rw [decide_eq_false h]
    refine beq_eq_false_iff_ne.2 (fun e => h ?_)
    rw [Lib.toList_data, Lib.toList_data] at e
    exact ByteArray.ext (Array.toList_inj.1 e)
theorem w_eq {a b : ByteArray} (ha : wOk a = true) (hb : wOk b = true) (ht : wTag a = wTag b) : (a.toList == b.toList) = ((wC a).toList == (wC b).toList) := by
  rw [toList_eq, toList_eq]
  exact decide_eq_decide.2 ⟨fun h => by rw [h], fun h => w_inj ha hb ht h⟩
/-- A date's day is one of its month's. -/
theorem w_day {d : ByteArray} (h : wOk d = true) : 1 ≤ n2 (bl d) 6 ∧ n2 (bl d) 6 ≤ dysI (yr (bl d)) (n2 (bl d) 4) := by
  obtain ⟨hd, _⟩ := wOk_iff.1 h
  have := ((date_iff (bl d) hd.1).1 hd.2).2
  exact ⟨this.1, this.2.1⟩
/-! ### What Put and Get answer -/
def wPutT (d : ByteArray) : Int := if wOk d = true then wTag d else 0
def wPutC (d : ByteArray) : ByteArray := if wOk d = true then wC d else ⟨#[]⟩
def wGetB (tag : Int) (s : ByteArray) : Bool := decide (rightP tag (bl s))
def wGetS (tag : Int) (s : ByteArray) : ByteArray := if wGetB tag s = true then fullS tag s else ⟨#[]⟩
end Go.Proofs.YthjncfpgmfbehaaDoor
