/- What strconv.Itoa gives of a year of four digits, where the library's table of powers of ten reads as its initialiser lays it; and that the table reads so behind every call. Of every number under the bounds that are named. -/
import Derived.Test.YthjncfpgmfbehaaDoorShelf
import Derived.Test.YthjncfpgmfbehaaDoorWhenPut
import Derived.Lib.AppendIntMem
namespace Go.Proofs.YthjncfpgmfbehaaDoor
open Go.RowKit Go.PlainAid
set_option linter.unusedVariables false
/-- The library's table of powers of ten reads as its initialiser lays it. -/
def Tab (w : World) : Prop := Lib.TabIs Tryd.prog w "internal/strconv.uint64pow10" .u64 Lib.pow10Tab
theorem Tab.on {w w' : World} (h : Tab w) (hb : Below w.heap.size w w') : Tab w' := (Lib.tabBelow_of_tabIs h).on hb |>.here
theorem itoa_any (n : Int) (h0 : -9223372036854775808 ≤ n) (h1 : n ≤ 9223372036854775807) (w : World) (hT : Tab w) :
    Calls Tryd.prog 24 #[.int .i64 n] w fun e w' => e = .returned (.string ⟨(Lib.itoa n).toArray⟩) ∧ Below w.heap.size w w' :=
  (Tryd.strconv_Itoa n h0 h1 w hT).mono (by rintro e w' ⟨rfl, k, os, rfl⟩; exact ⟨rfl, Lib.below_grow _ _ (Nat.le_refl _) _ _⟩)
theorem dec4 (u : Nat) (h : 1000 ≤ u) (h2 : u ≤ 9999) : Lib.decDigits u = [UInt8.ofNat (48 + u / 1000), UInt8.ofNat (48 + u / 100 % 10), UInt8.ofNat (48 + u / 10 % 10), UInt8.ofNat (48 + u % 10)] := by
  rw [Lib.decDigits, dif_neg (by omega), Lib.decDigits, dif_neg (by omega), Lib.decDigits, dif_neg (by omega), Lib.decDigits, dif_pos (by omega)]
  rw [show u / 10 / 10 / 10 = u / 1000 by omega, show u / 10 / 10 % 10 = u / 100 % 10 by omega]
  rfl
/-- A year's text. -/
def yearS (y : Int) : ByteArray := ⟨(Lib.itoa y).toArray⟩
theorem yearS_bl (y : Int) (h : 1000 ≤ y) (h2 : y ≤ 9999) : bl (yearS y) = [48 + y / 1000, 48 + y / 100 % 10, 48 + y / 10 % 10, 48 + y % 10] := by
  obtain ⟨u, rfl⟩ := Int.eq_ofNat_of_zero_le (show 0 ≤ y by omega)
  have e : yearS (u : Int) = ⟨#[UInt8.ofNat (48 + u / 1000), UInt8.ofNat (48 + u / 100 % 10), UInt8.ofNat (48 + u / 10 % 10), UInt8.ofNat (48 + u % 10)]⟩ := by
    unfold yearS Lib.itoa
    rw [if_neg (by omega), Int.toNat_natCast, dec4 u (by omega) (by omega)]
  rw [e]
  show [((UInt8.ofNat (48 + u / 1000)).toNat : Int), ((UInt8.ofNat (48 + u / 100 % 10)).toNat : Int), ((UInt8.ofNat (48 + u / 10 % 10)).toNat : Int), ((UInt8.ofNat (48 + u % 10)).toNat : Int)] = _
  have q : ∀ n : Nat, n < 10 → ((UInt8.ofNat (48 + n)).toNat : Int) = 48 + (n : Int) := fun n hn => by
    rw [UInt8.toNat_ofNat']; omega
  rw [q _ (by omega), q _ (by omega), q _ (by omega), q _ (by omega)]
  rfl
/-- A front's first four digits are its year's text. -/
theorem yearS_front (F : List Int) (h4 : 4 ≤ F.length) (hd : ∀ i, i < 4 → isD (g F i)) (hy : 1000 ≤ yr F) : bl (yearS (yr F)) = F.take 4 := by
  have hr := yr_range hd
  rw [yearS_bl _ hy hr.2]
  have d0 := hd 0 (by decide)
  have d1 := hd 1 (by decide)
  have d2 := hd 2 (by decide)
  have d3 := hd 3 (by decide)
  rw [yr_is] at *
  unfold isD at d0 d1 d2 d3
  match F, h4 with
  | a :: b :: c :: d :: r, _ =>
    have d0 : 48 ≤ a ∧ a ≤ 57 := d0
    have d1 : 48 ≤ b ∧ b ≤ 57 := d1
    have d2 : 48 ≤ c ∧ c ≤ 57 := d2
    have d3 : 48 ≤ d ∧ d ≤ 57 := d3
    show [48 + (1000 * (a - 48) + 100 * (b - 48) + 10 * (c - 48) + (d - 48)) / 1000, 48 + (1000 * (a - 48) + 100 * (b - 48) + 10 * (c - 48) + (d - 48)) / 100 % 10, 48 + (1000 * (a - 48) + 100 * (b - 48) + 10 * (c - 48) + (d - 48)) / 10 % 10, 48 + (1000 * (a - 48) + 100 * (b - 48) + 10 * (c - 48) + (d - 48)) % 10] = [a, b, c, d]
    rw [show 48 + (1000 * (a - 48) + 100 * (b - 48) + 10 * (c - 48) + (d - 48)) / 1000 = a by omega, show 48 + (1000 * (a - 48) + 100 * (b - 48) + 10 * (c - 48) + (d - 48)) / 100 % 10 = b by omega, show 48 + (1000 * (a - 48) + 100 * (b - 48) + 10 * (c - 48) + (d - 48)) / 10 % 10 = c by omega, show 48 + (1000 * (a - 48) + 100 * (b - 48) + 10 * (c - 48) + (d - 48)) % 10 = d by omega]
/-- What Get puts together is the date's text. -/
theorem year_full {tag : Int} {s : ByteArray} (h : rightP tag (bl s)) : yearS (yr (fullP tag (bl s))) ++ s.extract (s.size - 11) (s.size - 1) = fullS tag s ∧ 13 ≤ s.size ∧ 1000 ≤ yr (fullP tag (bl s)) ∧ yr (fullP tag (bl s)) ≤ 9999 := by
  obtain ⟨w1, _, _, w4, w5, w6⟩ := w_got h
  have ht : tag = 23 ∨ tag = 24 := by rcases h.1 with ⟨h, _⟩ | ⟨h, _⟩; exact .inl h; exact .inr h
  have hb := (wOk_iff.1 w1)
  have hfb := fullS_bl tag s (by omega) (fun e => by have := w6 e; omega)
  rw [hfb] at hb
  rcases ht with rfl | rfl
  · have hs : s.size = 13 := by rw [← bl_length]; exact ((right_utc _).1 h).1
    have hF : fullP 23 (bl s) = cent (g (bl s) 0) ++ bl s := by unfold fullP; rw [if_neg (by decide)]
    have hC : fullC 23 (bl s) = cent (g (bl s) 0) ++ (bl s).take 12 := by unfold fullC; rw [if_neg (by decide)]
    have hg : ∀ i, i < 14 → g (fullP 23 (bl s)) i = g (fullC 23 (bl s)) i := fun i hi => by
      rw [hF, hC]
      by_cases h2 : i < 2
      · rw [g_left (by rw [cent_length]; exact h2), g_left (by rw [cent_length]; exact h2)]
      · rw [g_right (by rw [cent_length]; omega), g_right (by rw [cent_length]; omega), cent_length, g_take (by omega)]
    have hy : yr (fullP 23 (bl s)) = yr (fullC 23 (bl s)) := yr_congr (fun j hj => hg j (by omega))
    have hd : ∀ i, i < 4 → isD (g (fullP 23 (bl s)) i) := fun i hi => by rw [hg i (by omega)]; exact date_digits hb.1 i (by omega)
    have hr := yr_range hd
    refine ⟨bl_inj ?_, w4, by rw [hy]; omega, hr.2⟩
    rw [bl_append, yearS_front _ (by rw [fullP_length, bl_length]; simp [offT]; omega) hd (by rw [hy]; omega), bl_extract _ _ _ (by omega), hfb, hF, hC, hs]
    have hl : (bl s).length = 13 := by rw [bl_length]; exact hs
    generalize bl s = l at hl
    match l, hl with
    | [a, b, c, d, e, f, k, m, n, o, p, q, r], _ =>
      unfold cent
      split <;> rfl
  · have hs : s.size = 15 := w6 rfl
    have hF : fullP 24 (bl s) = bl s := by unfold fullP; rw [if_pos rfl]
    have hC : fullC 24 (bl s) = (bl s).take 14 := by unfold fullC; rw [if_pos rfl]
    have hg : ∀ i, i < 14 → g (fullP 24 (bl s)) i = g (fullC 24 (bl s)) i := fun i hi => by
      rw [hF, hC, g_take (by omega)]
    have hy : yr (fullP 24 (bl s)) = yr (fullC 24 (bl s)) := yr_congr (fun j hj => hg j (by omega))
    have hd : ∀ i, i < 4 → isD (g (fullP 24 (bl s)) i) := fun i hi => by rw [hg i (by omega)]; exact date_digits hb.1 i (by omega)
    have hr := yr_range hd
    refine ⟨bl_inj ?_, w4, by rw [hy]; omega, hr.2⟩
    rw [bl_append, yearS_front _ (by rw [fullP_length, bl_length]; simp [offT]; omega) hd (by rw [hy]; omega), bl_extract _ _ _ (by omega), hfb, hF, hC, hs]
    have hl : (bl s).length = 15 := by rw [bl_length]; exact hs
    generalize bl s = l at hl
    match l, hl with
    | [a, b, c, d, e, f, k, m, n, o, p, q, r, t, u], _ => rfl
end Go.Proofs.YthjncfpgmfbehaaDoor
