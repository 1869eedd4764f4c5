/- What a State of a string holds, in plain words: the tail of a character that isn't whole, and what a step makes of it. It holds of lists of numbers alone, under no condition on the program. -/
import Derived.Test.YtlnggeggmchjcaaText
namespace Go.Proofs.Ytlnggeggmchjcaa
open Go.PlainAid
set_option linter.unusedVariables false
/-- How many bytes belong behind, and between which bounds the next one is. -/
structure TL where
  n : Int
  lo : Int
  hi : Int
def TL.no : TL := ⟨0, 0, 0⟩
structure TL.Ok (t : TL) : Prop where
  n0 : 0 ≤ t.n
  n1 : t.n ≤ 3
  l0 : 0 ≤ t.lo
  l1 : t.lo ≤ 255
  h0 : 0 ≤ t.hi
  h1 : t.hi ≤ 255
def tlN (n : Int) : TL := if n = 0 then ⟨0, 0, 0⟩ else ⟨n, 128, 191⟩
def tBegin (b : Int) : TL × Bool :=
  if b < 128 then (⟨0, 0, 0⟩, true) else if b < 194 then (⟨0, 0, 0⟩, false) else if b < 224 then (⟨1, 128, 191⟩, true) else if b = 224 then (⟨2, 160, 191⟩, true) else if b = 237 then (⟨2, 128, 159⟩, true)
  else if b < 240 then (⟨2, 128, 191⟩, true) else if b = 240 then (⟨3, 144, 191⟩, true) else if b < 244 then (⟨3, 128, 191⟩, true) else if b = 244 then (⟨3, 128, 143⟩, true) else (⟨0, 0, 0⟩, false)
def tBehind (t : TL) (b : Int) : TL × Bool := if t.n = 0 then tBegin b else if b < t.lo ∨ t.hi < b then (⟨0, 0, 0⟩, false) else (tlN (t.n - 1), true)
/-- What belongs behind these bytes of a character. -/
def tlR (r : List Int) : TL := if r = [] then ⟨0, 0, 0⟩ else ⟨(sz (g r 0) : Int) - (r.length : Int), (if r.length = 1 then (if g r 0 = 224 then 160 else if g r 0 = 240 then 144 else 128) else 128), (if r.length = 1 then (if g r 0 = 237 then 159 else if g r 0 = 244 then 143 else 191) else 191)⟩
theorem tl_nil : tlR [] = ⟨0, 0, 0⟩ := if_pos rfl
theorem tl_cons {r : List Int} (h : 1 ≤ r.length) : tlR r = ⟨(sz (g r 0) : Int) - (r.length : Int), (if r.length = 1 then (if g r 0 = 224 then 160 else if g r 0 = 240 then 144 else 128) else 128), (if r.length = 1 then (if g r 0 = 237 then 159 else if g r 0 = 244 then 143 else 191) else 191)⟩ :=
  if_neg (by intro e; rw [e] at h; simp at h)
theorem tl_ok {r : List Int} (h : r = [] ∨ (frontOk r ∧ r.length < sz (g r 0))) : (tlR r).Ok := by
  rcases h with rfl | ⟨⟨h1, _, _⟩, h2⟩
  · rw [tl_nil]; exact ⟨by decide, by decide, by decide, by decide, by decide, by decide⟩
  · rw [tl_cons h1]
    have hz := sz_le (g r 0)
    refine ⟨?_, ?_, ?_, ?_, ?_, ?_⟩
    · show 0 ≤ (sz (g r 0) : Int) - (r.length : Int); omega
    · show (sz (g r 0) : Int) - (r.length : Int) ≤ 3; omega
    all_goals
      show _ ≤ _
      simp only
      repeat' split
      all_goals decide
/-- One byte more. -/
theorem front_one (b : Int) : frontOk [b] ↔ 1 ≤ sz b := by
  have e : g [b] 0 = b := rfl
  unfold frontOk
  rw [e]
  exact ⟨fun h => h.2.1, fun h => ⟨by simp, h, fun i hi h5 => by simp at hi; omega⟩⟩
theorem front_snoc {r : List Int} {b : Int} (h : frontOk r) (hl : r.length < sz (g r 0)) : frontOk (r ++ [b]) ↔ contOk (g r 0) r.length b := by
  obtain ⟨h1, h2, h3⟩ := h
  have e0 : g (r ++ [b]) 0 = g r 0 := g_left (by omega)
  have el : g (r ++ [b]) r.length = b := by rw [g_right (Nat.le_refl _), Nat.sub_self]; rfl
  unfold frontOk
  rw [e0, List.length_append, List.length_singleton]
  constructor
  · rintro ⟨_, _, hh⟩
    have := hh r.length (by omega) h1
    rwa [el] at this
  · intro hc
    refine ⟨by omega, by omega, fun i hi h5 => ?_⟩
    by_cases hir : i = r.length
    · rw [hir, el]; exact hc
    · rw [g_left (by omega)]; exact h3 i (by omega) h5
theorem t_step {r : List Int} {b : Int} (h : r = [] ∨ (frontOk r ∧ r.length < sz (g r 0))) :
    (∀ s, uS (some r) b = some s → tBehind (tlR r) b = (tlR s, true)) ∧ (uS (some r) b = none → tBehind (tlR r) b = (⟨0, 0, 0⟩, false)) := by
  rcases h with rfl | ⟨hf, hl⟩
  · have hu : uS (some []) b = if 1 ≤ sz b then some (if 1 = sz b then [] else [b]) else none := by
      show (if frontOk [b] then some (if 0 + 1 = sz b then [] else [b]) else none) = _
      by_cases h1 : 1 ≤ sz b
      · rw [if_pos ((front_one b).2 h1), if_pos h1]
      · rw [if_neg (fun h => h1 ((front_one b).1 h)), if_neg h1]
    have ht : tBehind (tlR []) b = tBegin b := by rw [tl_nil]; exact if_pos rfl
    have h1b : tlR [b] = ⟨(sz b : Int) - 1, (if b = 224 then 160 else if b = 240 then 144 else 128), (if b = 237 then 159 else if b = 244 then 143 else 191)⟩ := rfl
    rw [hu, ht]
    have hs : sz b = if b < 128 then 1 else if b < 194 then 0 else if b < 224 then 2 else if b < 240 then 3 else if b < 245 then 4 else 0 := rfl
    unfold tBegin
    by_cases c1 : b < 128
    · rw [if_pos c1] at hs
      rw [hs, if_pos (by omega), if_pos rfl, if_pos c1]
      exact ⟨fun s e => (by cases e; rfl), fun e => (by cases e)⟩
    · rw [if_neg c1] at hs ⊢
      by_cases c2 : b < 194
      · rw [if_pos c2] at hs
        rw [hs, if_neg (by omega), if_pos c2]
        exact ⟨fun s e => (by cases e), fun _ => rfl⟩
      · rw [if_neg c2] at hs ⊢
        by_cases c3 : b < 224
        · rw [if_pos c3] at hs
          rw [hs, if_pos (by omega), if_neg (by omega), if_pos c3]
          refine ⟨fun s e => ?_, fun e => (by cases e)⟩
          cases e
          rw [h1b, hs, if_neg (by omega), if_neg (by omega), if_neg (by omega), if_neg (by omega)]; rfl
        · rw [if_neg c3] at hs ⊢
          by_cases c4 : b < 240
          · rw [if_pos c4] at hs
            rw [hs, if_pos (by omega), if_neg (by omega)]
            refine ⟨fun s e => ?_, fun e => (by cases e)⟩
            cases e
            rw [h1b, hs]
            by_cases c5 : b = 224
            · subst c5; rfl
            · by_cases c6 : b = 237
              · subst c6; rfl
              · rw [if_neg c5, if_neg c6, if_pos c4, if_neg c5, if_neg (by omega), if_neg c6, if_neg (by omega)]; rfl
          · rw [if_neg c4] at hs
            by_cases c7 : b < 245
            · rw [if_pos c7] at hs
              rw [hs, if_pos (by omega), if_neg (by omega)]
              refine ⟨fun s e => ?_, fun e => (by cases e)⟩
              cases e
              rw [h1b, hs]
              by_cases c5 : b = 240
              · subst c5; rfl
              · by_cases c6 : b = 244
                · subst c6; rfl
                · rw [if_neg (by omega), if_neg (by omega), if_neg c4, if_neg c5, if_pos (by omega), if_neg (by omega), if_neg c5, if_neg (by omega), if_neg c6]; rfl
            · rw [if_neg c7] at hs
              rw [hs, if_neg (by omega), if_neg (by omega), if_neg (by omega), if_neg c4, if_neg (by omega), if_neg (by omega), if_neg (by omega)]
              exact ⟨fun s e => (by cases e), fun _ => rfl⟩
  · have h1 : 1 ≤ r.length := hf.1
    have e0 : g (r ++ [b]) 0 = g r 0 := g_left (by omega)
    have hu : uS (some r) b = if contOk (g r 0) r.length b then some (if r.length + 1 = sz (g r 0) then [] else r ++ [b]) else none := by
      show (if frontOk (r ++ [b]) then some (if r.length + 1 = sz (g (r ++ [b]) 0) then [] else r ++ [b]) else none) = _
      rw [e0]
      by_cases hc : contOk (g r 0) r.length b
      · rw [if_pos ((front_snoc hf hl).2 hc), if_pos hc]
      · rw [if_neg (fun h => hc ((front_snoc hf hl).1 h)), if_neg hc]
    have hb : contOk (g r 0) r.length b ↔ ¬ (b < (tlR r).lo ∨ (tlR r).hi < b) := by
      rw [tl_cons h1]
      simp only
      unfold contOk
      by_cases hr : r.length = 1
      · rw [if_pos hr, if_pos hr]
        by_cases c1 : g r 0 = 224
        · rw [if_pos c1, if_neg (by omega), if_neg (by omega)]
          exact ⟨fun h => by have := (h.2.2 hr).1 c1; omega, fun h => ⟨by omega, by omega, fun _ => ⟨by omega, by omega, by omega, by omega⟩⟩⟩
        · rw [if_neg c1]
          by_cases c2 : g r 0 = 240
          · rw [if_pos c2, if_neg (by omega), if_neg (by omega)]
            exact ⟨fun h => by have := (h.2.2 hr).2.2.1 c2; omega, fun h => ⟨by omega, by omega, fun _ => ⟨by omega, by omega, by omega, by omega⟩⟩⟩
          · rw [if_neg c2]
            by_cases c3 : g r 0 = 237
            · rw [if_pos c3]
              exact ⟨fun h => by have := (h.2.2 hr).2.1 c3; omega, fun h => ⟨by omega, by omega, fun _ => ⟨by omega, by omega, by omega, by omega⟩⟩⟩
            · rw [if_neg c3]
              by_cases c4 : g r 0 = 244
              · rw [if_pos c4]
                exact ⟨fun h => by have := (h.2.2 hr).2.2.2 c4; omega, fun h => ⟨by omega, by omega, fun _ => ⟨by omega, by omega, by omega, by omega⟩⟩⟩
              · rw [if_neg c4]
                exact ⟨fun h => by omega, fun h => ⟨by omega, by omega, fun _ => ⟨by omega, by omega, by omega, by omega⟩⟩⟩
      · rw [if_neg hr, if_neg hr]
        exact ⟨fun h => by omega, fun h => ⟨by omega, by omega, fun e => absurd e hr⟩⟩
    have hn : (tlR r).n = (sz (g r 0) : Int) - (r.length : Int) := by rw [tl_cons h1]
    have htb : tBehind (tlR r) b = if b < (tlR r).lo ∨ (tlR r).hi < b then (⟨0, 0, 0⟩, false) else (tlN ((tlR r).n - 1), true) := if_neg (by rw [hn]; omega)
    rw [hu, htb]
    by_cases hc : contOk (g r 0) r.length b
    · rw [if_pos hc, if_neg (hb.1 hc)]
      refine ⟨fun s e => ?_, fun e => (by cases e)⟩
      cases e
      rw [hn]
      by_cases hz : r.length + 1 = sz (g r 0)
      · rw [if_pos hz, tl_nil]
        unfold tlN
        rw [if_pos (by omega)]
      · rw [if_neg hz, tl_cons (by rw [List.length_append]; omega), e0, List.length_append, List.length_singleton, if_neg (by omega), if_neg (by omega)]
        unfold tlN
        rw [if_neg (by omega), show (sz (g r 0) : Int) - (r.length : Int) - 1 = (sz (g r 0) : Int) - ((r.length + 1 : Nat) : Int) by omega]
    · rw [if_neg hc, if_pos (Decidable.byContradiction fun h => hc (hb.2 h))]
      exact ⟨fun s e => (by cases e), fun _ => rfl⟩
/-! ### States -/
/-- The tail behind these bytes of a content. -/
def tlT (tag : Int) (l : List Int) : TL := if tag = 12 then (match uR l with | none => ⟨0, 0, 0⟩ | some r => tlR r) else ⟨0, 0, 0⟩
theorem tlT_some {l r : List Int} (h : uR l = some r) : tlT 12 l = tlR r := by unfold tlT; rw [if_pos rfl, h]
theorem tlT_other {tag : Int} {l : List Int} (h : tag ≠ 12) : tlT tag l = ⟨0, 0, 0⟩ := if_neg h
theorem tlT_nil (tag : Int) : tlT tag [] = ⟨0, 0, 0⟩ := by
  by_cases h : tag = 12
  · subst h; rw [tlT_some uR_nil, tl_nil]
  · exact tlT_other h
theorem tlT_ok (tag : Int) (l : List Int) : (tlT tag l).Ok := by
  by_cases h : tag = 12
  · subst h
    cases hu : uR l with
    | none => unfold tlT; rw [if_pos rfl, hu]; exact ⟨by decide, by decide, by decide, by decide, by decide, by decide⟩
    | some r => rw [tlT_some hu]; exact tl_ok (uR_some hu)
  · rw [tlT_other h]; exact ⟨by decide, by decide, by decide, by decide, by decide, by decide⟩
/-- Whether the next byte can be it, of so many bytes left ahead of it. -/
def xOk (tag left : Int) (t : TL) (b : Int) : Bool := if tag = 12 then (tBehind t b).2 && decide ((tBehind t b).1.n ≤ left - 1) else decide (plT tag b)
def xTail (tag : Int) (t : TL) (b : Int) : TL := if tag = 12 then (tBehind t b).1 else t
/-- A step tells whether the longer front can be. -/
theorem x_push {tag n : Int} {l : List Int} {x : Int} (h : canT tag n l) (hl : (l.length : Int) < n) :
    xOk tag (n - (l.length : Int)) (tlT tag l) x = decide (canT tag n (l ++ [x])) ∧ (canT tag n (l ++ [x]) → xTail tag (tlT tag l) x = tlT tag (l ++ [x])) := by
  by_cases ht : tag = 12
  · subst ht
    obtain ⟨h0, h | h⟩ := h
    · cases hu : uR l with
      | none => rw [uC_none hu] at h; exact absurd h.2 (by decide)
      | some r =>
        have hs := uR_some hu
        obtain ⟨t1, t2⟩ := t_step (b := x) hs
        have hsn : uR (l ++ [x]) = uS (some r) x := by rw [uR_snoc, hu]
        unfold xOk xTail
        rw [if_pos rfl, if_pos rfl, tlT_some hu]
        cases hx : uS (some r) x with
        | none =>
          rw [hx] at hsn
          rw [t2 hx]
          have hc : ¬ canT 12 n (l ++ [x]) := fun hh => by
            rcases hh.2 with h5 | h5
            · rw [uC_none hsn] at h5; exact absurd h5.2 (by decide)
            · exact h5.1 rfl
          exact ⟨(decide_eq_false hc).symm, fun hh => absurd hh hc⟩
        | some s =>
          rw [hx] at hsn
          rw [t1 s hx, tlT_some hsn]
          refine ⟨?_, fun _ => rfl⟩
          show (true && decide ((tlR s).n ≤ n - (l.length : Int) - 1)) = _
          rw [Bool.true_and]
          refine decide_eq_decide.2 ?_
          have key : canT 12 n (l ++ [x]) ↔ (s = [] ∨ ((l ++ [x]).length : Int) + (sz (g s 0) : Int) - (s.length : Int) ≤ n) := by
            rw [← uC_some hsn]
            exact ⟨fun hh => by rcases hh.2 with h5 | h5; exact h5.2; exact absurd rfl h5.1, fun hh => ⟨h0, .inl ⟨rfl, hh⟩⟩⟩
          rw [key, List.length_append, List.length_singleton]
          by_cases hs0 : s = []
          · subst hs0
            rw [tl_nil]
            exact ⟨fun _ => .inl rfl, fun _ => by show (0 : Int) ≤ _; omega⟩
          · have h1 : 1 ≤ s.length := by cases s with
              | nil => exact absurd rfl hs0
              | cons a s => simp
            rw [tl_cons h1]
            exact ⟨fun hh => .inr (by have : (sz (g s 0) : Int) - (s.length : Int) ≤ n - (l.length : Int) - 1 := hh; omega), fun hh => by
              rcases hh with h5 | h5
              · exact absurd h5 hs0
              · show (sz (g s 0) : Int) - (s.length : Int) ≤ n - (l.length : Int) - 1; omega⟩
    · exact absurd rfl h.1
  · unfold xOk xTail
    rw [if_neg ht, if_neg ht, tlT_other ht, tlT_other ht]
    refine ⟨decide_eq_decide.2 ?_, fun _ => rfl⟩
    obtain ⟨h0, h | h⟩ := h
    · exact absurd h.1 ht
    · refine ⟨fun hx => ⟨h0, .inr ⟨ht, fun y hy => ?_⟩⟩, fun hc => ?_⟩
      · rcases List.mem_append.1 hy with hy | hy
        · exact h.2 y hy
        · rw [List.mem_singleton.1 hy]; exact hx
      · rcases hc.2 with h5 | h5
        · exact absurd h5.1 ht
        · exact h5.2 x (by simp)
end Go.Proofs.Ytlnggeggmchjcaa
