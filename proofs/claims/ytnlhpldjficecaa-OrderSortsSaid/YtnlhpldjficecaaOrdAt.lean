/- Package order's sorter in memory: New, what takes a byte, and whether an element comes first. -/
import Derived.Test.YtnlhpldjficecaaOrdSpec
import Derived.Test.YtnlhpldjficecaaU64
import Derived.Deep.QuietTactic
import Derived.BigQuiet
import Derived.Deep.RegionLaw
namespace Go.Proofs.Ytnlhpldjficecaa
open Go.RowKit Go.PlainAid
set_option linter.unusedVariables false
/-- The bytes that the sorter keeps: none, or a block g. -/
def Hi (w : World) (k : Nat) (F : Nat → Prop) (v : Value) (l : List Int) : Prop :=
  (v = .slice none 0 0 ∧ l = [] ∧ ∀ i, F i ↔ i = k) ∨ ∃ g, Sl w 5 v (u8s l) g ∧ k ≠ g ∧ ∀ i, F i ↔ i = k ∨ i = g
def SoAt : OrdPred := fun w k F m => ∃ (v : Value) (came : Int) (first : Bool) (l : List Int), Row w k 48 [.int .i64 m.most, v, .int .i64 came, .bool first, .int .i64 m.e] ∧ Hi w k F v l ∧ (m.e = 0 → came = m.last.length ∧ Keeps m l first)
theorem Hi.self {w : World} {k : Nat} {F : Nat → Prop} {v : Value} {l : List Int} (h : Hi w k F v l) : F k := by
  rcases h with ⟨_, _, h⟩ | ⟨g, _, _, h⟩
  · exact (h k).2 rfl
  · exact (h k).2 (.inl rfl)
theorem so_lt {w : World} {k : Nat} {F : Nat → Prop} {m : OM} (h : SoAt w k F m) : ∀ i, F i → i < w.heap.size := by
  obtain ⟨v, c, f, l, h1, h2, _⟩ := h
  intro i hi
  rcases h2 with ⟨_, _, h⟩ | ⟨g, hs, _, h⟩
  · rw [(h i).1 hi]; exact h1.lt
  · rcases (h i).1 hi with rfl | rfl
    · exact h1.lt
    · exact hs.lt
theorem Sl.chg8 {F : Nat → Prop} {w w' : World} {t : TypeId} {v : Value} {l : List Value} {g : Nat} (h : Sl w t v l g) (hc : Chg F w w') (hg : ¬ F g) : Sl w' t v l g := by
  obtain ⟨sp, h1, h2, h3⟩ := h
  exact ⟨sp, h1, h2, h3.chg hc hg⟩
theorem so_aside {w w' : World} {k : Nat} {F F' : Nat → Prop} {m : OM} (h : SoAt w k F m) (hc : Chg F' w w') (hF : ∀ i, F i → ¬ F' i) : SoAt w' k F m := by
  obtain ⟨v, c, f, l, h1, h2, h3⟩ := h
  refine ⟨v, c, f, l, h1.chg hc (hF k h2.self), ?_, h3⟩
  rcases h2 with h | ⟨g, hs, hk, h⟩
  · exact .inl h
  · exact .inr ⟨g, hs.chg8 hc (hF g ((h g).2 (.inr rfl))), hk, h⟩
theorem so_most {most : Int} : ((OM.new most).most : Int) = min (max most 0) 65536 := by
  unfold OM.new
  show (((min (max most 0) 65536).toNat : Nat) : Int) = _
  omega
set_option maxHeartbeats 4000000 in
theorem so_new (w : World) (most : Int) (hm : InI most) : Calls Try.prog 11 #[.int .i64 most] w fun e w' => ∃ k F, e = .returned (.pointer (some ⟨k, 0, none⟩)) ∧ (∀ i, F i → w.heap.size ≤ i) ∧ SoAt w' k F (OM.new most) ∧ Below w.heap.size w w' := by
  have hM := so_most (most := most)
  have hfin : SoAt (w.alloc (.cells #[.int .i64 ((OM.new most).most : Int), .slice none 0 0, .int .i64 0, .bool false, .int .i64 0] 48)) w.heap.size (fun i => i = w.heap.size) (OM.new most) := by
    refine ⟨_, 0, false, [], Row.new w _ [.int .i64 (OM.new most).most, .slice none 0 0, .int .i64 0, .bool false, .int .i64 0], .inl ⟨rfl, rfl, fun i => Iff.rfl⟩, fun _ => ⟨rfl, ?_⟩⟩
    exact keeps_new _ _ _
  rw [hM] at hfin
  have HF := Lib.hid hfin
  clear hfin hM
  go_enter Try.func11, Try.ntmps11
  go_wp2
  go_returns
  first
    | exact ⟨w.heap.size, rfl, _, fun i hi => Nat.le_of_eq hi.symm, HF.out, (Below.refl _ _).alloc (Nat.le_refl _) _⟩
    | exact ⟨w.heap.size, _, rfl, fun i hi => Nat.le_of_eq hi.symm, HF.out, (Below.refl _ _).alloc (Nat.le_refl _) _⟩
theorem above0_any (x : Int) (w : World) : Calls Try.prog 31 #[.int .u8 x] w fun e w' => e = .returned (.bool (decide (0 < x))) ∧ w' = w := by
  go_enter Try.func31, Try.ntmps31
  go_wp2
  go_returns
  exact ⟨rfl, rfl⟩
theorem came_u8 {w : World} {o : Option Addr} {l : List Int} (h : Came w o (u8s l)) {i : Nat} (hi : i < l.length) : ∃ a, o = some a ∧ w.cell? (a.add i) = some (.int .u8 l[i]) := h i _ (u8s_at hi)
/-- Where the first one above 0 stands. -/
def firstUp : List Int → Option Nat
  | [] => none
  | x :: r => if 0 < x then some 0 else (firstUp r).map (· + 1)
set_option maxRecDepth 100000 in
set_option maxHeartbeats 4000000 in
theorem indexUp_any (o : Option Addr) (c : Nat) (l : List Int) (hl : l.length ≤ c) (hc : c ≤ maxLen) (w : World) (h : Came w o (u8s l)) :
    Calls Try.prog 36 #[.slice o l.length c, .func (.func 31) #[] #[]] w fun e w' => (∃ n : Int, e = .returned (.int .i64 n) ∧ (0 ≤ n ↔ ∃ x ∈ l, 0 < x)) ∧ w' = w := by
  have hm9 : (l.length : Int) ≤ 9223372036854775807 := by unfold maxLen at hc; omega
  have HC := Lib.hid h
  have hmx : l.length ≤ maxLen := by omega
  clear h
  go_enter Try.func36, Try.ntmps36
  go_wp2_with fail
  go_loopg [8] l.length (fun gk iv wr => ∃ i : Nat, iv = .int .i64 (i : Int) ∧ i ≤ l.length ∧ l.length - i ≤ gk ∧ w = wr ∧ Hid (∀ j (hj : j < l.length), j < i → ¬ 0 < l[j]))
  case atStart => exact ⟨0, rfl, by omega, by omega, rfl, Lib.hid (fun j _ h => by omega)⟩
  case round =>
    obtain ⟨i, rfl, hi, hgk, rfl, HP⟩ := hrel
    by_cases hlt : i < l.length
    · have hlt2 : (i : Int) < (l.length : Int) := by omega
      obtain ⟨ad, rfl, hx⟩ := came_u8 HC.out hlt
      have hc1 : i < c := by omega
      have HQ := Lib.hid (above0_any l[i] w)
      by_cases hg : 0 < l[i]
      · have HT : Hid (∃ x ∈ l, 0 < x) := Lib.hid ⟨l[i], List.getElem_mem hlt, hg⟩
        have hd : decide (0 < l[i]) = true := decide_eq_true hg
        generalize l[i] = x at *
        clear HP HC
        go_wp2_with fail
        refine HQ.out.mono ?_
        rintro e w1 ⟨rfl, rfl⟩
        rw [hd]
        go_wp2_with fail
        go_returns
        exact ⟨⟨_, rfl, fun _ => HT.out, fun _ => by omega⟩, rfl⟩
      · have hd : decide (0 < l[i]) = false := decide_eq_false hg
        have HP2 : Hid (∀ j (hj : j < l.length), j < i + 1 → ¬ 0 < l[j]) := Lib.hid (fun j hj h => by
          by_cases e : j = i
          · subst e; exact hg
          · exact HP.out j hj (by omega))
        generalize hxx : l[i] = x at *
        clear HP hxx
        go_wp2_with fail
        refine HQ.out.mono ?_
        rintro e w1 ⟨rfl, rfl⟩
        rw [hd]
        go_wp2_with fail
        go_roundg (l.length - (i + 1))
        case measure => omega
        case rel => exact ⟨i + 1, by simp, by omega, by omega, rfl, HP2⟩
    · have hlt2 : ¬ (i : Int) < (l.length : Int) := by omega
      have HF : Hid (¬ ∃ x ∈ l, 0 < x) := Lib.hid (by
        rintro ⟨x, hx, h0⟩
        obtain ⟨j, hj, rfl⟩ := List.getElem_of_mem hx
        exact HP.out j hj (by omega) h0)
      clear HP HC
      go_wp2_with fail
      go_returns
      exact ⟨⟨_, rfl, fun h => by omega, fun h => absurd h HF.out⟩, rfl⟩
theorem containsUp_any (o : Option Addr) (c : Nat) (l : List Int) (hl : l.length ≤ c) (hc : c ≤ maxLen) (w : World) (h : Came w o (u8s l)) (B : Bool) (hB : B = true ↔ ∃ x ∈ l, 0 < x) :
    Calls Try.prog 30 #[.slice o l.length c, .func (.func 31) #[] #[]] w fun e w' => e = .returned (.bool B) ∧ w' = w := by
  have HI := Lib.hid (indexUp_any o c l hl hc w h)
  have HB := Lib.hid hB
  clear h hB
  go_enter Try.func30, Try.ntmps30
  go_wp2_with fail
  refine HI.out.mono ?_
  rintro e w1 ⟨⟨n, rfl, hn⟩, rfl⟩
  have hd : decide (0 ≤ n) = B := by
    cases B with
    | true => exact decide_eq_true (hn.2 (HB.out.1 rfl))
    | false => exact decide_eq_false (fun h => by have := HB.out.2 (hn.1 h); cases this)
  clear hn HB HI
  go_wp2_with fail
  go_returns
  exact ⟨by rw [← hd]; rfl, rfl⟩
end Go.Proofs.Ytnlhpldjficecaa
