/- What the reference's Can and Wrong of times give. Of every tag and length, and every text of at most a million bytes. -/
import Derived.Test.YthjncfpgmfbehaaDoorRefWhen5
namespace Go.Proofs.YthjncfpgmfbehaaDoor
open Go.RowKit Go.PlainAid
set_option linter.unusedVariables false
theorem stepAt_low {L : List Int} {i : Nat} (h : i ≤ 3) : stepAt L i ↔ isD (g L i) :=
  ⟨fun h => h.1, fun h2 => ⟨h2, fun e => by omega, fun e => by omega, fun e => by omega, fun e => by omega, fun e => by omega, fun e => by omega, fun e => by omega, fun e => by omega⟩⟩
theorem can_front_utc {l : List Int} (hl : l.length ≤ 2) : canP 23 13 l ↔ plainP l := by
  unfold canP okC plainP
  have key : ∀ i, i < l.length → (stepC 23 13 l i ↔ isD (g l i)) := by
    intro i hi
    have hg : g (fullP 23 l) (i + 2) = g l i := by unfold fullP; rw [if_neg (by decide), g_right (by rw [cent_length]; omega), cent_length, Nat.add_sub_cancel]
    unfold stepC
    have hs : stepAt (fullP 23 l) (i + offT 23) ↔ isD (g l i) := by
      show stepAt (fullP 23 l) (i + 2) ↔ _
      rw [stepAt_low (by omega), hg]
    rw [hs]
    exact ⟨fun h => (h.2 (by omega)).1, fun h => ⟨fun e => by omega, fun _ => ⟨h, fun e => absurd e (by decide)⟩⟩⟩
  exact ⟨fun h i hi => (key i hi).1 (h.2.2 i hi), fun h => ⟨.inl ⟨rfl, rfl⟩, by omega, fun i hi => (key i hi).2 (h i hi)⟩⟩
theorem can_front_gen {l : List Int} (hl : l.length ≤ 4) : canP 24 15 l ↔ plainP l ∧ ∀ i, i < l.length → yearAt l i := by
  unfold canP okC plainP
  have key : ∀ i, i < l.length → (stepC 24 15 l i ↔ isD (g l i) ∧ yearAt l i) := by
    intro i hi
    unfold stepC
    have hs : stepAt (fullP 24 l) (i + offT 24) ↔ isD (g l i) := by
      show stepAt l i ↔ _
      rw [stepAt_low (by omega)]
    rw [hs]
    exact ⟨fun h => ⟨(h.2 (by omega)).1, (h.2 (by omega)).2 rfl⟩, fun h => ⟨fun e => by omega, fun _ => ⟨h.1, fun _ => h.2⟩⟩⟩
  exact ⟨fun h => ⟨fun i hi => ((key i hi).1 (h.2.2 i hi)).1, fun i hi => ((key i hi).1 (h.2.2 i hi)).2⟩, fun h => ⟨.inr ⟨rfl, rfl⟩, by omega, fun i hi => (key i hi).2 ⟨h.1 i hi, h.2 i hi⟩⟩⟩
theorem can_typ {tag n : Int} {l : List Int} (h : ¬ typ tag n) : ¬ canP tag n l := fun hc => h hc.1
set_option maxRecDepth 100000 in
set_option maxHeartbeats 4000000 in
theorem refCan_any (tag n : Int) (s : ByteArray) (hs : s.size ≤ 1000000) (w : World) :
    Calls Tryd.prog 20 #[.int .i64 tag, .int .i64 n, .string s] w fun e w' => e = .returned (.bool (decide (canP tag n (bl s)))) ∧ Below w.heap.size w w' := by
  have hb9 : (s.size : Int) ≤ 1000000 := by omega
  have HPL := Lib.hid (refPlain_any s hs)
  by_cases h23 : tag = 23
  · subst h23
    by_cases hn : n = 13
    · subst hn
      by_cases hl : (s.size : Int) ≤ 2
      · have HF : Hid (decide (plainP (bl s)) = decide (canP 23 13 (bl s))) := Lib.hid (decide_eq_decide.2 (can_front_utc (l := bl s) (by rw [bl_length]; omega)).symm)
        generalize decide (plainP (bl s)) = Y at *
        generalize decide (canP 23 13 (bl s)) = B at *
        cases Y
        all_goals
          go_enter Tryd.func20, Tryd.ntmps20
          go_wp2_with fail
          refine (HPL.out _).mono ?_
          rintro e w' ⟨rfl, rfl⟩
          go_wp2
          go_returns
          exact ⟨rets1 (congrArg Value.bool HF.out), Below.refl _ _⟩
      · have HG := Lib.hid (refGrow_any 23 13 (.inl ⟨rfl, rfl⟩) 13 s hs (by omega) (by omega))
        generalize decide (canP 23 13 (bl s)) = B at *
        go_enter Tryd.func20, Tryd.ntmps20
        go_wp2_with fail
        refine (HG.out _).mono ?_
        rintro e w1 ⟨rfl, hb⟩
        go_wp2
        go_returns
        exact ⟨rfl, hb⟩
    · have hnb : (n != 13) = true := by simpa using hn
      have HF : Hid (false = decide (canP 23 n (bl s))) := Lib.hid (decide_eq_false (can_typ (fun h => by rcases h with ⟨_, h⟩ | ⟨h, _⟩; exact hn h; exact absurd h (by decide)))).symm
      generalize decide (canP 23 n (bl s)) = B at *
      clear hn
      go_enter Tryd.func20, Tryd.ntmps20
      go_wp2
      go_returns
      exact ⟨rets1 (congrArg Value.bool HF.out), Below.refl _ _⟩
  · have hb23 : (tag == 23) = false := by simpa using h23
    have hc23 : (tag != 23) = true := by simpa using h23
    by_cases h24 : tag = 24
    · subst h24
      clear h23 hb23 hc23
      by_cases hn : n = 15
      · subst hn
        by_cases hl : (s.size : Int) ≤ 4
        · have HCF := Lib.hid (can_front_gen (l := bl s) (by rw [bl_length]; omega))
          by_cases hp : plainP (bl s)
          · have HY := Lib.hid (refYear_any s (by omega) hp)
            rw [decide_eq_true hp] at HPL
            have HF : Hid (decide (∀ i, i < (bl s).length → yearAt (bl s) i) = decide (canP 24 15 (bl s))) := Lib.hid (decide_eq_decide.2 ⟨fun h => HCF.out.2 ⟨hp, h⟩, fun h => (HCF.out.1 h).2⟩)
            generalize decide (∀ i, i < (bl s).length → yearAt (bl s) i) = Y at *
            generalize decide (canP 24 15 (bl s)) = B at *
            clear HCF hp
            cases Y
            all_goals
              go_enter Tryd.func20, Tryd.ntmps20
              go_wp2_with fail
              refine (HPL.out _).mono ?_
              rintro e w' ⟨rfl, rfl⟩
              go_wp2_with fail
              refine (HY.out _).mono ?_
              rintro e w' ⟨rfl, rfl⟩
              go_wp2
              go_returns
              exact ⟨rets1 (congrArg Value.bool HF.out), Below.refl _ _⟩
          · rw [decide_eq_false hp] at HPL
            have HF : Hid (false = decide (canP 24 15 (bl s))) := Lib.hid (decide_eq_false (fun h => hp (HCF.out.1 h).1)).symm
            generalize decide (canP 24 15 (bl s)) = B at *
            clear HCF hp
            go_enter Tryd.func20, Tryd.ntmps20
            go_wp2_with fail
            refine (HPL.out _).mono ?_
            rintro e w' ⟨rfl, rfl⟩
            go_wp2
            go_returns
            exact ⟨rets1 (congrArg Value.bool HF.out), Below.refl _ _⟩
        · have HG := Lib.hid (refGrow_any 24 15 (.inr ⟨rfl, rfl⟩) 15 s hs (by omega) (by omega))
          generalize decide (canP 24 15 (bl s)) = B at *
          go_enter Tryd.func20, Tryd.ntmps20
          go_wp2_with fail
          refine (HG.out _).mono ?_
          rintro e w1 ⟨rfl, hb⟩
          go_wp2
          go_returns
          exact ⟨rfl, hb⟩
      · have hnb : (n != 15) = true := by simpa using hn
        have HF : Hid (false = decide (canP 24 n (bl s))) := Lib.hid (decide_eq_false (can_typ (fun h => by rcases h with ⟨h, _⟩ | ⟨_, h⟩; exact absurd h (by decide); exact hn h))).symm
        generalize decide (canP 24 n (bl s)) = B at *
        clear hn
        go_enter Tryd.func20, Tryd.ntmps20
        go_wp2
        go_returns
        exact ⟨rets1 (congrArg Value.bool HF.out), Below.refl _ _⟩
    · have hb24 : (tag == 24) = false := by simpa using h24
      have hc24 : (tag != 24) = true := by simpa using h24
      have HF : Hid (false = decide (canP tag n (bl s))) := Lib.hid (decide_eq_false (can_typ (fun h => by rcases h with ⟨h, _⟩ | ⟨h, _⟩; exact h23 h; exact h24 h))).symm
      generalize decide (canP tag n (bl s)) = B at *
      clear h23 h24
      go_enter Tryd.func20, Tryd.ntmps20
      go_wp2
      go_returns
      exact ⟨rets1 (congrArg Value.bool HF.out), Below.refl _ _⟩
/-! ### With which byte -/
def whF (tag n : Int) (l : List Int) : Nat → Nat → Int
  | 0, _ => -1
  | k + 1, i => if canP tag n (l.take i) then whF tag n l k (i + 1) else i
/-- With which byte a content of n bytes, of which these came, is wrong. -/
def whW (tag n : Int) (l : List Int) : Int := whF tag n l (l.length + 1) 0
theorem whF_spec (tag n : Int) (l : List Int) : ∀ k i, (whF tag n l k i = -1 ∧ ∀ j, i ≤ j → j < i + k → canP tag n (l.take j)) ∨ (∃ m : Nat, i ≤ m ∧ m < i + k ∧ whF tag n l k i = (m : Int) ∧ ¬ canP tag n (l.take m) ∧ ∀ j, i ≤ j → j < m → canP tag n (l.take j)) := by
  intro k
  induction k with
  | zero => intro i; exact .inl ⟨rfl, fun j h1 h2 => by omega⟩
  | succ k ih =>
    intro i
    by_cases h : canP tag n (l.take i)
    · have e : whF tag n l (k + 1) i = whF tag n l k (i + 1) := by rw [whF, if_pos h]
      rw [e]
      rcases ih (i + 1) with ⟨h1, h2⟩ | ⟨m, h1, h2, h3, h4, h5⟩
      · refine .inl ⟨h1, fun j hj hk => ?_⟩
        by_cases hji : j = i
        · rw [hji]; exact h
        · exact h2 j (by omega) (by omega)
      · refine .inr ⟨m, by omega, by omega, h3, h4, fun j hj hk => ?_⟩
        by_cases hji : j = i
        · rw [hji]; exact h
        · exact h5 j (by omega) hk
    · exact .inr ⟨i, Nat.le_refl _, by omega, by rw [whF, if_neg h], h, fun j h1 h2 => by omega⟩
theorem wh_range (tag n : Int) (l : List Int) : -1 ≤ whW tag n l ∧ whW tag n l ≤ l.length := by
  unfold whW
  rcases whF_spec tag n l (l.length + 1) 0 with ⟨h, _⟩ | ⟨m, _, h2, h3, _⟩
  · rw [h]; omega
  · rw [h3]; omega
theorem can_nil {tag n : Int} : canP tag n [] ↔ typ tag n := by
  refine ⟨fun h => h.1, fun h => ⟨h, ?_, fun i hi => by simp at hi⟩⟩
  rcases h with ⟨_, h⟩ | ⟨_, h⟩ <;> rw [h] <;> decide
theorem wh_zero (tag n : Int) (l : List Int) : whW tag n l = 0 ↔ ¬ typ tag n := by
  unfold whW
  rcases whF_spec tag n l (l.length + 1) 0 with ⟨h, h2⟩ | ⟨m, _, h2, h3, h4, h5⟩
  · rw [h]
    refine ⟨fun e => by omega, fun e => ?_⟩
    have := h2 0 (Nat.le_refl _) (by omega)
    exact absurd (can_nil.1 this) e
  · rw [h3]
    refine ⟨fun e => ?_, fun e => ?_⟩
    · have : m = 0 := by omega
      rw [this] at h4
      exact fun ht => h4 (can_nil.2 ht)
    · by_cases hm : m = 0
      · rw [hm]; rfl
      · exact absurd (can_nil.1 (h5 0 (Nat.le_refl _) (by omega))) e
/-- Along a content: whether the next byte is the wrong one. -/
theorem wh_step (tag n : Int) (l : List Int) (i : Nat) (hi : i < l.length) (hn : (l.length : Int) ≤ n) (h : ¬ (0 ≤ whW tag n l ∧ whW tag n l ≤ i)) : whW tag n l = (i : Int) + 1 ↔ ¬ stepC tag n l i := by
  have key : canP tag n (l.take i) → (canP tag n (l.take (i + 1)) ↔ stepC tag n l i) := by
    rintro ⟨h1, h2, h3⟩
    unfold canP
    rw [okC_take _ _ _ _ (by omega)] at h3 ⊢
    rw [List.length_take]
    refine ⟨fun hh => hh.2.2 i (by omega), fun hh => ⟨h1, by omega, fun j hj => ?_⟩⟩
    by_cases hji : j = i
    · rw [hji]; exact hh
    · exact h3 j (by omega)
  unfold whW at *
  rcases whF_spec tag n l (l.length + 1) 0 with ⟨h1, h2⟩ | ⟨m, _, h2, h3, h4, h5⟩
  · rw [h1]
    refine ⟨fun e => by omega, fun e => ?_⟩
    exact absurd ((key (h2 i (by omega) (by omega))).1 (h2 (i + 1) (by omega) (by omega))) e
  · rw [h3] at h ⊢
    have hk := key (h5 i (by omega) (by omega))
    rw [← hk]
    refine ⟨fun e => ?_, fun e => ?_⟩
    · rw [show i + 1 = m by omega]; exact h4
    · by_cases hm : m = i + 1
      · rw [hm]; rfl
      · exact absurd (h5 (i + 1) (by omega) (by omega)) e
/-- A whole content is right just if it is wrong with no byte. -/
theorem wh_right (tag : Int) (l : List Int) : rightP tag l ↔ whW tag l.length l = -1 := by
  unfold whW
  rcases whF_spec tag l.length l (l.length + 1) 0 with ⟨h1, h2⟩ | ⟨m, _, h2, h3, h4, h5⟩
  · have := h2 l.length (by omega) (by omega)
    rw [List.take_length] at this
    exact ⟨fun _ => h1, fun _ => this⟩
  · rw [h3]
    refine ⟨fun hr => ?_, fun e => by omega⟩
    refine absurd ?_ h4
    obtain ⟨r1, r2, r3⟩ := hr
    refine ⟨r1, by rw [List.length_take]; omega, (okC_take _ _ _ _ (by omega)).2 (fun i hi => r3 i (by omega))⟩
set_option maxHeartbeats 1600000 in
theorem refWhenWrong_any (tag n : Int) (s : ByteArray) (hs : s.size ≤ 1000000) (w : World) :
    Calls Tryd.prog 10 #[.int .i64 tag, .int .i64 n, .string s] w fun e w' => e = .returned (.int .i64 (whW tag n (bl s))) ∧ Below w.heap.size w w' := by
  have hb9 : (s.size : Int) ≤ 1000000 := by omega
  have HC := Lib.hid (fun (i : Nat) (hi : i ≤ s.size) => (show bl (s.extract 0 i) = (bl s).take i by rw [bl_extract _ _ _ hi]; simp) ▸ refCan_any tag n (s.extract 0 i) (by rw [ByteArray.size_extract]; omega))
  have HW : Hid (whF tag n (bl s) (s.size + 1) 0 = whW tag n (bl s)) := Lib.hid (by unfold whW; rw [bl_length])
  have HS := Lib.hid (fun (k i : Nat) => show whF tag n (bl s) (k + 1) i = if canP tag n ((bl s).take i) then whF tag n (bl s) k (i + 1) else i from rfl)
  have H0 := Lib.hid (fun (i : Nat) => show whF tag n (bl s) 0 i = -1 from rfl)
  generalize whW tag n (bl s) = W at *
  go_enter Tryd.func10, Tryd.ntmps10
  go_wp2
  go_loopw [7] (fun iv wr => ∃ (i k : Nat), iv = .int .i64 (i : Int) ∧ i + k = s.size + 1 ∧ Hid (Below w.heap.size w wr) ∧ Hid (whF tag n (bl s) k i = W)) (fun iv _ => s.size + 1 - (intOf iv).toNat)
  case atStart => exact ⟨0, s.size + 1, rfl, by omega, Lib.hid (Below.refl _ _), HW⟩
  case round =>
    obtain ⟨i, k, rfl, hik, HB, HT⟩ := hrel
    by_cases hlt : i ≤ s.size
    · have hlti : (i : Int) ≤ (s.size : Int) := by omega
      obtain ⟨k, rfl⟩ : ∃ k', k = k' + 1 := ⟨k - 1, by omega⟩
      have HCI := Lib.hid (HC.out i hlt)
      have HST := Lib.hid ((HS.out k i).symm.trans HT.out)
      by_cases hc : canP tag n ((bl s).take i)
      · have HZ : Hid (whF tag n (bl s) k (i + 1) = W) := Lib.hid (by have := HST.out; rwa [if_pos hc] at this)
        rw [decide_eq_true hc] at HCI
        clear hc HST HT
        go_wp2_with fail
        refine (HCI.out _).mono ?_
        rintro e w1 ⟨rfl, hb⟩
        have HB2 := Lib.hid (HB.out.trans (hb.mono HB.out.size))
        go_wp2
        go_roundw
        case rel => exact ⟨i + 1, k, by simp, by omega, HB2, HZ⟩
        case measure => simp [intOf]; omega
      · have HZ : Hid ((i : Int) = W) := Lib.hid (by have := HST.out; rwa [if_neg hc] at this)
        rw [decide_eq_false hc] at HCI
        clear hc HST HT
        go_wp2_with fail
        refine (HCI.out _).mono ?_
        rintro e w1 ⟨rfl, hb⟩
        have HB2 := Lib.hid (HB.out.trans (hb.mono HB.out.size))
        go_wp2
        go_returns
        exact ⟨rets1 (congrArg (Value.int .i64) HZ.out), HB2.out⟩
    · have hne : ¬ (i : Int) ≤ (s.size : Int) := by omega
      have hk0 : k = 0 := by omega
      subst hk0
      have HZ : Hid (-1 = W) := Lib.hid ((H0.out i).symm.trans HT.out)
      go_wp2
      go_returns
      exact ⟨rets1 (congrArg (Value.int .i64) HZ.out), HB.out⟩
end Go.Proofs.YthjncfpgmfbehaaDoor
