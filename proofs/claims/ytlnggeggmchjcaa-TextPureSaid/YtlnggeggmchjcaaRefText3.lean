/- What the reference's Can and Wrong of strings give. Of every tag and number, and every text of at most a million bytes. -/
import Derived.Test.YtlnggeggmchjcaaRefText2
import Derived.Deep.LoopGhost
namespace Go.Proofs.Ytlnggeggmchjcaa
open Go.RowKit Go.PlainAid
set_option linter.unusedVariables false
/-- So many bytes make a front a whole character. -/
def tryP (r : List Int) (j : Nat) : Prop := frontOk r ∧ sz (g r 0) = r.length + j
theorem g_rep (j : Nat) (v : Int) (i : Nat) (h : i < j) : g (List.replicate j v) i = v := by
  rw [g_at (by rw [List.length_replicate]; exact h), List.getElem_replicate]
theorem try_of {r : List Int} {j : Nat} {v : Int} (h1 : 1 ≤ r.length) (hj : 1 ≤ j) (h : charN (r ++ List.replicate j v) 0 = r.length + j) : tryP r j := by
  have e0 : g (r ++ List.replicate j v) 0 = g r 0 := g_left (by omega)
  unfold charN at h
  split at h
  · rename_i hc
    obtain ⟨_, h2⟩ := hc
    rw [e0] at h h2
    refine ⟨⟨h1, by omega, fun i hi h5 => ?_⟩, h⟩
    have := h2 i (by omega) h5
    rwa [Nat.zero_add, g_left hi] at this
  · omega
theorem of_try {r : List Int} {j : Nat} (h1 : 1 ≤ r.length) (hj : 1 ≤ j) (h : tryP r j) :
    charN (r ++ List.replicate j 128) 0 = r.length + j ∨ charN (r ++ List.replicate j 191) 0 = r.length + j := by
  obtain ⟨⟨_, h2, h3⟩, h4⟩ := h
  have key : ∀ v : Int, 128 ≤ v → v ≤ 191 → (r.length = 1 → contOk (g r 0) 1 v) → charN (r ++ List.replicate j v) 0 = r.length + j := by
    intro v v0 v1 hv
    have e0 : g (r ++ List.replicate j v) 0 = g r 0 := g_left (by omega)
    unfold charN
    rw [e0, h4, if_pos]
    refine ⟨by rw [List.length_append, List.length_replicate]; omega, fun i hi h5 => ?_⟩
    rw [Nat.zero_add]
    by_cases hir : i < r.length
    · rw [g_left hir]; exact h3 i hir h5
    · rw [g_right (by omega), g_rep _ _ _ (by omega)]
      by_cases hi1 : i = 1
      · subst hi1; exact hv (by omega)
      · exact ⟨v0, v1, fun e => absurd e hi1⟩
  by_cases hc : g r 0 = 224 ∨ g r 0 = 240
  · exact .inr (key 191 (by decide) (by decide) (fun _ => ⟨by decide, by decide, fun _ => ⟨by omega, by omega, by omega, by omega⟩⟩))
  · exact .inl (key 128 (by decide) (by decide) (fun _ => ⟨by decide, by decide, fun _ => ⟨by omega, by omega, by omega, by omega⟩⟩))
theorem can_lastT {n : Int} {l : List Int} (h0 : 0 ≤ n) (h : lastK l = l.length) : canT 12 n l := by
  have hu := (lastK_spec l).1
  rw [h, List.take_length] at hu
  exact ⟨h0, .inl ⟨rfl, (uC_some hu).2 (.inl rfl)⟩⟩
theorem can_stuckT {l : List Int} (h : lastK l < l.length) : uR l = if frontOk (l.drop (lastK l)) ∧ (l.drop (lastK l)).length < sz (g (l.drop (lastK l)) 0) then some (l.drop (lastK l)) else none := by
  obtain ⟨hu, hk, h2⟩ := lastK_spec l
  rw [uR_stuck hu h (by rcases h2 with h2 | h2; omega; exact h2), g_dropT]
  rfl
theorem can_farT {n : Int} {l : List Int} (h : lastK l < l.length) (h3 : 3 < l.length - lastK l) : ¬ canT 12 n l := by
  rintro ⟨_, hc | hc⟩
  · have hu := can_stuckT h
    rw [if_neg (fun hh => by have := sz_le (g (l.drop (lastK l)) 0); have := hh.2; rw [List.length_drop] at this; omega)] at hu
    rw [uC_none hu] at hc
    exact absurd hc.2 (by decide)
  · exact hc.1 rfl
theorem can_tryT {n : Int} {l : List Int} (h0 : 0 ≤ n) (h : lastK l < l.length) (h3 : l.length - lastK l ≤ 3) :
    canT 12 n l ↔ ∃ j : Nat, 1 ≤ j ∧ j ≤ 3 ∧ (l.length : Int) + (j : Int) ≤ n ∧ tryP (l.drop (lastK l)) j := by
  have hd : (l.drop (lastK l)).length = l.length - lastK l := List.length_drop
  have hu := can_stuckT h
  have hz := sz_le (g (l.drop (lastK l)) 0)
  by_cases hc : frontOk (l.drop (lastK l)) ∧ (l.drop (lastK l)).length < sz (g (l.drop (lastK l)) 0)
  · rw [if_pos hc] at hu
    constructor
    · rintro ⟨_, hh | hh⟩
      · rcases (uC_some hu).1 hh.2 with h5 | h5
        · have := congrArg List.length h5
          rw [hd] at this; simp at this; omega
        · exact ⟨sz (g (l.drop (lastK l)) 0) - (l.drop (lastK l)).length, by omega, by omega, by omega, hc.1, by omega⟩
      · exact absurd rfl hh.1
    · rintro ⟨j, j1, j3, hn, ht⟩
      refine ⟨h0, .inl ⟨rfl, (uC_some hu).2 (.inr ?_)⟩⟩
      have := ht.2
      omega
  · rw [if_neg hc] at hu
    constructor
    · rintro ⟨_, hh | hh⟩
      · rw [uC_none hu] at hh; exact absurd hh.2 (by decide)
      · exact absurd rfl hh.1
    · rintro ⟨j, j1, _, _, ht⟩
      exact absurd ⟨ht.1, by have := ht.2; omega⟩ hc
theorem can_otherT {tag n : Int} {l : List Int} (h0 : 0 ≤ n) (ht : tag ≠ 12) : canT tag n l ↔ rightT tag l := by
  rw [right_plain ht]
  exact ⟨fun h => by rcases h.2 with h | h; exact absurd h.1 ht; exact h.2, fun h => ⟨h0, .inr ⟨ht, h⟩⟩⟩
theorem bl_rep (s : ByteArray) (i : Nat) (v : Int) (h0 : 0 ≤ v) (h1 : v ≤ 255) : bl (s ++ strOfNums (List.replicate i v)) = bl s ++ List.replicate i v := by
  rw [bl_append, bl_str]
  induction i with
  | zero => exact IsB.nil
  | succ i ih => exact IsB.cons h0 h1 ih
theorem rep_snoc (s : ByteArray) (i : Nat) (v : Int) (h0 : 0 ≤ v) (h1 : v ≤ 255) : (s ++ strOfNums (List.replicate i v)) ++ strOfNums [v] = s ++ strOfNums (List.replicate (i + 1) v) := by
  refine bl_inj ?_
  rw [bl_append, bl_rep _ _ _ h0 h1, bl_rep _ _ _ h0 h1, bl_str (IsB.cons h0 h1 IsB.nil), List.append_assoc, List.replicate_succ']
theorem rep_snocL (l : List Int) (i : Nat) (v : Int) : (l ++ List.replicate i v) ++ [v] = l ++ List.replicate (i + 1) v := by
  rw [List.append_assoc, List.replicate_succ']
set_option maxRecDepth 100000 in
set_option maxHeartbeats 16000000 in
theorem refTextCan_any (tag n : Int) (s : ByteArray) (hs : s.size ≤ 900000) (w : World) :
    Calls Try.prog 14 #[.int .i64 tag, .int .i64 n, .string s] w fun e w' => e = .returned (.bool (decide (canT tag n (bl s)))) ∧ Below w.heap.size w w' := by
  have hb9 : (s.size : Int) ≤ 900000 := by omega
  by_cases h0 : n < 0
  · have HF : Hid (false = decide (canT tag n (bl s))) := Lib.hid (decide_eq_false (fun h => by have := h.1; omega)).symm
    generalize decide (canT tag n (bl s)) = B at *
    go_enter Try.func14, Try.ntmps14
    go_wp2
    go_returns
    exact ⟨rets1 (congrArg Value.bool HF.out), Below.refl _ _⟩
  · have hn0 : 0 ≤ n := by omega
    by_cases ht : tag = 12
    · subst ht
      have HL := Lib.hid (refLast_any s (by omega))
      have hK := (lastK_spec (bl s)).2.1
      rw [bl_length] at hK
      by_cases hfar : 3 < (s.size : Int) - (lastK (bl s) : Int)
      · have HF : Hid (false = decide (canT 12 n (bl s))) := Lib.hid (decide_eq_false (can_farT (by rw [bl_length]; omega) (by rw [bl_length]; omega))).symm
        rw [show lastI (bl s) = -1 by unfold lastI; rw [bl_length, if_pos hfar]] at HL
        generalize decide (canT 12 n (bl s)) = B at *
        clear hfar hK
        go_enter Try.func14, Try.ntmps14
        go_wp2_with fail
        refine (HL.out _).mono ?_
        rintro e w1 ⟨rfl, rfl⟩
        go_wp2
        go_returns
        exact ⟨rets1 (congrArg Value.bool HF.out), Below.refl _ _⟩
      · rw [show lastI (bl s) = (lastK (bl s) : Int) by unfold lastI; rw [bl_length, if_neg hfar]] at HL
        by_cases hend : lastK (bl s) = s.size
        · have HF : Hid (true = decide (canT 12 n (bl s))) := Lib.hid (decide_eq_true (can_lastT hn0 (by rw [bl_length]; exact hend))).symm
          rw [hend] at HL
          generalize decide (canT 12 n (bl s)) = B at *
          clear hfar hK hend
          go_enter Try.func14, Try.ntmps14
          go_wp2_with fail
          refine (HL.out _).mono ?_
          rintro e w1 ⟨rfl, rfl⟩
          go_wp2
          go_returns
          exact ⟨rets1 (congrArg Value.bool HF.out), Below.refl _ _⟩
        · have HT := Lib.hid (can_tryT (n := n) (l := bl s) hn0 (by rw [bl_length]; omega) (by rw [bl_length]; omega))
          rw [bl_length] at HT
          have hx := bl_extract s (lastK (bl s)) s.size (Nat.le_refl _)
          rw [List.take_of_length_le (by rw [List.length_drop, bl_length]; omega)] at hx
          rw [← hx] at HT
          obtain ⟨K, hKe⟩ : ∃ K, lastK (bl s) = K := ⟨_, rfl⟩
          rw [hKe] at hK hfar hend HL HT
          have hne : ((K : Int) == (s.size : Int)) = false := by simp; omega
          have hKi : (K : Int) ≤ (s.size : Int) := by omega
          have hr1 : 1 ≤ (s.extract K s.size).size ∧ (s.extract K s.size).size ≤ 900000 := by rw [ByteArray.size_extract]; omega
          obtain ⟨r, hr⟩ : ∃ r, s.extract K s.size = r := ⟨_, rfl⟩
          rw [hr] at hr1 HT
          obtain ⟨r1, r2⟩ := hr1
          have HTO : Hid (∀ (j : Nat) (v : Int), 1 ≤ j → charN (bl r ++ List.replicate j v) 0 = r.size + j → tryP (bl r) j) := Lib.hid (fun j v hj h => try_of (by rw [bl_length]; exact r1) hj (by rw [bl_length]; exact h))
          have HOT : Hid (∀ (j : Nat), 1 ≤ j → charN (bl r ++ List.replicate j 128) 0 ≠ r.size + j → charN (bl r ++ List.replicate j 191) 0 ≠ r.size + j → ¬ tryP (bl r) j) := Lib.hid (fun j hj h1 h2 h => by
            rcases of_try (by rw [bl_length]; exact r1) hj h with h3 | h3
            · rw [bl_length] at h3; exact h1 h3
            · rw [bl_length] at h3; exact h2 h3)
          generalize hB : decide (canT 12 n (bl s)) = B at *
          have HF : Hid (B = true ↔ ∃ j : Nat, 1 ≤ j ∧ j ≤ 3 ∧ (s.size : Int) + (j : Int) ≤ n ∧ tryP (bl r) j) := Lib.hid (by rw [← hB, decide_eq_true_eq]; exact HT.out)
          clear hx hKe hfar hend HT hB h0 hK
          go_enter Try.func14, Try.ntmps14
          go_wp2_with fail
          refine (HL.out _).mono ?_
          rintro e w1 ⟨rfl, rfl⟩
          go_wp2
          clear HL
          go_loopg [8] 3 (fun gn kv wr => ∃ k : Nat, kv = .int .i64 (k : Int) ∧ 1 ≤ k ∧ k ≤ 4 ∧ gn = 4 - k ∧ Hid (Below w1.heap.size w1 wr) ∧ Hid (∀ j : Nat, 1 ≤ j → j < k → ¬ tryP (bl r) j))
          case atStart => exact ⟨1, rfl, by omega, by omega, rfl, Lib.hid (Below.refl _ _), Lib.hid (fun j h1 h2 => by omega)⟩
          case round =>
            obtain ⟨k, rfl, hk1, hk4, rfl, HBW, HN⟩ := hrel
            by_cases hlt : k < 4
            · have hlti : (k : Int) < 4 := by omega
              by_cases hle : (s.size : Int) + (k : Int) ≤ n
              · go_wp2
                go_loopg [9] 2 (fun gn bv wr => ∃ b : Nat, bv = .int .i64 (b : Int) ∧ b ≤ 2 ∧ gn = 2 - b ∧ Hid (Below w1.heap.size w1 wr) ∧ Hid (∀ c : Nat, c < b → charN (bl r ++ List.replicate k (128 + 63 * (c : Int))) 0 ≠ r.size + k))
                case atStart => exact ⟨0, rfl, by omega, rfl, HBW, Lib.hid (fun c hc => by omega)⟩
                case round =>
                  clear HBW
                  obtain ⟨b, rfl, hb2, rfl, HBW, HC⟩ := hrel
                  rcases (by omega : b = 0 ∨ b = 1 ∨ b = 2) with rfl | rfl | rfl
                  · go_wp2
                    go_loopg [10, 11] k (fun gn tv iv wr => ∃ (i : Nat) (t : ByteArray), iv = .int .i64 (i : Int) ∧ tv = .string t ∧ i ≤ k ∧ gn = k - i ∧ Hid (Below w1.heap.size w1 wr) ∧ Hid (bl t = bl r ++ List.replicate i 128) ∧ t.size = r.size + i)
                    case atStart => exact ⟨0, r, rfl, rfl, by omega, rfl, HBW, Lib.hid (by simp), rfl⟩
                    case round =>
                      clear HBW
                      obtain ⟨i, t, rfl, rfl, hik, rfl, HBW, HTB, hts⟩ := hrel
                      by_cases hilt : i < k
                      · have hilti : (i : Int) < (k : Int) := by omega
                        have hcv := conv_one wr 128
                        have hmx : ¬ 9223372036854775807 < t.size + (strOfNums [128]).size := by rw [strOfNums_size]; simp only [List.length_cons, List.length_nil]; omega
                        have HB2 := Lib.hid (HBW.out.alloc HBW.out.size (.cells #[.int .u8 128] 5))
                        have HTB2 : Hid (bl (t ++ strOfNums [128]) = bl r ++ List.replicate (i + 1) 128) := Lib.hid (by rw [bl_append, HTB.out, bl_str (IsB.cons (by decide) (by decide) IsB.nil), rep_snocL])
                        have hts2 : (t ++ strOfNums [128]).size = r.size + (i + 1) := by rw [ByteArray.size_append, strOfNums_size]; simp only [List.length_cons, List.length_nil]; omega
                        have HTS2 := Lib.hid hts2
                        clear HTB hts2 HBW
                        go_wp2
                        go_roundg (k - (i + 1))
                        case measure => omega
                        case rel => exact ⟨i + 1, t ++ strOfNums [128], by simp, rfl, by omega, rfl, HB2, HTB2, HTS2.out⟩
                      · have hige : ¬ (i : Int) < (k : Int) := by omega
                        obtain rfl : i = k := by omega
                        have HCH : Hid (∀ W, Calls Try.prog 20 #[.string t, .int .i64 0] W fun e w' => e = .returned (.int .i64 (charN (bl t) 0 : Int)) ∧ w' = W) := Lib.hid (fun W => refChar_any t 0 (by omega) (by omega) W)
                        rw [HTB.out] at HCH
                        have HTOk := Lib.hid (HTO.out i 128 hk1)
                        have HCN : Hid (charN (bl r ++ List.replicate i 128) 0 ≠ r.size + i → ∀ c : Nat, c < 1 → charN (bl r ++ List.replicate i (128 + 63 * (c : Int))) 0 ≠ r.size + i) := Lib.hid (fun h c hc => by
                          rcases (by omega : c = 0) with rfl
                          exact h)
                        generalize charN (bl r ++ List.replicate i 128) 0 = C at *
                        rw [← hts] at HTOk HCN
                        clear HTB HC
                        by_cases he : C = t.size
                        · have heb : ((C : Int) == (t.size : Int)) = true := by rw [he]; simp
                          have HR : Hid (true = B) := Lib.hid (HF.out.2 ⟨i, hk1, by omega, hle, HTOk.out he⟩).symm
                          clear he HCN HTOk HF HTO HOT HN
                          go_wp2_with fail
                          refine (HCH.out _).mono ?_
                          rintro e w2 ⟨rfl, h2⟩
                          have h2 := h2.symm
                          subst h2
                          go_wp2
                          go_returns
                          exact ⟨rets1 (congrArg Value.bool HR.out), HBW.out⟩
                        · have heb : ((C : Int) == (t.size : Int)) = false := by simp; omega
                          have HC2 := Lib.hid (HCN.out he)
                          rw [hts] at HC2
                          clear he HCN HTOk
                          go_wp2_with fail
                          refine (HCH.out _).mono ?_
                          rintro e w2 ⟨rfl, h2⟩
                          have h2 := h2.symm
                          subst h2
                          go_wp2
                          go_roundg 1
                          case measure => decide
                          case rel => exact ⟨1, by simp, by omega, rfl, HBW, HC2⟩
                  · go_wp2
                    go_loopg [10, 11] k (fun gn tv iv wr => ∃ (i : Nat) (t : ByteArray), iv = .int .i64 (i : Int) ∧ tv = .string t ∧ i ≤ k ∧ gn = k - i ∧ Hid (Below w1.heap.size w1 wr) ∧ Hid (bl t = bl r ++ List.replicate i 191) ∧ t.size = r.size + i)
                    case atStart => exact ⟨0, r, rfl, rfl, by omega, rfl, HBW, Lib.hid (by simp), rfl⟩
                    case round =>
                      clear HBW
                      obtain ⟨i, t, rfl, rfl, hik, rfl, HBW, HTB, hts⟩ := hrel
                      by_cases hilt : i < k
                      · have hilti : (i : Int) < (k : Int) := by omega
                        have hcv := conv_one wr 191
                        have hmx : ¬ 9223372036854775807 < t.size + (strOfNums [191]).size := by rw [strOfNums_size]; simp only [List.length_cons, List.length_nil]; omega
                        have HB2 := Lib.hid (HBW.out.alloc HBW.out.size (.cells #[.int .u8 191] 5))
                        have HTB2 : Hid (bl (t ++ strOfNums [191]) = bl r ++ List.replicate (i + 1) 191) := Lib.hid (by rw [bl_append, HTB.out, bl_str (IsB.cons (by decide) (by decide) IsB.nil), rep_snocL])
                        have hts2 : (t ++ strOfNums [191]).size = r.size + (i + 1) := by rw [ByteArray.size_append, strOfNums_size]; simp only [List.length_cons, List.length_nil]; omega
                        have HTS2 := Lib.hid hts2
                        clear HTB hts2 HBW
                        go_wp2
                        go_roundg (k - (i + 1))
                        case measure => omega
                        case rel => exact ⟨i + 1, t ++ strOfNums [191], by simp, rfl, by omega, rfl, HB2, HTB2, HTS2.out⟩
                      · have hige : ¬ (i : Int) < (k : Int) := by omega
                        obtain rfl : i = k := by omega
                        have HCH : Hid (∀ W, Calls Try.prog 20 #[.string t, .int .i64 0] W fun e w' => e = .returned (.int .i64 (charN (bl t) 0 : Int)) ∧ w' = W) := Lib.hid (fun W => refChar_any t 0 (by omega) (by omega) W)
                        rw [HTB.out] at HCH
                        have HTOk := Lib.hid (HTO.out i 191 hk1)
                        have HCN : Hid (charN (bl r ++ List.replicate i 191) 0 ≠ r.size + i → ∀ c : Nat, c < 2 → charN (bl r ++ List.replicate i (128 + 63 * (c : Int))) 0 ≠ r.size + i) := Lib.hid (fun h c hc => by
                          rcases (by omega : c = 0 ∨ c = 1) with rfl | rfl
                          · exact HC.out 0 (by decide)
                          · exact h)
                        generalize charN (bl r ++ List.replicate i 191) 0 = C at *
                        rw [← hts] at HTOk HCN
                        clear HTB HC
                        by_cases he : C = t.size
                        · have heb : ((C : Int) == (t.size : Int)) = true := by rw [he]; simp
                          have HR : Hid (true = B) := Lib.hid (HF.out.2 ⟨i, hk1, by omega, hle, HTOk.out he⟩).symm
                          clear he HCN HTOk HF HTO HOT HN
                          go_wp2_with fail
                          refine (HCH.out _).mono ?_
                          rintro e w2 ⟨rfl, h2⟩
                          have h2 := h2.symm
                          subst h2
                          go_wp2
                          go_returns
                          exact ⟨rets1 (congrArg Value.bool HR.out), HBW.out⟩
                        · have heb : ((C : Int) == (t.size : Int)) = false := by simp; omega
                          have HC2 := Lib.hid (HCN.out he)
                          rw [hts] at HC2
                          clear he HCN HTOk
                          go_wp2_with fail
                          refine (HCH.out _).mono ?_
                          rintro e w2 ⟨rfl, h2⟩
                          have h2 := h2.symm
                          subst h2
                          go_wp2
                          go_roundg 0
                          case measure => decide
                          case rel => exact ⟨2, by simp, by omega, rfl, HBW, HC2⟩
                  · have HN2 : Hid (∀ j : Nat, 1 ≤ j → j < k + 1 → ¬ tryP (bl r) j) := Lib.hid (fun j h1 h2 => by
                      by_cases hjk : j = k
                      · subst hjk
                        exact HOT.out j h1 (HC.out 0 (by decide)) (HC.out 1 (by decide))
                      · exact HN.out j h1 (by omega))
                    clear HN HC
                    go_wp2
                    go_roundg (4 - (k + 1))
                    case measure => omega
                    case rel => exact ⟨k + 1, by simp, by omega, by omega, rfl, HBW, HN2⟩
              · have HR : Hid (false = B) := Lib.hid (by
                  refine (Bool.eq_false_iff.2 (fun h => ?_)).symm
                  obtain ⟨j, j1, j3, jn, jt⟩ := HF.out.1 h
                  by_cases hjk : j < k
                  · exact HN.out j j1 hjk jt
                  · omega)
                clear HF HN
                go_wp2
                go_returns
                exact ⟨rets1 (congrArg Value.bool HR.out), HBW.out⟩
            · have hge : ¬ (k : Int) < 4 := by omega
              have HR : Hid (false = B) := Lib.hid (by
                refine (Bool.eq_false_iff.2 (fun h => ?_)).symm
                obtain ⟨j, j1, j3, jn, jt⟩ := HF.out.1 h
                exact HN.out j j1 (by omega) jt)
              clear HF HN
              go_wp2
              go_returns
              exact ⟨rets1 (congrArg Value.bool HR.out), HBW.out⟩
    · have htb : (tag != 12) = true := by simpa using ht
      have HC := Lib.hid (refTextCheck_any tag s (by omega))
      rw [decide_eq_decide.2 (can_otherT (n := n) (l := bl s) hn0 ht).symm] at HC
      generalize decide (canT tag n (bl s)) = B at *
      clear ht h0
      go_enter Try.func14, Try.ntmps14
      go_wp2_with fail
      refine (HC.out _).mono ?_
      rintro e w1 ⟨rfl, rfl⟩
      go_wp2
      go_returns
      exact ⟨rfl, Below.refl _ _⟩
end Go.Proofs.Ytlnggeggmchjcaa
