/- What Primes, dividedByNone and the reference's Prime give. -/
import Derived.Test.YtlolkelkbanhjaaRoots
import Derived.Test.YtlolkelkbanhjaaPrime
namespace Go.Proofs.Ytlolkelkbanhjaa
open Go.RowKit Go.PlainAid

def natCells (l : List Nat) : List Value := l.map fun n : Nat => Value.int .u64 (n : Int)
theorem natCells_get {l : List Nat} {j : Nat} (h : j < l.length) : (natCells l)[j]? = some (.int .u64 (l[j] : Int)) := by simp [natCells, h]
theorem natCells_len (l : List Nat) : (natCells l).length = l.length := by simp [natCells]

set_option maxHeartbeats 400000 in
theorem dbn_any (x : Nat) (l : List Nat) (g c : Nat) (hx : (x : Int) ≤ 10000) (hl : (l.length : Int) ≤ 10000) (hb : ∀ p ∈ l, 2 ≤ p ∧ p < 10000) (w : World) (hcell : ∀ j u, (natCells l)[j]? = some u → w.cell? ⟨g, j, none⟩ = some u) :
    Calls Try.prog 24 #[.int .u64 x, .slice (some ⟨g, 0, none⟩) l.length c] w fun e w' => e = .returned (.bool (dbn x l)) ∧ w = w' := by
  have HC := Lib.hid hcell
  have HB := Lib.hid hb
  clear hcell hb
  go_enter Try.func24, Try.ntmps24
  go_wp2
  go_loop [9] (fun iv => ∃ k : Nat, k ≤ l.length ∧ iv = .int .i64 k ∧ Hid (dbn x (l.drop k) = dbn x l)) (fun i => l.length - (intOf i).toNat)
  case atStart => exact ⟨0, by omega, rfl, Lib.hid (by simp)⟩
  case round =>
    obtain ⟨k, hk, rfl, HD⟩ := hrel
    by_cases hlt : k < l.length
    · have h1 := HC.out k _ (natCells_get hlt)
      have hpb := HB.out l[k] (List.getElem_mem _)
      have HN := Lib.hid (dbn_drop (x := x) hlt)
      generalize l[k] = p at *
      obtain ⟨hp0, hp1⟩ := hpb
      have hp2 : (2 : Int) ≤ (p : Int) := by omega
      have hp3 : (p : Int) ≤ 10000 := by omega
      have hm0 : (0 : Int) ≤ (p : Int) * (p : Int) := by rw [← Int.natCast_mul]; omega
      have hm1 : (p : Int) * (p : Int) ≤ 100000000 := by
        have := Nat.mul_le_mul (show p ≤ 10000 by omega) (show p ≤ 10000 by omega)
        rw [← Int.natCast_mul]; omega
      clear hp0 hp1
      by_cases hq : x < p * p
      · have hq' : (x : Int) < (p : Int) * (p : Int) := by rw [← Int.natCast_mul]; omega
        have HE : Hid (dbn x l = true) := Lib.hid (by rw [← HD.out, HN.out, if_pos hq])
        clear hq
        go_wp2
        go_ret
        exact ⟨ret_bool HE.out.symm, rfl⟩
      · have hq' : ¬ (x : Int) < (p : Int) * (p : Int) := by rw [← Int.natCast_mul]; omega
        by_cases hm : x % p = 0
        · have hm' : ((x : Int) % (p : Int) == 0) = true := by rw [← Int.natCast_emod, hm]; rfl
          have HE : Hid (dbn x l = false) := Lib.hid (by rw [← HD.out, HN.out, if_neg hq, if_pos hm])
          clear hq hm
          go_wp2
          go_ret
          exact ⟨ret_bool HE.out.symm, rfl⟩
        · have hm' : ((x : Int) % (p : Int) == 0) = false := by rw [← Int.natCast_emod]; simp; omega
          have HE : Hid (dbn x (l.drop (k + 1)) = dbn x l) := Lib.hid (by rw [← HD.out, HN.out, if_neg hq, if_neg hm])
          clear hq hm
          go_wp2
          go_round
          case rel => exact ⟨k + 1, by omega, by go_num, HE⟩
          case measure => simp [intOf]; omega
    · have HE : Hid (dbn x l = true) := Lib.hid (by rw [← HD.out, List.drop_of_length_le (by omega)]; rfl)
      go_wp2
      go_ret
      exact ⟨ret_bool HE.out.symm, rfl⟩

theorem infoU64 : (Try.prog.info? 22).map (fun i => (i.zero, i.size, i.bytes)) = some (some (.int .u64 0), 1, 8) := by kernel_rfl
theorem natCells_snoc (l : List Nat) (x : Nat) : natCells (l ++ [x]) = natCells l ++ [.int .u64 (x : Int)] := by simp [natCells]

/-- What the first so many primes are: a list that holds all below some number. -/
def FirstPrimes (m : Nat) (v : Value) (w w' : World) : Prop :=
  ∃ c g cap : Nat, v = .slice (some ⟨g, 0, none⟩) m cap ∧ m = (pl c).length ∧ c ≤ 7920 ∧ w'.ownsRow w.heap.size 22 1 v m (natCells (pl c)) ∧ Below w.heap.size w w'

set_option maxRecDepth 100000 in
set_option maxHeartbeats 2000000 in
theorem primes_in (n : Nat) (hn : n ≤ 1000) (z : Int) (hz : (z < 0 ∧ n = 0) ∨ (0 ≤ z ∧ z ≤ 1000 ∧ z = n) ∨ (1000 < z ∧ n = 1000)) (w : World) :
    Calls Try.prog 21 #[.int .i64 z] w fun e w' => ∃ v, e = .returned v ∧ FirstPrimes n v w w' := by
  obtain ⟨i0, hi, hz0, hz1, hz2⟩ := info_parts infoU64
  rcases hz with ⟨hz, rfl⟩ | ⟨hza, hzb, rfl⟩ | ⟨hz, hn3⟩
  · clear hn
    go_enter Try.func21, Try.ntmps21
    go_wp2_with (at_make; refine wpList_make_own _ rfl _ _ 39 rfl w.heap.size 22 i0 (.int .u64 0) 1 Try.underlying39 hi hz0 hz1 _ _ _ 0 rfl rfl (by omega) ?b2 ?b3 (Nat.le_refl _) ?_)
    case b2 => rw [hz2]; omega
    case b3 => unfold maxLen; omega
    intro w1 hown hgr
    have hB1 : Below w.heap.size w w1 := (Below.refl _ _).grown hgr (Nat.le_refl _) (fun _ h => by cases h)
    have HO := Lib.hid hown
    clear hown hgr
    go_wp2
    go_loopw [3, 4] (fun v cv wr => v = .slice (some ⟨w.heap.size, 0, none⟩) 0 0 ∧ wr = w1 ∧ ∃ x, cv = .int .u64 x) (fun _ cv _ => 0)
    case atStart => exact ⟨rfl, rfl, _, rfl⟩
    case round =>
      obtain ⟨rfl, rfl, x, rfl⟩ := hrel
      go_wp2
      go_ret
      exact ⟨_, rfl, 2, _, 0, rfl, rfl, by omega, HO.out, hB1⟩
  · clear hza hzb
    go_enter Try.func21, Try.ntmps21
    go_wp2_with (at_make; refine wpList_make_own _ rfl _ _ 39 rfl w.heap.size 22 i0 (.int .u64 0) 1 Try.underlying39 hi hz0 hz1 _ _ _ n rfl rfl (by omega) ?b2 ?b3 (Nat.le_refl _) ?_)
    case b2 => rw [hz2]; omega
    case b3 => unfold maxLen; omega
    intro w1 hown hgr
    have hB1 : Below w.heap.size w w1 := (Below.refl _ _).grown hgr (Nat.le_refl _) (fun _ h => by cases h)
    have hown2 : w1.ownsRow w.heap.size 22 1 (.slice (some ⟨w.heap.size, 0, none⟩) 0 n) (pl 2).length (natCells (pl 2)) := hown
    have HO := Lib.hid hown2
    clear hown hgr hown2
    go_wp2
    go_loopw [3, 4] (fun v cv wr => ∃ c g cap k : Nat, 2 ≤ c ∧ c ≤ 7920 ∧ k ≤ n ∧ k = (pl c).length ∧ cv = .int .u64 (c : Int) ∧ v = .slice (some ⟨g, 0, none⟩) k cap ∧ wr.ownsRow w.heap.size 22 1 (.slice (some ⟨g, 0, none⟩) k cap) k (natCells (pl c)) ∧ Below w.heap.size w wr) (fun _ cv _ => 7920 - (intOf cv).toNat)
    case atStart => exact ⟨2, w.heap.size, n, 0, by omega, by omega, by omega, rfl, rfl, rfl, HO.out, hB1⟩
    case round =>
      obtain ⟨c, g, cap, k, hc2, hc, hk, hkl, rfl, rfl, hown, hB⟩ := hrel
      have HK := Lib.hid hkl
      have HW := Lib.hid hown
      by_cases hlt : k < n
      · have hc' : c < 7920 := by
          apply Nat.lt_of_not_le
          intro h
          have h1 := pl_len_mono h
          rw [pl_7920] at h1
          omega
        clear hkl hown
        obtain ⟨g', cap', hv', _, hg, _, _, hcell⟩ := own_open HW.out (by intro h; cases h)
        obtain ⟨rfl, rfl⟩ : g = g' ∧ cap = cap' := by cases hv'; exact ⟨rfl, rfl⟩
        have HL := Lib.hid hcell
        clear hcell hv'
        have hd := dbn_any c (pl c) g cap (by omega) (by rw [← HK.out]; omega) (fun p hp => by have := pl_bd hp; omega) wr (fun j u hj => HL.out j u hj)
        rw [← HK.out, dbn_prime hc2] at hd
        have HD := Lib.hid hd
        clear hd
        by_cases hp : primeB c = true
        · have HPL : Hid (pl (c + 1) = pl c ++ [c]) := Lib.hid (by rw [pl, if_pos hp])
          go_wp2_with (first
            | (go_at_call 24; refine HD.out.mono ?_; rintro e w' ⟨rfl, rfl⟩)
            | (at_builtin; refine wpList_append_own _ rfl (.tmp 20) (.tmp 22) 39 rfl w.heap.size 22 i0 (.int .u64 0) 1 8 Try.underlying39 hi hz0 hz1 hz2 rfl (by decide) _ k (natCells (pl c)) rfl ?c0 ⟨wr.heap.size, 0, none⟩ 1 1 [.int .u64 (c : Int)] rfl ?c1 ?c2 ?c3 ?c4 ?c5 ?c6 ?_))
          case c0 => exact HW.out.alloc _
          case c1 => rfl
          case c2 => exact cell_one_new _ _ _
          case c3 => intro u hu; simp at hu; subst hu; rfl
          case c4 => unfold maxLen; omega
          case c5 => omega
          case c6 => have := hB.size; simp; omega
          intro v' w2 hown' hgr hnil
          obtain ⟨g2, cap2, hv2, hgb, _, _, _, _⟩ := own_open hown' (by intro h; simp [h] at hnil)
          subst hv2
          have HB : Below w.heap.size w w2 := (hB.alloc hB.size _).grown hgr (by have := hB.size; simp; omega) (by intro j hj; have := (HW.out.lt j hj).1; omega)
          have HO2 := Lib.hid hown'
          clear hown' hgr hnil
          go_wp2
          go_roundw
          case rel => exact ⟨c + 1, g2, cap2, k + 1, by omega, by omega, by omega, by rw [HPL.out, List.length_append, ← HK.out]; rfl, by go_num, rfl, by rw [HPL.out, natCells_snoc]; exact HO2.out, HB⟩
          case measure => simp [intOf]; omega
        · have hp' : primeB c = false := by simpa using hp
          have HPL : Hid (pl (c + 1) = pl c) := Lib.hid (by rw [pl, if_neg hp])
          clear hp
          go_wp2_with (go_at_call 24; refine HD.out.mono ?_; rintro e w' ⟨rfl, rfl⟩)
          go_roundw
          case rel => exact ⟨c + 1, g, cap, k, by omega, by omega, by omega, by rw [HPL.out, ← HK.out], by go_num, rfl, by rw [HPL.out]; exact HW.out, hB⟩
          case measure => simp [intOf]; omega
      · have hkn : k = n := by omega
        have HKN := Lib.hid hkn
        clear hkn hkl hown
        go_wp2
        go_ret
        refine ⟨_, rfl, c, g, cap, ?_, ?_, hc, ?_, hB⟩
        · rw [← HKN.out]
          first | rfl | simp
        · rw [← HKN.out]; exact HK.out
        · rw [← HKN.out]; exact HW.out
  · clear hn
    subst hn3
    go_enter Try.func21, Try.ntmps21
    go_wp2_with (at_make; refine wpList_make_own _ rfl _ _ 39 rfl w.heap.size 22 i0 (.int .u64 0) 1 Try.underlying39 hi hz0 hz1 _ _ _ 1000 rfl rfl (by omega) ?b2 ?b3 (Nat.le_refl _) ?_)
    case b2 => rw [hz2]; omega
    case b3 => unfold maxLen; omega
    intro w1 hown hgr
    have hB1 : Below w.heap.size w w1 := (Below.refl _ _).grown hgr (Nat.le_refl _) (fun _ h => by cases h)
    have hown2 : w1.ownsRow w.heap.size 22 1 (.slice (some ⟨w.heap.size, 0, none⟩) 0 1000) (pl 2).length (natCells (pl 2)) := hown
    have HO := Lib.hid hown2
    clear hown hgr hown2
    go_wp2
    go_loopw [3, 4] (fun v cv wr => ∃ c g cap k : Nat, 2 ≤ c ∧ c ≤ 7920 ∧ k ≤ 1000 ∧ k = (pl c).length ∧ cv = .int .u64 (c : Int) ∧ v = .slice (some ⟨g, 0, none⟩) k cap ∧ wr.ownsRow w.heap.size 22 1 (.slice (some ⟨g, 0, none⟩) k cap) k (natCells (pl c)) ∧ Below w.heap.size w wr) (fun _ cv _ => 7920 - (intOf cv).toNat)
    case atStart => exact ⟨2, w.heap.size, 1000, 0, by omega, by omega, by omega, rfl, rfl, rfl, HO.out, hB1⟩
    case round =>
      obtain ⟨c, g, cap, k, hc2, hc, hk, hkl, rfl, rfl, hown, hB⟩ := hrel
      have HK := Lib.hid hkl
      have HW := Lib.hid hown
      by_cases hlt : k < 1000
      · have hc' : c < 7920 := by
          apply Nat.lt_of_not_le
          intro h
          have h1 := pl_len_mono h
          rw [pl_7920] at h1
          omega
        clear hkl hown
        obtain ⟨g', cap', hv', _, hg, _, _, hcell⟩ := own_open HW.out (by intro h; cases h)
        obtain ⟨rfl, rfl⟩ : g = g' ∧ cap = cap' := by cases hv'; exact ⟨rfl, rfl⟩
        have HL := Lib.hid hcell
        clear hcell hv'
        have hd := dbn_any c (pl c) g cap (by omega) (by rw [← HK.out]; omega) (fun p hp => by have := pl_bd hp; omega) wr (fun j u hj => HL.out j u hj)
        rw [← HK.out, dbn_prime hc2] at hd
        have HD := Lib.hid hd
        clear hd
        by_cases hp : primeB c = true
        · have HPL : Hid (pl (c + 1) = pl c ++ [c]) := Lib.hid (by rw [pl, if_pos hp])
          go_wp2_with (first
            | (go_at_call 24; refine HD.out.mono ?_; rintro e w' ⟨rfl, rfl⟩)
            | (at_builtin; refine wpList_append_own _ rfl (.tmp 20) (.tmp 22) 39 rfl w.heap.size 22 i0 (.int .u64 0) 1 8 Try.underlying39 hi hz0 hz1 hz2 rfl (by decide) _ k (natCells (pl c)) rfl ?c0 ⟨wr.heap.size, 0, none⟩ 1 1 [.int .u64 (c : Int)] rfl ?c1 ?c2 ?c3 ?c4 ?c5 ?c6 ?_))
          case c0 => exact HW.out.alloc _
          case c1 => rfl
          case c2 => exact cell_one_new _ _ _
          case c3 => intro u hu; simp at hu; subst hu; rfl
          case c4 => unfold maxLen; omega
          case c5 => omega
          case c6 => have := hB.size; simp; omega
          intro v' w2 hown' hgr hnil
          obtain ⟨g2, cap2, hv2, hgb, _, _, _, _⟩ := own_open hown' (by intro h; simp [h] at hnil)
          subst hv2
          have HB : Below w.heap.size w w2 := (hB.alloc hB.size _).grown hgr (by have := hB.size; simp; omega) (by intro j hj; have := (HW.out.lt j hj).1; omega)
          have HO2 := Lib.hid hown'
          clear hown' hgr hnil
          go_wp2
          go_roundw
          case rel => exact ⟨c + 1, g2, cap2, k + 1, by omega, by omega, by omega, by rw [HPL.out, List.length_append, ← HK.out]; rfl, by go_num, rfl, by rw [HPL.out, natCells_snoc]; exact HO2.out, HB⟩
          case measure => simp [intOf]; omega
        · have hp' : primeB c = false := by simpa using hp
          have HPL : Hid (pl (c + 1) = pl c) := Lib.hid (by rw [pl, if_neg hp])
          clear hp
          go_wp2_with (go_at_call 24; refine HD.out.mono ?_; rintro e w' ⟨rfl, rfl⟩)
          go_roundw
          case rel => exact ⟨c + 1, g, cap, k, by omega, by omega, by omega, by rw [HPL.out, ← HK.out], by go_num, rfl, by rw [HPL.out]; exact HW.out, hB⟩
          case measure => simp [intOf]; omega
      · have hkn : k = 1000 := by omega
        have HKN := Lib.hid hkn
        clear hkn hkl hown
        go_wp2
        go_ret
        refine ⟨_, rfl, c, g, cap, ?_, ?_, hc, ?_, hB⟩
        · rw [← HKN.out]
          first | rfl | simp
        · rw [← HKN.out]; exact HK.out
        · rw [← HKN.out]; exact HW.out

set_option maxHeartbeats 400000 in
theorem refPrime_any (x : Int) (h0 : 0 ≤ x) (h1 : x ≤ 100000) (w : World) :
    Calls Try.prog 22 #[.int .u64 x] w fun e w' => e = .returned (.bool (primeB x.toNat)) ∧ w = w' := by
  obtain ⟨x, rfl⟩ := Int.eq_ofNat_of_zero_le h0
  simp only [Int.toNat_natCast]
  by_cases h2 : x < 2
  · have HE : Hid (primeB x = false) := Lib.hid (by unfold primeB; rw [decide_eq_false (by omega)]; rfl)
    go_enter Try.func22, Try.ntmps22
    go_wp2
    go_ret
    exact ⟨ret_bool HE.out.symm, rfl⟩
  · go_enter Try.func22, Try.ntmps22
    go_wp2
    go_loop [3] (fun dv => ∃ d : Nat, 2 ≤ d ∧ d ≤ 400 ∧ dv = .int .u64 d ∧ Hid (∀ e, 2 ≤ e → e < d → x % e ≠ 0)) (fun d => 400 - (intOf d).toNat)
    case atStart => exact ⟨2, by omega, by omega, rfl, Lib.hid (by omega)⟩
    case round =>
      obtain ⟨d, hd2, hd, rfl, HD⟩ := hrel
      have hm0 : (0 : Int) ≤ (d : Int) * (d : Int) := by rw [← Int.natCast_mul]; omega
      have hm1 : (d : Int) * (d : Int) ≤ 160000 := by
        have := Nat.mul_le_mul hd hd
        rw [← Int.natCast_mul]; omega
      have hdz : (2 : Int) ≤ (d : Int) := by omega
      by_cases hq : d * d ≤ x
      · have hq' : (d : Int) * (d : Int) ≤ (x : Int) := by rw [← Int.natCast_mul]; omega
        have hd3 : d < 317 := by
          apply Nat.lt_of_not_le
          intro h
          have := Nat.mul_le_mul h h
          omega
        by_cases hm : x % d = 0
        · have hm' : ((x : Int) % (d : Int) == 0) = true := by rw [← Int.natCast_emod, hm]; rfl
          have HE : Hid (primeB x = false) := Lib.hid (by
            cases hp : primeB x with
            | false => rfl
            | true => exact absurd hm ((prime_iff.1 hp).2 d hd2 hq))
          clear hq hm
          go_wp2
          go_ret
          exact ⟨ret_bool HE.out.symm, rfl⟩
        · have hm' : ((x : Int) % (d : Int) == 0) = false := by rw [← Int.natCast_emod]; simp; omega
          have HN : Hid (∀ e, 2 ≤ e → e < d + 1 → x % e ≠ 0) := Lib.hid (by
            intro e h1 h2
            rcases Nat.lt_or_ge e d with h3 | h3
            · exact HD.out e h1 h3
            · have : e = d := by omega
              subst this; exact hm)
          clear hq hm
          go_wp2
          go_round
          case rel => exact ⟨d + 1, by omega, by omega, by go_num, HN⟩
          case measure => simp [intOf]; omega
      · have hq' : ¬ (d : Int) * (d : Int) ≤ (x : Int) := by rw [← Int.natCast_mul]; omega
        have HE : Hid (primeB x = true) := Lib.hid (prime_iff.2 ⟨by omega, fun e h1 h2 => HD.out e h1 (by
          apply Nat.lt_of_not_le
          intro h
          have := Nat.mul_le_mul h h
          omega)⟩)
        clear hq
        go_wp2
        go_ret
        exact ⟨ret_bool HE.out.symm, rfl⟩

set_option maxHeartbeats 400000 in
theorem primes_any (z : Int) (w : World) :
    Calls Try.prog 21 #[.int .i64 z] w fun e w' => ∃ v, e = .returned v ∧ FirstPrimes (min z.toNat 1000) v w w' :=
  primes_in (min z.toNat 1000) (by omega) z (by omega) w
end Go.Proofs.Ytlolkelkbanhjaa
