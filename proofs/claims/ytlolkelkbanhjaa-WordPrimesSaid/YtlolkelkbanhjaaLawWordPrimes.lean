/- The first prime numbers, as many as are asked for, are all up to the last of them. For every number; no condition. -/
import Derived.Test.YtlolkelkbanhjaaAwake
import Derived.Test.YtlolkelkbanhjaaRows
import Derived.WalkKit
import Derived.ProofKit
import Derived.OpenShut
import Derived.ShutString
import Derived.ChangeOld
import Derived.Below
namespace Go.Proofs.Ytlolkelkbanhjaa
open Go.PlainAid
open Go.ChangeShapes Go.WideShapes Go.ChangeAt Go.RowKit
open Go.ChangeMaps (open_string shut_string)
set_option linter.unusedVariables false
set_option maxRecDepth 100000 in
set_option maxHeartbeats 1000000 in
theorem walkWordPrimes (a0 : Int) (b0 : -9223372036854775808 ≤ a0 ∧ a0 ≤ 9223372036854775807) (w : World) :
    Calls Try.prog 8 #[.int .i64 a0] w fun e w' => e = .returned (.bool true) ∧ Below w.heap.size w w' := by
  by_cases h0 : a0 < 0
  · obtain ⟨m, hmm⟩ : ∃ m : Nat, m = 0 := ⟨0, rfl⟩
    have hm1 : m ≤ 1000 := by omega
    have hmf : ((m : Int) != 0) = false := by subst hmm; rfl
    have HPI := Lib.hid (primes_in m hm1 a0 (.inl ⟨h0, hmm⟩) w)
    clear hmm
    go_enter Try.func8, Try.ntmps8
    go_wp2_with fail
    refine (HPI.out).mono ?_
    rintro e w1 ⟨v, rfl, c, g, cap, rfl, hm, hc, hown, hb1⟩
    obtain ⟨g', cap', hv', _, hg, _, _, hcell⟩ := own_open hown (by intro h; cases h)
    obtain ⟨rfl, rfl⟩ : g = g' ∧ cap = cap' := by cases hv'; exact ⟨rfl, rfl⟩
    have HM := Lib.hid hm
    have HC := Lib.hid hcell
    clear hcell hv' hown hm
    go_wp2_with fail
    refine (awake01_any _).mono ?_
    rintro e w2 ⟨rfl, hb2⟩
    have HL : Hid (∀ j u, (natCells (pl c))[j]? = some u → w2.cell? ⟨g, j, none⟩ = some u) := Lib.hid (fun j u hj => (hb2.cell (p := ⟨g, j, none⟩) (by exact hg)).trans (HC.out j u hj))
    have hbb := hb1.trans (hb2.mono hb1.size)
    clear hb1 hb2 HC
    go_wp2
    all_goals
      go_loop [4, 5] (fun av xv => ∃ x : Nat, x ≤ c ∧ av = .int .i64 ((pl x).length : Nat) ∧ xv = .int .u64 (x : Int)) (fun _ x => c - (intOf x).toNat)
      case atStart => exact ⟨0, by omega, rfl, rfl⟩
      case round =>
        obtain ⟨x, hx, rfl, rfl⟩ := hrel
        have hmono := pl_len_mono hx
        by_cases hat : (pl x).length < m
        · have hxc : x < c := by
            rcases Nat.lt_or_ge x c with h | h
            · exact h
            · have := pl_len_mono h; have := HM.out; omega
          have hat' : ((pl x).length : Int) < (m : Int) := by omega
          have HPr := Lib.hid (refPrime_any (x : Int) (by omega) (by omega) w2)
          by_cases hp : primeB x = true
          · have hcell := HL.out (pl x).length (.int .u64 (x : Int)) (by rw [natCells, List.getElem?_map, pl_get hxc hp]; rfl)
            have HNX := Lib.hid (show (pl (x + 1)).length = (pl x).length + 1 by rw [pl, if_pos hp, List.length_append]; rfl)
            generalize (pl x).length = q at *
            go_wp2_with (go_at_call 22; refine HPr.out.mono ?_; rintro e w' ⟨rfl, rfl⟩; simp only [Int.toNat_natCast, hp])
            go_round
            case rel => exact ⟨x + 1, by omega, by rw [HNX.out]; go_num, by go_num⟩
            case measure => simp [intOf]; omega
          · have hp' : primeB x = false := by simpa using hp
            have HNX := Lib.hid (show (pl (x + 1)).length = (pl x).length by rw [pl, if_neg hp])
            clear hp
            generalize (pl x).length = q at *
            go_wp2_with (go_at_call 22; refine HPr.out.mono ?_; rintro e w' ⟨rfl, rfl⟩; simp only [Int.toNat_natCast, hp'])
            go_round
            case rel => exact ⟨x + 1, by omega, by rw [HNX.out], by go_num⟩
            case measure => simp [intOf]; omega
        · have hqm : (pl x).length = m := by have := HM.out; omega
          have HQ := Lib.hid hqm
          clear hqm hmono
          generalize (pl x).length = q at *
          have hq : ((q : Int) == (m : Int)) = true := by rw [HQ.out]; simp
          have hq2 : ¬ (q : Int) < (m : Int) := by omega
          go_wp2
          go_ret
          exact ⟨rfl, hbb⟩
  · by_cases h1 : 1000 < a0
    · obtain ⟨m, hmm⟩ : ∃ m : Nat, m = 1000 := ⟨1000, rfl⟩
      have hm1 : m ≤ 1000 := by omega
      have hmf : ((m : Int) != 1000) = false := by subst hmm; rfl
      have HPI := Lib.hid (primes_in m hm1 a0 (.inr (.inr ⟨h1, hmm⟩)) w)
      clear hmm
      go_enter Try.func8, Try.ntmps8
      go_wp2_with fail
      refine (HPI.out).mono ?_
      rintro e w1 ⟨v, rfl, c, g, cap, rfl, hm, hc, hown, hb1⟩
      obtain ⟨g', cap', hv', _, hg, _, _, hcell⟩ := own_open hown (by intro h; cases h)
      obtain ⟨rfl, rfl⟩ : g = g' ∧ cap = cap' := by cases hv'; exact ⟨rfl, rfl⟩
      have HM := Lib.hid hm
      have HC := Lib.hid hcell
      clear hcell hv' hown hm
      go_wp2_with fail
      refine (awake01_any _).mono ?_
      rintro e w2 ⟨rfl, hb2⟩
      have HL : Hid (∀ j u, (natCells (pl c))[j]? = some u → w2.cell? ⟨g, j, none⟩ = some u) := Lib.hid (fun j u hj => (hb2.cell (p := ⟨g, j, none⟩) (by exact hg)).trans (HC.out j u hj))
      have hbb := hb1.trans (hb2.mono hb1.size)
      clear hb1 hb2 HC
      go_wp2
      all_goals
        go_loop [4, 5] (fun av xv => ∃ x : Nat, x ≤ c ∧ av = .int .i64 ((pl x).length : Nat) ∧ xv = .int .u64 (x : Int)) (fun _ x => c - (intOf x).toNat)
        case atStart => exact ⟨0, by omega, rfl, rfl⟩
        case round =>
          obtain ⟨x, hx, rfl, rfl⟩ := hrel
          have hmono := pl_len_mono hx
          by_cases hat : (pl x).length < m
          · have hxc : x < c := by
              rcases Nat.lt_or_ge x c with h | h
              · exact h
              · have := pl_len_mono h; have := HM.out; omega
            have hat' : ((pl x).length : Int) < (m : Int) := by omega
            have HPr := Lib.hid (refPrime_any (x : Int) (by omega) (by omega) w2)
            by_cases hp : primeB x = true
            · have hcell := HL.out (pl x).length (.int .u64 (x : Int)) (by rw [natCells, List.getElem?_map, pl_get hxc hp]; rfl)
              have HNX := Lib.hid (show (pl (x + 1)).length = (pl x).length + 1 by rw [pl, if_pos hp, List.length_append]; rfl)
              generalize (pl x).length = q at *
              go_wp2_with (go_at_call 22; refine HPr.out.mono ?_; rintro e w' ⟨rfl, rfl⟩; simp only [Int.toNat_natCast, hp])
              go_round
              case rel => exact ⟨x + 1, by omega, by rw [HNX.out]; go_num, by go_num⟩
              case measure => simp [intOf]; omega
            · have hp' : primeB x = false := by simpa using hp
              have HNX := Lib.hid (show (pl (x + 1)).length = (pl x).length by rw [pl, if_neg hp])
              clear hp
              generalize (pl x).length = q at *
              go_wp2_with (go_at_call 22; refine HPr.out.mono ?_; rintro e w' ⟨rfl, rfl⟩; simp only [Int.toNat_natCast, hp'])
              go_round
              case rel => exact ⟨x + 1, by omega, by rw [HNX.out], by go_num⟩
              case measure => simp [intOf]; omega
          · have hqm : (pl x).length = m := by have := HM.out; omega
            have HQ := Lib.hid hqm
            clear hqm hmono
            generalize (pl x).length = q at *
            have hq : ((q : Int) == (m : Int)) = true := by rw [HQ.out]; simp
            have hq2 : ¬ (q : Int) < (m : Int) := by omega
            go_wp2
            go_ret
            exact ⟨rfl, hbb⟩
    · obtain ⟨m, rfl⟩ := Int.eq_ofNat_of_zero_le (show 0 ≤ a0 by omega)
      have hm1 : m ≤ 1000 := by omega
      go_enter Try.func8, Try.ntmps8
      go_wp2_with fail
      refine (primes_in m hm1 m (by omega) w).mono ?_
      rintro e w1 ⟨v, rfl, c, g, cap, rfl, hm, hc, hown, hb1⟩
      obtain ⟨g', cap', hv', _, hg, _, _, hcell⟩ := own_open hown (by intro h; cases h)
      obtain ⟨rfl, rfl⟩ : g = g' ∧ cap = cap' := by cases hv'; exact ⟨rfl, rfl⟩
      have HM := Lib.hid hm
      have HC := Lib.hid hcell
      clear hcell hv' hown hm
      go_wp2_with fail
      refine (awake01_any _).mono ?_
      rintro e w2 ⟨rfl, hb2⟩
      have HL : Hid (∀ j u, (natCells (pl c))[j]? = some u → w2.cell? ⟨g, j, none⟩ = some u) := Lib.hid (fun j u hj => (hb2.cell (p := ⟨g, j, none⟩) (by exact hg)).trans (HC.out j u hj))
      have hbb := hb1.trans (hb2.mono hb1.size)
      clear hb1 hb2 HC
      go_wp2
      all_goals
        go_loop [4, 5] (fun av xv => ∃ x : Nat, x ≤ c ∧ av = .int .i64 ((pl x).length : Nat) ∧ xv = .int .u64 (x : Int)) (fun _ x => c - (intOf x).toNat)
        case atStart => exact ⟨0, by omega, rfl, rfl⟩
        case round =>
          obtain ⟨x, hx, rfl, rfl⟩ := hrel
          have hmono := pl_len_mono hx
          by_cases hat : (pl x).length < m
          · have hxc : x < c := by
              rcases Nat.lt_or_ge x c with h | h
              · exact h
              · have := pl_len_mono h; have := HM.out; omega
            have hat' : ((pl x).length : Int) < (m : Int) := by omega
            have HPr := Lib.hid (refPrime_any (x : Int) (by omega) (by omega) w2)
            by_cases hp : primeB x = true
            · have hcell := HL.out (pl x).length (.int .u64 (x : Int)) (by rw [natCells, List.getElem?_map, pl_get hxc hp]; rfl)
              have HNX := Lib.hid (show (pl (x + 1)).length = (pl x).length + 1 by rw [pl, if_pos hp, List.length_append]; rfl)
              generalize (pl x).length = q at *
              go_wp2_with (go_at_call 22; refine HPr.out.mono ?_; rintro e w' ⟨rfl, rfl⟩; simp only [Int.toNat_natCast, hp])
              go_round
              case rel => exact ⟨x + 1, by omega, by rw [HNX.out]; go_num, by go_num⟩
              case measure => simp [intOf]; omega
            · have hp' : primeB x = false := by simpa using hp
              have HNX := Lib.hid (show (pl (x + 1)).length = (pl x).length by rw [pl, if_neg hp])
              clear hp
              generalize (pl x).length = q at *
              go_wp2_with (go_at_call 22; refine HPr.out.mono ?_; rintro e w' ⟨rfl, rfl⟩; simp only [Int.toNat_natCast, hp'])
              go_round
              case rel => exact ⟨x + 1, by omega, by rw [HNX.out], by go_num⟩
              case measure => simp [intOf]; omega
          · have hqm : (pl x).length = m := by have := HM.out; omega
            have HQ := Lib.hid hqm
            clear hqm hmono
            generalize (pl x).length = q at *
            have hq : ((q : Int) == (m : Int)) = true := by rw [HQ.out]; simp
            have hq2 : ¬ (q : Int) < (m : Int) := by omega
            go_wp2
            go_ret
            exact ⟨rfl, hbb⟩

/-! ### WordPrimes: the step from the walk to the statement -/
namespace wordPrimes
theorem own : ownKnob Try.prog.godebug = none := by kernel_rfl
set_option maxRecDepth 100000 in
theorem lifted (os : Os) (started : os.Started) (H : Type) (enc : TypeId × Value → H) :
    ReturnsInHanded {} Try.checked os 8 .any (Rows.wordPrimesSpec.pre6 enc Try.prog Try.f8 Rows.wordPrimesRow.domain false) (Rows.wordPrimesSpec.post enc Try.prog Try.f8 false true false false) := by
  refine returnsInHanded_of_change (C := Try.checked) own started (by kernel_rfl) Try.func8
    (ChangeSpec.witness6 (enc := enc) (C := Try.checked) false ⟨#[], #[.int .i64 0], []⟩ 8 (by kernel_rfl) (by kernel_rfl) (by kernel_rfl) (by kernel_rfl)) ?_
  intro W base args ds gs before hval0 hW hcnd _
  have hval : ∀ (j : Nat) t v, Try.f8.params[j]? = some t → args[j]? = some v → Value.okWide Try.prog W .any base t v := hval0
  have hW' := hW
  obtain ⟨p, q, hA0, hV, rfl, hfz, hnd⟩ := hW
  have hA : DataW.TrodAll enc Try.prog W 0 (fun _ => true) true Try.f8.params.toList args.toList ds p := hA0
  rw [Try.params8] at hA hval
  obtain ⟨v0, vs0, d0, ds0, p0, q0, hargs, rfl, rfl, h0, r0⟩ := trodAll_cons hA
  obtain ⟨rfl, rfl, rfl⟩ := trodAll_nil r0
  obtain rfl : args = #[v0] := by cases args; simp_all
  obtain ⟨rfl, rfl⟩ := trodVars_none hV
  obtain ⟨a0, rfl, rfl, rfl, w0⟩ := open_int Try.underlying3 (hval 0 3 v0 rfl rfl) h0
  clear hA0 hval0
  simp only [List.append_nil] at hW'
  refine (walkWordPrimes a0 (bounds_i64 w0) W).mono fun e W' ⟨he, bel⟩ => ?_
  subst he
  exact ⟨_, rfl, _, _, _, [], [], [], hW', trodAll_mk1 (shut_bool Try.underlying4 _), (trodAll_cons_mk (shut_int Try.underlying3 w0) trodAll_mk0), rfl, bel.frame _, fun h => by cases h⟩
theorem over : Rows.wordPrimesRow.holds Try.pinned (OpenSpec.ofChange Rows.wordPrimesSpec) :=
  OpenClaim.holds_of_wide 8 Try.f8 rfl rfl rfl rfl rfl rfl rfl ⟨rfl, rfl, rfl, rfl, rfl⟩ rfl rfl rfl rfl rfl (by kernel_rfl) Try.func8 (by kernel_rfl)
    (of_decide_eq_true (by kernel_rfl)) (by unfold Func.isWrapper; first | (rw [if_pos (by decide +kernel)]; kernel_rfl) | (rw [if_neg (by decide +kernel)]; exact ⟨rfl, rfl⟩))
    (fun os started H enc _ => lifted os started H enc)
/-- THE STATEMENT. -/
theorem proved : Rows.WordPrimesSaid := over
end wordPrimes
end Go.Proofs.Ytlolkelkbanhjaa
