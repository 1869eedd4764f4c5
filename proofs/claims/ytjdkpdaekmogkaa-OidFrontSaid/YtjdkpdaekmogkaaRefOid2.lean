/- What the reference's Put, Get and Same of object identifiers give. Of every list and text. -/
import Derived.Test.YtjdkpdaekmogkaaRefOid
import Derived.Deep.RegionWith
namespace Go.Proofs.Ytjdkpdaekmogkaa
open Go.RowKit Go.PlainAid
set_option linter.unusedVariables false
/-- What Put answers. -/
def opS (l : List Int) : ByteArray := if arcsOk l = true then strOfNums (oL l) else ⟨#[]⟩
theorem opS_ok {l : List Int} (h : arcsOk l = true) : opS l = strOfNums (oL l) := by rw [opS, if_pos h]
theorem opS_bad {l : List Int} (h : arcsOk l = false) : opS l = ⟨#[]⟩ := by rw [opS, if_neg (by rw [h]; simp)]
/-- What Get answers. -/
def ogL (b : ByteArray) : List Int := (oGet (bl b)).getD []
def ogB (b : ByteArray) : Bool := (oGet (bl b)).isSome
theorem beqN {x y : Int} (h : ¬ x = y) : (x == y) = false := by simpa using h
set_option maxRecDepth 100000 in
set_option maxHeartbeats 1600000 in
theorem refSame_any (o1 o2 : Option Addr) (c1 c2 : Nat) (l1 l2 : List Int) (h1 : l1.length ≤ 1000000) (h2 : l2.length ≤ 1000000) (w : World) (hc1 : Came w o1 (ivs .u64 l1)) (hc2 : Came w o2 (ivs .u64 l2)) :
    Calls Try.prog 17 #[.slice o1 l1.length c1, .slice o2 l2.length c2] w fun e w' => e = .returned (.bool (decide (l1 = l2))) ∧ Below w.heap.size w w' := by
  by_cases hl : l1.length = l2.length
  · have HE := Lib.hid hl
    have hlb : ((l1.length : Int) != (l2.length : Int)) = false := by rw [hl]; simp
    have HG1 := Lib.hid (fun (i : Nat) (h : i < l1.length) => (ivs_get (k := .u64) h))
    have HG2 := Lib.hid (fun (i : Nat) (h : i < l2.length) => (ivs_get (k := .u64) h))
    have HC1 := Lib.hid hc1
    have HC2 := Lib.hid hc2
    clear hl hc1 hc2
    go_enter Try.func17, Try.ntmps17
    go_wp2
    go_loopw [5] (fun iv wr => ∃ (i : Nat), iv = .int .i64 (i : Int) ∧ i ≤ l1.length ∧ Hid (l1.take i = l2.take i) ∧ Hid (Below w.heap.size w wr)) (fun iv _ => l1.length - (intOf iv).toNat)
    case atStart => exact ⟨0, rfl, by omega, Lib.hid (by simp), Lib.hid (Below.refl _ _)⟩
    case round =>
      obtain ⟨i, rfl, hi, HT, HB⟩ := hrel
      by_cases hlt : i < l1.length
      · have hlt2 : i < l2.length := by have := HE.out; omega
        have hli1 : (i : Int) < (l1.length : Int) := by omega
        have hli2 : (i : Int) < (l2.length : Int) := by omega
        obtain ⟨a1, rfl, _, _, hq1⟩ := (HC1.out.below HB.out).at (by rw [ivs_length]; omega)
        obtain ⟨a2, rfl, _, _, hq2⟩ := (HC2.out.below HB.out).at (by rw [ivs_length]; omega)
        have q1 := (hq1 i (by rw [ivs_length]; exact hlt)).trans (HG1.out i hlt)
        have q2 := (hq2 i (by rw [ivs_length]; exact hlt2)).trans (HG2.out i hlt2)
        have HT2 := Lib.hid (fun h : l1[i] = l2[i] => show l1.take (i + 1) = l2.take (i + 1) by
          rw [List.take_add_one, List.take_add_one, List.getElem?_eq_getElem hlt, List.getElem?_eq_getElem hlt2, HT.out, h])
        have HT3 := Lib.hid (fun (h : ¬ l1[i] = l2[i]) (e : l1 = l2) => h (by subst e; rfl))
        generalize l1[i] = x at *
        generalize l2[i] = y at *
        clear hq1 hq2
        go_wp2
        go_region
        all_goals
          by_cases hxy : x = y
          · have HT4 := Lib.hid (HT2.out hxy)
            have hb : (x != y) = false := by simpa using hxy
            go_wp2
            go_roundw
            case rel => exact ⟨i + 1, by simp, by omega, HT4, Lib.hid HB.out.drew⟩
            case measure => simp [intOf]; omega
          · have HF : Hid (false = decide (l1 = l2)) := Lib.hid (decide_eq_false (HT3.out hxy)).symm
            have hb : (x != y) = true := by simpa using hxy
            go_wp2
            go_returns
            exact ⟨rets1 (congrArg Value.bool HF.out), HB.out.drew⟩
      · have hne : ¬ (i : Int) < (l1.length : Int) := by omega
        have HF : Hid (true = decide (l1 = l2)) := Lib.hid (by
          have h := HT.out
          rw [List.take_of_length_le (by omega), List.take_of_length_le (by have := HE.out; omega)] at h
          exact (decide_eq_true h).symm)
        go_wp2
        go_returns
        exact ⟨rets1 (congrArg Value.bool HF.out), HB.out⟩
  · have HF : Hid (false = decide (l1 = l2)) := Lib.hid (decide_eq_false (fun h => hl (by rw [h]))).symm
    have hlb : ((l1.length : Int) != (l2.length : Int)) = true := by simp; omega
    clear hl
    go_enter Try.func17, Try.ntmps17
    go_wp2
    go_returns
    exact ⟨rets1 (congrArg Value.bool HF.out), Below.refl _ _⟩
theorem oONum (x : Int) (h0 : 0 ≤ x) (h1 : x ≤ 18446744073709551615) (w : World) :
    Calls Try.prog 20 #[.int .u64 x] w fun e w' => e = .returned (.string (strOfNums (oB x))) ∧ Below w.heap.size w w' := by
  have := refONumber_any x.toNat (by omega) w
  rw [Int.toNat_of_nonneg h0] at this
  exact this
theorem flat_size (l : List Int) (h : ∀ x ∈ l, x ≤ 18446744073709551615) : (l.flatMap oB).length ≤ 10 * l.length := by
  induction l with
  | nil => simp
  | cons x r ih =>
    have h1 := oB_le x (h x (List.mem_cons_self ..))
    have h2 := ih (fun y hy => h y (List.mem_cons_of_mem _ hy))
    rw [List.flatMap_cons, List.length_append, List.length_cons]; omega
set_option maxRecDepth 100000 in
set_option maxHeartbeats 1600000 in
theorem refOidPut_any (o : Option Addr) (c : Nat) (l : List Int) (hl : l.length ≤ 1000000) (hin : ∀ x ∈ l, inK .u64 x) (w : World) (hc : Came w o (ivs .u64 l)) :
    Calls Try.prog 14 #[.slice o l.length c] w fun e w' => e = .returned (.tuple #[.string (opS l), .bool (arcsOk l)]) ∧ Below w.heap.size w w' := by
  match l, hl, hin, hc with
  | [], hl, hin, hc =>
    go_enter Try.func14, Try.ntmps14
    go_wp2
    go_returns
    exact ⟨rfl, Below.refl _ _⟩
  | [a], hl, hin, hc =>
    go_enter Try.func14, Try.ntmps14
    go_wp2
    go_returns
    exact ⟨rfl, Below.refl _ _⟩
  | a :: b :: r, hl, hin, hc =>
    have hlen : (a :: b :: r).length = r.length + 2 := by simp
    obtain ⟨ad, rfl, _, hq0, hq⟩ := hc.at (by rw [ivs_length]; omega)
    have q0 : w.cell? ad = some (.int .u64 a) := hq0
    have q1 : w.cell? ⟨ad.block, ad.off + 1, none⟩ = some (.int .u64 b) := by rw [← addr_one]; exact hq 1 (by rw [ivs_length]; omega)
    have ha : 0 ≤ a ∧ a ≤ 18446744073709551615 := hin a (by simp)
    have hb : 0 ≤ b ∧ b ≤ 18446744073709551615 := hin b (by simp)
    obtain ⟨ha0, ha1⟩ := ha
    obtain ⟨hb0, hb1⟩ := hb
    have hnl : ¬ ((r.length : Int) + 2 < 2) := by omega
    rw [hlen]
    have HC := Lib.hid hc
    have HQ := Lib.hid hq
    clear hc hq hq0
    by_cases h2 : 2 < a
    · have hno : arcsOk (a :: b :: r) = false := by
        cases hk : arcsOk (a :: b :: r) with
        | false => rfl
        | true => have := (arcsOk_iff a b r).1 hk; omega
      have HF1 := Lib.hid (opS_bad hno).symm
      have HF2 := Lib.hid hno.symm
      clear hno hlen hin
      go_enter Try.func14, Try.ntmps14
      go_wp2
      go_returns
      exact ⟨rets2 (congrArg Value.string HF1.out) (congrArg Value.bool HF2.out), Below.refl _ _⟩
    · by_cases hok : arcsOk (a :: b :: r) = true
      · have HF1 := Lib.hid (opS_ok hok)
        have HF2 := Lib.hid hok
        obtain ⟨_, _, k1, k2⟩ := (arcsOk_iff a b r).1 hok
        have hf1 : 40 * a + b ≤ 18446744073709551615 := by omega
        have hf0 : 0 ≤ 40 * a + b := by omega
        have HN := Lib.hid (oONum (40 * a + b) hf0 hf1)
        have hw : (a < 2 ∧ (a == 2) = false ∧ ¬ 39 < b) ∨ (¬ a < 2 ∧ (a == 2) = true ∧ ¬ 18446744073709551535 < b) := by
          by_cases h : a < 2
          · exact .inl ⟨h, beqN (by omega), by omega⟩
          · exact .inr ⟨h, beq_iff_eq.2 (by omega), by omega⟩
        have hm40 : 40 * a ≤ 80 := by omega
        have hwa : IntKind.u64.wrap (40 * a) = 40 * a := by rw [IntKind.wrap_u64]; omega
        have hwr : IntKind.u64.wrap (40 * a + b) = 40 * a + b := by rw [IntKind.wrap_u64]; omega
        have HL := Lib.hid (oL_eq a b r)
        have HIN : Hid (∀ x ∈ (40 * a + b) :: r, 0 ≤ x ∧ x ≤ 18446744073709551615) := Lib.hid (by
          intro x hx
          rcases List.mem_cons.1 hx with rfl | hx
          · exact ⟨hf0, hf1⟩
          · exact hin x (by simp [hx]))
        clear hok hlen hin k1 k2
        rcases hw with ⟨w1, w2, w3⟩ | ⟨w1, w2, w3⟩
        all_goals
          go_enter Try.func14, Try.ntmps14
          go_wp2
          go_region_with (go_at_call 20; with_reducible refine (HN.out _).mono ?_; rintro e w9 ⟨rfl, hb9⟩)
          all_goals
            have hB9 : Below w.heap.size w w9 := Below.trans ((Below.refl _ w).drew) (hb9.mono (by simp))
            have HF3 : Hid ((a :: b :: r).length = r.length + 2) := Lib.hid rfl
            clear hb9 hwa hwr hm40 w1 w2 w3
            obtain ⟨f, hf⟩ : ∃ f, 40 * a + b = f := ⟨_, rfl⟩
            rw [hf] at HIN HL
            rw [hf]
            have HFF := Lib.hid hf
            clear hf HN
            obtain ⟨O, HO⟩ : ∃ O : Nat → List Int, Hid (∀ j, O j = (List.take (j + 1) (f :: r)).flatMap oB) := ⟨_, Lib.hid (fun _ => rfl)⟩
            have HF4 : Hid (O 0 = oB f) := Lib.hid (by rw [HO.out]; simp)
            have HOE : Hid (O r.length = oL (a :: b :: r)) := Lib.hid (by rw [HO.out, HL.out, List.take_of_length_le (by simp)])
            have HOS : Hid (∀ j (h : j < r.length), O (j + 1) = O j ++ oB r[j]) := Lib.hid (by
              intro j h
              rw [HO.out, HO.out, List.take_add_one (i := j + 1), List.getElem?_cons_succ, List.getElem?_eq_getElem h, Option.toList_some, List.flatMap_append]; simp)
            have HOL : Hid (∀ j, j ≤ r.length → (strOfNums (O j)).size ≤ 10 * (j + 1)) := Lib.hid (by
              intro j h
              rw [strOfNums_size, HO.out]
              have := flat_size (List.take (j + 1) (f :: r)) (fun x hx => (HIN.out x (List.mem_of_mem_take hx)).2)
              rw [List.length_take] at this
              omega)
            clear HO HL
            rw [← HF4.out]
            go_wp2
            go_loopw [4, 5] (fun sv iv wr => ∃ (j : Nat), sv = .string (strOfNums (O j)) ∧ iv = .int .i64 ((j : Int) + 2) ∧ j ≤ r.length ∧ Hid (Below w.heap.size w wr)) (fun _ iv _ => r.length + 2 - (intOf iv).toNat)
            case atStart => exact ⟨0, rfl, by simp, by omega, Lib.hid hB9⟩
            case round =>
              obtain ⟨j, rfl, rfl, hj, HB⟩ := hrel
              by_cases hlt : j < r.length
              · have hj9 : r.length ≤ 999998 := by simp at hl; omega
                have hji : (j : Int) + 2 < (r.length : Int) + 2 := by omega
                have q2 := ((HC.out.below HB.out).at (by rw [ivs_length]; simp)) 
                obtain ⟨ad2, had, _, _, hq2⟩ := q2
                cases had
                have q3 : wr.cell? (ad.add (j + 2)) = some (.int .u64 r[j]) := by
                  rw [hq2 (j + 2) (by rw [ivs_length]; simp; exact hlt), ivs_get (by simp; exact hlt)]; rfl
                have q4 : wr.cell? ⟨ad.block, ad.off + (j + 2), none⟩ = some (.int .u64 r[j]) := by rw [← addr_succ ad (j + 2) (by omega)]; exact q3
                have hr := HIN.out r[j] (List.mem_cons_of_mem _ (List.getElem_mem hlt))
                have HOS1 := Lib.hid (HOS.out j hlt)
                have hs1 := HOL.out j hj
                have hs2 : (strOfNums (oB r[j])).size ≤ 10 := by rw [strOfNums_size]; exact oB_le _ hr.2
                have HN2 := Lib.hid (oONum r[j] hr.1 hr.2)
                generalize r[j] = x at *
                have HSA := Lib.hid (strOfNums_append (O j) (oB x))
                clear hq2 hr
                go_wp2_with fail
                refine (HN2.out _).mono ?_
                rintro e w8 ⟨rfl, hb8⟩
                have HB8 := Lib.hid (HB.out.trans (hb8.mono HB.out.size))
                clear hb8 HB
                go_wp2
                go_roundw
                case rel => exact ⟨j + 1, by rw [HOS1.out, HSA.out], by simp; omega, by omega, HB8⟩
                case measure => simp [intOf]; omega
              · have hje : j = r.length := by omega
                subst hje
                have hne : ¬ ((r.length : Int) + 2 < (r.length : Int) + 2) := by omega
                go_wp2
                go_returns
                exact ⟨rets2 (congrArg Value.string (by rw [HF1.out, HOE.out])) (congrArg Value.bool HF2.out.symm), HB.out⟩
      · have hno : arcsOk (a :: b :: r) = false := by simpa using hok
        have hw : (a < 2 ∧ 39 < b) ∨ (¬ a < 2 ∧ (a == 2) = true ∧ 18446744073709551535 < b) := by
          rw [arcsOk_iff] at hok
          by_cases h : a < 2
          · exact .inl ⟨h, by omega⟩
          · exact .inr ⟨h, beq_iff_eq.2 (by omega), by omega⟩
        have HF1 := Lib.hid (opS_bad hno).symm
        have HF2 := Lib.hid hno.symm
        clear hno hlen hin hok
        rcases hw with ⟨w1, w2⟩ | ⟨w1, w2, w3⟩
        all_goals
          go_enter Try.func14, Try.ntmps14
          go_wp2
          go_returns
          exact ⟨rets2 (congrArg Value.string HF1.out) (congrArg Value.bool HF2.out), Below.refl _ _⟩
end Go.Proofs.Ytjdkpdaekmogkaa
