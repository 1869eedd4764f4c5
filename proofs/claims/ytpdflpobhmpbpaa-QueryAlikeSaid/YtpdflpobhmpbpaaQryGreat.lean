/- What layer 18's statements let go: is there more than is played? -/
import Derived.Test.YtpdflpobhmpbpaaRefQry
import Derived.Test.YtpdflpobhmpbpaaCameKs
namespace Go.Proofs.Ytpdflpobhmpbpaa
open Go.RowKit Go.PlainAid
set_option linter.unusedVariables false
def greatB (l : List ByteArray) (acts : List (Int × ByteArray)) : Bool :=
  decide (200 < l.length) || decide (200 < acts.length) || l.any (fun s => decide (100 < s.size)) || acts.any (fun a => decide (100 < a.2.size))
theorem greatB_no {l : List ByteArray} {acts : List (Int × ByteArray)} (h : greatB l acts = false) : l.length ≤ 200 ∧ acts.length ≤ 200 ∧ (∀ s ∈ l, s.size ≤ 100) ∧ ∀ a ∈ acts, a.2.size ≤ 100 := by
  unfold greatB at h
  simp only [Bool.or_eq_false_iff, decide_eq_false_iff_not, List.any_eq_false, decide_eq_true_eq] at h
  exact ⟨by omega, by omega, fun s hs => by have := h.1.2 s hs; omega, fun a ha => by have := h.2 a ha; omega⟩
set_option maxRecDepth 100000 in
set_option maxHeartbeats 4000000 in
theorem great18_any (ol : Option Addr) (cl : Nat) (l : List ByteArray) (oa : Option Addr) (ca : Nat) (acts : List (Int × ByteArray)) (w : World) (hl : Came w ol (svs l)) (ha : Came w oa (kts acts)) (hcl : l.length ≤ cl) (hcm : cl ≤ maxLen) (hca : acts.length ≤ ca) (hcn : ca ≤ maxLen) (hls : ∀ s ∈ l, s.size ≤ maxLen) (has : ∀ a ∈ acts, InI a.1 ∧ a.2.size ≤ maxLen) :
    Calls Try.prog 9 #[.slice ol l.length cl, .slice oa acts.length ca] w fun e w' => e = .returned (.bool (greatB l acts)) ∧ Below w.heap.size w w' := by
  have h9 : (l.length : Int) ≤ 9223372036854775807 := by unfold maxLen at hcm; omega
  have h8 : (acts.length : Int) ≤ 9223372036854775807 := by unfold maxLen at hcn; omega
  by_cases hb : (200 : Int) < (l.length : Int)
  · have HF : Hid (true = greatB l acts) := Lib.hid (by unfold greatB; rw [decide_eq_true (by omega)]; simp)
    clear hl ha hls has
    go_enter Try.func9, Try.ntmps9
    go_wp2
    go_returns
    exact ⟨rets1 (congrArg Value.bool HF.out), Below.refl _ _⟩
  · by_cases hb2 : (200 : Int) < (acts.length : Int)
    · have HF : Hid (true = greatB l acts) := Lib.hid (by unfold greatB; rw [decide_eq_true (p := 200 < acts.length) (by omega)]; simp)
      clear hl ha hls has
      go_enter Try.func9, Try.ntmps9
      go_wp2
      go_returns
      exact ⟨rets1 (congrArg Value.bool HF.out), Below.refl _ _⟩
    · have HC := Lib.hid hl
      have HA := Lib.hid ha
      have HS := Lib.hid hls
      have HT := Lib.hid has
      have HB1 : Hid (∀ s ∈ l, 100 < s.size → true = greatB l acts) := Lib.hid (fun s hs h => by
        have : l.any (fun s => decide (100 < s.size)) = true := by rw [List.any_eq_true]; exact ⟨s, hs, by simpa using h⟩
        unfold greatB; rw [this]; simp)
      have HB2 : Hid (∀ a ∈ acts, 100 < a.2.size → true = greatB l acts) := Lib.hid (fun a hs h => by
        have : acts.any (fun a => decide (100 < a.2.size)) = true := by rw [List.any_eq_true]; exact ⟨a, hs, by simpa using h⟩
        unfold greatB; rw [this]; simp)
      have HB3 : Hid ((∀ i (h : i < l.length), l[i].size ≤ 100) → (∀ i (h : i < acts.length), acts[i].2.size ≤ 100) → false = greatB l acts) := Lib.hid (fun h1 h2 => by
        symm
        unfold greatB
        simp only [Bool.or_eq_false_iff, decide_eq_false_iff_not, List.any_eq_false, decide_eq_true_eq]
        refine ⟨⟨⟨by omega, by omega⟩, fun s hs => ?_⟩, fun a hs => ?_⟩
        · obtain ⟨i, hi, rfl⟩ := List.getElem_of_mem hs
          have := h1 i hi; omega
        · obtain ⟨i, hi, rfl⟩ := List.getElem_of_mem hs
          have := h2 i hi; omega)
      clear hl ha hls has
      generalize greatB l acts = G at *
      go_enter Try.func9, Try.ntmps9
      go_wp2_with fail
      go_loopg [19] l.length (fun gk iv wr => ∃ i : Nat, iv = .int .i64 (i : Int) ∧ i ≤ l.length ∧ l.length - i ≤ gk ∧ Hid (w = wr) ∧ Hid (∀ j (h : j < l.length), j < i → l[j].size ≤ 100))
      case atStart => exact ⟨0, rfl, by omega, by omega, Lib.hid rfl, Lib.hid (fun j _ h => by omega)⟩
      case round =>
        obtain ⟨i, rfl, hi, hgk, HW, HI⟩ := hrel
        have hw := HW.out
        subst hw
        by_cases hlt : i < l.length
        · have hlt2 : (i : Int) < (l.length : Int) := by omega
          obtain ⟨ad, rfl, _, hcell⟩ := came_str HC.out hlt
          have hsz := HS.out l[i] (List.getElem_mem hlt)
          have hB := HB1.out l[i] (List.getElem_mem hlt)
          have HI2 : Hid (l[i].size ≤ 100 → ∀ j (h : j < l.length), j < i + 1 → l[j].size ≤ 100) := Lib.hid (fun h j hj hji => by
            by_cases e : j = i
            · subst e; exact h
            · exact HI.out j hj (by omega))
          generalize l[i] = x at *
          have hx9 : (x.size : Int) ≤ 9223372036854775807 := by unfold maxLen at hsz; omega
          have hi200 : i ≤ 200 := by omega
          by_cases hx : (100 : Int) < (x.size : Int)
          · have HF := Lib.hid (hB (by omega))
            clear hB HI HI2 HB1 HB2 HB3 HC HA HS HT
            go_wp2
            go_returns
            exact ⟨rets1 (congrArg Value.bool HF.out), Below.refl _ _⟩
          · have HI3 := Lib.hid (HI2.out (by omega))
            clear hB HI HI2
            go_wp2
            go_roundg (l.length - (i + 1))
            case measure => omega
            case rel => exact ⟨i + 1, by simp, by omega, by omega, Lib.hid rfl, HI3⟩
        · have hlt2 : ¬ (i : Int) < (l.length : Int) := by omega
          have HI1 : Hid (∀ j (h : j < l.length), l[j].size ≤ 100) := Lib.hid (fun j h => HI.out j h (by omega))
          clear HI HC HS HB1 hlt
          go_wp2_with fail
          go_loopg [29] acts.length (fun gk jv wq => ∃ j : Nat, jv = .int .i64 (j : Int) ∧ j ≤ acts.length ∧ acts.length - j ≤ gk ∧ Hid (Below w.heap.size w wq) ∧ Hid (∀ k (h : k < acts.length), k < j → acts[k].2.size ≤ 100))
          case atStart => exact ⟨0, rfl, by omega, by omega, Lib.hid (Below.refl _ _), Lib.hid (fun j _ h => by omega)⟩
          case round =>
            obtain ⟨j, rfl, hj, hgk2, HW2, HJ⟩ := hrel
            by_cases hlt : j < acts.length
            · have hlt2 : (j : Int) < (acts.length : Int) := by omega
              obtain ⟨ad, rfl, _, hcell⟩ := (HA.out.below HW2.out).first (by rw [kts_length]; omega)
              have hg2 := kts_get hlt
              have hc0 := hcell (2 * j) (.int .i64 acts[j].1) hg2.1
              have hc1 := hcell (2 * j + 1) (.string acts[j].2) hg2.2
              have hsz := (HT.out acts[j] (List.getElem_mem hlt)).2
              have hB := HB2.out acts[j] (List.getElem_mem hlt)
              have HJ2 : Hid (acts[j].2.size ≤ 100 → ∀ k (h : k < acts.length), k < j + 1 → acts[k].2.size ≤ 100) := Lib.hid (fun h k hk hkj => by
                by_cases e : k = j
                · subst e; exact h
                · exact HJ.out k hk (by omega))
              generalize acts[j] = act at *
              obtain ⟨kd, t⟩ := act
              replace hc0 : wr.cell? (ad.add (j * 2)) = some (.int .i64 kd) := by rw [Nat.mul_comm]; exact hc0
              replace hc1 : wr.cell? ⟨(ad.add (j * 2)).block, (ad.add (j * 2)).off + 1, none⟩ = some (.string t) := by rw [← add_field18 ad j]; exact hc1
              have hx9 : (t.size : Int) ≤ 9223372036854775807 := by
                have : t.size ≤ maxLen := hsz
                unfold maxLen at this; omega
              replace hB : 100 < t.size → true = G := hB
              replace HJ2 : Hid (t.size ≤ 100 → ∀ k (h : k < acts.length), k < j + 1 → acts[k].2.size ≤ 100) := HJ2
              have HBw := Lib.hid (HW2.out.alloc HW2.out.size (.cells #[.int .i64 kd, .string t] 37))
              have hj200 : j ≤ 200 := by omega
              clear hcell hg2 hsz
              by_cases hx : (100 : Int) < (t.size : Int)
              · have HF := Lib.hid (hB (by omega))
                clear hB HJ HJ2 HB2 HB3 HA HT HI1 HW2
                go_wp2
                go_returns
                exact ⟨rets1 (congrArg Value.bool HF.out), HBw.out⟩
              · have HJ3 := Lib.hid (HJ2.out (by omega))
                clear hB HJ HJ2 HW2
                go_wp2
                go_roundg (acts.length - (j + 1))
                case measure => omega
                case rel => exact ⟨j + 1, by simp, by omega, by omega, HBw, HJ3⟩
            · have hlt2 : ¬ (j : Int) < (acts.length : Int) := by omega
              have HF := Lib.hid (HB3.out HI1.out (fun k h => HJ.out k h (by omega)))
              clear HJ HB2 HB3 HA HT HI1
              go_wp2
              go_returns
              exact ⟨rets1 (congrArg Value.bool HF.out), HW2.out⟩
end Go.Proofs.Ytpdflpobhmpbpaa
