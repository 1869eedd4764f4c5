/- The States of the five layers that contents have, as value's code meets them: the State behind the bytes that came, what Start gives, and what Push gives of one byte more; each tells just whether the longer content is wrong. Of every tag of the layer, every length that can be, and every content that isn't wrong. -/
import Derived.Test.YtiiimhamfibdbaaV1
import Derived.Test.YtiiimhamfibdbaaN1
import Derived.Test.YtiiimhamfibdbaaO1
import Derived.Test.YtiiimhamfibdbaaBs
import Derived.Test.YtiiimhamfibdbaaW2
import Derived.Test.YtiiimhamfibdbaaT1
import Derived.Test.YtiiimhamfibdbaaV2
import Derived.Deep.RegionWith
import Derived.Deep.Cut
import Derived.Laws.EntriesVeiled
namespace Go.Proofs.Ytiiimhamfibdbaa
open Go.RowKit Go.PlainAid
set_option linter.unusedVariables false
def vOk (t n : Int) (l : List Int) : Bool := decide (vW t n l = -1)
theorem vOk_iff {t n : Int} {l : List Int} : vOk t n l = true ↔ vW t n l = -1 := by unfold vOk; exact decide_eq_true_iff
theorem vOk_not {t n : Int} {l : List Int} (hl : (l.length : Int) ≤ max n 0) : vOk t n l = !decide (0 ≤ vW t n l) := by
 have h := (v_first t n l hl).1.1
 unfold vOk
 rw [← decide_not]
 refine decide_eq_decide.2 ?_
 omega
section
variable {W : List Int → Int} {l : List Int} {x : Int}
theorem first_snoc (hf : FirstAt W (l ++ [x])) (h : W l = -1) : ¬ (0 ≤ W (l ++ [x]) ∧ W (l ++ [x]) ≤ (l.length : Int)) ∧ (W (l ++ [x]) = -1 ∨ W (l ++ [x]) = (l.length : Int) + 1) := by
 obtain ⟨⟨f1, f2⟩, f3⟩ := hf
 have := f3 l.length (by rw [List.length_append]; omega)
 rw [List.take_left, h] at this
 rw [List.length_append, List.length_singleton] at f2
 by_cases hc : 0 ≤ W (l ++ [x]) ∧ W (l ++ [x]) ≤ (l.length : Int)
 ·rw [if_pos hc] at this; omega
 ·exact ⟨hc, by omega⟩
end
theorem snoc_len (l : List Int) (x : Int) : (l ++ [x]).length = l.length + 1 := by rw [List.length_append]; rfl
theorem snoc_lt (l : List Int) (x : Int) : l.length < (l ++ [x]).length := by rw [snoc_len]; omega
theorem snoc_get (l : List Int) (x : Int) : (l ++ [x])[l.length]'(snoc_lt l x) = x := by simp
/-! ### numbers -/
def isNum (t : Int) : Prop := t = 1 ∨ t = 2 ∨ t = 5 ∨ t = 10
theorem vW_num {t n : Int} (h : isNum t) : vW t n = nWl t n := by
 unfold isNum at h
 funext l
 unfold vW
 rw [if_pos h]
def nS (t : Int) (l : List Int) : Int := nmAt t (g l 0) l.length
theorem nS_range (t : Int) (l : List Int) : 0 ≤ nS t l ∧ nS t l ≤ 5 := by
 unfold nS nmAt nmFirst nmSecond
 repeat' split
 all_goals omega
theorem numStart_v {t n : Int} (h : isNum t) (w : World) :
  Calls Try.prog 47 #[.int .i64 t, .int .i64 n] w fun e w' => ∃ s, e = .returned (.tuple #[.agg #[.int .u8 s], .bool (vOk t n [])]) ∧ (vOk t n [] = true → s = nS t []) ∧ Below w.heap.size w w' := by
 have hk : nmOk t n = vOk t n [] := by
  have h1 := nmOk_iff t n 0 (g [] 0) (g [] 1)
  have h2 := nW_range t n 0 (g [] 0) (g [] 1)
  have h3 := nW_len t n 0 (g [] 0) (g [] 1)
  have h4 : (vW t n [] : Int) = nW t n 0 (g [] 0) (g [] 1) := by rw [vW_num h]; rfl
  rw [Bool.eq_iff_iff, h1, vOk_iff, h4]
  omega
 have hs : nS t [] = nmFirst t := by unfold nS nmAt; exact if_pos rfl
 refine (nmStart_any t n w).mono ?_
 rintro e w' ⟨h1, h2⟩
 rw [hk] at h1
 exact ⟨_, h1, fun h => by rw [if_pos h, hs], h2⟩
theorem numPush_v {t n : Int} {l : List Int} (h : isNum t) (hv : vOk t n l = true) (hl : (l.length : Int) < n) (b : Int) (hb : 0 ≤ b ∧ b ≤ 255) (w : World) :
  Calls Try.prog 84 #[.agg #[.int .u8 (nS t l)], .int .u8 b] w fun e w' => ∃ s, e = .returned (.tuple #[.agg #[.int .u8 s], .bool (vOk t n (l ++ [b]))]) ∧ (vOk t n (l ++ [b]) = true → s = nS t (l ++ [b])) ∧ Below w.heap.size w w' := by
 have hr := nS_range t l
 rw [vOk_iff, vW_num h] at hv
 obtain ⟨q1, q2⟩ := first_snoc (x := b) (num_first t n (l ++ [b])) hv
 have e1 : nWl t n (l ++ [b]) = nW t n (l.length + 1) (g (l ++ [b]) 0) (g (l ++ [b]) 1) := by unfold nWl; rw [snoc_len]
 have hg : nS t l = nmAt t (g (l ++ [b]) 0) l.length := by
  unfold nS
  by_cases h0 : l.length = 0
  ·unfold nmAt; rw [if_pos h0, if_pos h0]
  ·rw [g_left (by omega)]
 have hok : nmOk t n = true := by
  rw [nmOk_iff t n (l.length + 1) (g (l ++ [b]) 0) (g (l ++ [b]) 1), ← e1]
  omega
 rw [e1] at q1 q2
 have hstep := nm_step t n (l.length + 1) l.length (g (l ++ [b]) 0) (g (l ++ [b]) 1) b hok (by omega) (by omega)
  (fun h0 => by rw [g_right (by omega), h0]; rfl) (fun h1 => by rw [g_right (by omega), h1]; rfl) q1
 rw [← hg] at hstep
 have hn : nmAt t (g (l ++ [b]) 0) (l.length + 1) = nS t (l ++ [b]) := by unfold nS; rw [snoc_len]
 rw [hn] at hstep
 have hko : vOk t n (l ++ [b]) = decide (¬ nW t n (l.length + 1) (g (l ++ [b]) 0) (g (l ++ [b]) 1) = (l.length : Int) + 1) := by
  unfold vOk
  rw [vW_num h, e1]
  refine decide_eq_decide.2 ?_
  omega
 refine (nmPush_any (nS t l) b hr hb w).mono ?_
 rintro e w' ⟨h1, h2⟩
 rw [hstep] at h1
 by_cases hc : nW t n (l.length + 1) (g (l ++ [b]) 0) (g (l ++ [b]) 1) = (l.length : Int) + 1
 ·rw [if_pos hc] at h1
  rw [hko, decide_eq_false (fun x => x hc)]
  exact ⟨_, h1, (fun x => by cases x), h2⟩
 ·rw [if_neg hc] at h1
  rw [hko, decide_eq_true hc]
  exact ⟨_, h1, fun _ => rfl, h2⟩
/-! ### object identifiers -/
theorem vW_oid {n : Int} : vW 6 n = oidWrong n := by funext l; unfold vW; rw [if_neg (by omega), if_pos rfl]
def oLeft (n : Int) (l : List Int) : Int := n - l.length
def oWith (l : List Int) : Bool := !oFresh l l.length
theorem oidStart_v (n : Int) (w : World) :
  Calls Try.prog 49 #[.int .i64 n] w fun e w' => ∃ x, e = .returned (.tuple #[.agg #[.int .i64 x, .bool (oWith [])], .bool (vOk 6 n [])]) ∧ (vOk 6 n [] = true → x = oLeft n []) ∧ Below w.heap.size w w' := by
 have hk : decide (1 ≤ n) = vOk 6 n [] := by
  unfold vOk
  rw [vW_oid]
  refine decide_eq_decide.2 ?_
  have e : oidWrong n [] = if n < 1 then 0 else -1 := rfl
  rw [e]
  by_cases h : n < 1
  ·rw [if_pos h]; omega
  ·rw [if_neg h]; omega
 refine (oidStart_any n w).mono ?_
 rintro e w' ⟨h1, h2⟩
 have hk2 := hk
 rw [hk] at h1
 refine ⟨_, h1, fun h => ?_, h2⟩
 rw [← hk2] at h
 have h := of_decide_eq_true h
 unfold oStart oLeft
 rw [if_pos h]
 simp
theorem oidPush_v {n : Int} {l : List Int} (hv : vOk 6 n l = true) (hl : (l.length : Int) < n) (hn9 : n ≤ 9223372036854775807) (b : Int) (hb : 0 ≤ b ∧ b ≤ 255) (w : World) :
  Calls Try.prog 87 #[.agg #[.int .i64 (oLeft n l), .bool (oWith l)], .int .u8 b] w fun e w' => ∃ x y, e = .returned (.tuple #[.agg #[.int .i64 x, .bool y], .bool (vOk 6 n (l ++ [b]))]) ∧ (vOk 6 n (l ++ [b]) = true → x = oLeft n (l ++ [b]) ∧ y = oWith (l ++ [b])) ∧ Below w.heap.size w w' := by
 rw [vOk_iff, vW_oid] at hv
 obtain ⟨q1, q2⟩ := first_snoc (x := b) (oid_first n (l ++ [b])) hv
 have e1 : oidWrong n (l ++ [b]) = oW n true 0 (l ++ [b]) := by unfold oidWrong; rw [if_neg (by omega)]
 rw [e1] at q1 q2
 have hfr : oFresh (l ++ [b]) l.length = oFresh l l.length := by
  unfold oFresh
  by_cases h0 : l.length = 0
  ·rw [if_pos h0, if_pos h0]
  ·rw [if_neg h0, if_neg h0, List.getD_eq_getElem?_getD, List.getElem?_append_left (by omega), ← List.getD_eq_getElem?_getD]
 have hstep := oid_step n (l ++ [b]) l.length (snoc_lt l b) hl q1
 rw [snoc_get, hfr] at hstep
 have hko : vOk 6 n (l ++ [b]) = decide (¬ oW n true 0 (l ++ [b]) = (l.length : Int) + 1) := by
  unfold vOk
  rw [vW_oid, e1]
  refine decide_eq_decide.2 ?_
  omega
 refine (oidPush_any (oLeft n l) (oWith l) b (by unfold oLeft; omega) hb w).mono ?_
 rintro e w' ⟨h1, h2⟩
 unfold oLeft oWith at h1
 rw [hstep] at h1
 by_cases hc : oW n true 0 (l ++ [b]) = (l.length : Int) + 1
 ·rw [if_pos hc] at h1
  rw [hko, decide_eq_false (fun x => x hc)]
  exact ⟨_, _, h1, (fun x => by cases x), h2⟩
 ·rw [if_neg hc] at h1
  rw [hko, decide_eq_true hc]
  refine ⟨_, _, h1, fun _ => ⟨?_, ?_⟩, h2⟩
  ·unfold oLeft; rw [snoc_len]
  ·unfold oWith; rw [snoc_len]
/-! ### bit strings -/
theorem vW_bits {n : Int} : vW 3 n = bWl n := by funext l; unfold vW; rw [if_neg (by omega), if_neg (by omega), if_pos rfl]
def bU (l : List Int) : Int := if l.length = 0 then 0 else g l 0
theorem bU_range {n : Int} {l : List Int} (hv : bWl n l = -1) (hB : IsB l) : 0 ≤ bU l ∧ bU l ≤ 7 := by
 unfold bU
 by_cases h0 : l.length = 0
 ·rw [if_pos h0]; omega
 ·rw [if_neg h0]
  have h1 : 0 ≤ g l 0 := by rw [g_at (by omega)]; exact (hB _ (List.getElem_mem _)).1
  refine ⟨h1, ?_⟩
  unfold bWl at hv
  by_cases hn : n < 1
  ·rw [if_pos hn] at hv; omega
  ·rw [if_neg hn] at hv
   by_cases hc : cB (g l 0) n = false
   ·rw [if_pos ⟨by omega, hc⟩] at hv; omega
   ·exact cB_le (by simpa using hc)
theorem bsStart_v (n : Int) (w : World) :
  Calls Try.prog 51 #[.int .i64 n] w fun e w' => ∃ x, e = .returned (.tuple #[.agg #[.int .i64 x, .bool (decide (0 < ([] : List Int).length)), .int .u8 (bU [])], .bool (vOk 3 n [])]) ∧ (vOk 3 n [] = true → x = oLeft n []) ∧ Below w.heap.size w w' := by
 have hk : decide (1 ≤ n) = vOk 3 n [] := by
  unfold vOk
  rw [vW_bits]
  refine decide_eq_decide.2 ?_
  unfold bWl
  by_cases h : n < 1
  ·rw [if_pos h]; omega
  ·rw [if_neg h, if_neg (by simp), if_neg (by simp; omega)]; omega
 refine (bsStart_any n w).mono ?_
 rintro e w' ⟨h1, h2⟩
 have hk2 := hk
 rw [hk] at h1
 refine ⟨_, h1, fun h => ?_, h2⟩
 rw [← hk2] at h
 have h := of_decide_eq_true h
 unfold bStart oLeft
 rw [if_pos h]
 simp
theorem bsPush_v {n : Int} {l : List Int} (hB : IsB l) (hv : vOk 3 n l = true) (hl : (l.length : Int) < n) (hn9 : n ≤ 9223372036854775807) (b : Int) (hb : 0 ≤ b ∧ b ≤ 255) (w : World) :
  Calls Try.prog 88 #[.agg #[.int .i64 (oLeft n l), .bool (decide (0 < l.length)), .int .u8 (bU l)], .int .u8 b] w fun e w' => ∃ x y z, e = .returned (.tuple #[.agg #[.int .i64 x, .bool y, .int .u8 z], .bool (vOk 3 n (l ++ [b]))]) ∧ (vOk 3 n (l ++ [b]) = true → x = oLeft n (l ++ [b]) ∧ y = decide (0 < (l ++ [b]).length) ∧ z = bU (l ++ [b])) ∧ Below w.heap.size w w' := by
 rw [vOk_iff, vW_bits] at hv
 have hu := bU_range hv hB
 have hlen2 : ((l ++ [b]).length : Int) ≤ n := by rw [snoc_len]; omega
 obtain ⟨q1, q2⟩ := first_snoc (x := b) (bits_first n (l ++ [b]) hlen2) hv
 have hB2 : IsB (l ++ [b]) := hB.append (IsB.cons hb.1 hb.2 IsB.nil)
 obtain ⟨s, hs⟩ : ∃ s : ByteArray, bl s = l ++ [b] := ⟨strOfNums (l ++ [b]), bl_str hB2⟩
 have hsz : s.size = l.length + 1 := by rw [← bl_length, hs, snoc_len]
 have e1 : bWl n (l ++ [b]) = bsW n s := by unfold bsW bWl; rw [← hs, bl_length, bt_g, bt_g]
 rw [e1] at q1 q2
 have hstep := bs_step n s l.length (by omega) (by rw [hsz]; omega) q1
 have hbt : bt s l.length = b := by rw [bt_g, hs, g_last]
 have hbu : bUn s l.length = bU l := by
  unfold bUn bU
  by_cases h0 : l.length = 0
  ·rw [if_pos h0, if_pos h0]
  ·rw [if_neg h0, if_neg h0, bt_g, hs, g_left (by omega)]
 have hb0 : bt s 0 = bU (l ++ [b]) := by unfold bU; rw [if_neg (by rw [snoc_len]; omega), bt_g, hs]
 rw [hbt, hbu] at hstep
 have hko : vOk 3 n (l ++ [b]) = decide (¬ bsW n s = (l.length : Int) + 1) := by
  unfold vOk
  rw [vW_bits, e1]
  refine decide_eq_decide.2 ?_
  omega
 refine (bsPush_any (oLeft n l) (decide (0 < l.length)) (bU l) b (by unfold oLeft; omega) hu hb w).mono ?_
 rintro e w' ⟨h1, h2⟩
 unfold oLeft at h1
 by_cases hc : bsW n s = (l.length : Int) + 1
 ·rw [hstep.1 hc] at h1
  rw [hko, decide_eq_false (fun x => x hc)]
  exact ⟨_, _, _, h1, (fun x => by cases x), h2⟩
 ·rw [(hstep.2 hc).1] at h1
  rw [hko, decide_eq_true hc]
  refine ⟨_, _, _, h1, fun _ => ⟨?_, ?_, hb0⟩, h2⟩
  ·unfold oLeft; rw [snoc_len]
  ·rw [decide_eq_true (by rw [snoc_len]; omega : 0 < (l ++ [b]).length)]
/-! ### times -/
def isWhen (t : Int) : Prop := t = 23 ∨ t = 24
theorem vW_when {t n : Int} (h : isWhen t) : vW t n = whW t n := by
 funext l
 unfold vW
 unfold isWhen at h
 rw [if_neg (by omega), if_neg (by omega), if_neg (by omega), if_pos h]
theorem wh_good {t n : Int} {l : List Int} : whW t n l = -1 ↔ ∀ j, j ≤ l.length → canP t n (l.take j) := by
 unfold whW
 rcases whF_spec t n l (l.length + 1) 0 with ⟨h1, h2⟩ | ⟨m, _, h2, h3, h4, h5⟩
 ·exact ⟨fun _ j hj => h2 j (by omega) (by omega), fun _ => h1⟩
 ·refine ⟨fun h => by omega, fun h => absurd (h m (by omega)) h4⟩
theorem wh_can {t n : Int} {l : List Int} (h : whW t n l = -1) : canP t n l := by
 have := wh_good.1 h l.length (Nat.le_refl _)
 rw [List.take_length] at this
 exact this
theorem wh_snoc {t n : Int} {l : List Int} {x : Int} (h : whW t n l = -1) : whW t n (l ++ [x]) = -1 ↔ canP t n (l ++ [x]) := by
 refine ⟨wh_can, fun hc => wh_good.2 (fun j hj => ?_)⟩
 rw [snoc_len] at hj
 by_cases h1 : j ≤ l.length
 ·rw [List.take_append_of_le_length h1]; exact wh_good.1 h j h1
 ·rw [List.take_of_length_le (by rw [snoc_len]; omega)]; exact hc
theorem whenStart_v {t n : Int} (h : isWhen t) (w : World) :
  Calls Try.prog 53 #[.int .i64 t, .int .i64 n] w fun e w' => ∃ s : WS, e = .returned (.tuple #[.agg #[.int .u8 s.p, .int .i64 s.l, .int .i64 s.v, .int .i64 s.y, .int .i64 s.m], .bool (vOk t n [])]) ∧ (vOk t n [] = true → s = wSt t []) ∧ Below w.heap.size w w' := by
 have hz := wh_zero t n []
 have hr := wh_range t n []
 have hk : vOk t n [] = decide (typ t n) := by
  unfold vOk
  rw [vW_when h]
  refine decide_eq_decide.2 ?_
  have : whW t n [] ≤ 0 := hr.2
  by_cases ht : typ t n
  ·have : whW t n [] ≠ 0 := fun e => (hz.1 e) ht
   exact ⟨fun _ => ht, fun _ => by omega⟩
  ·have := hz.2 ht
   exact ⟨fun e => by omega, fun e => absurd e ht⟩
 refine (wStart_any t n w).mono ?_
 rintro e w' ⟨h1, h2⟩
 rw [w_start] at h1
 by_cases ht : typ t n
 ·rw [if_pos ht] at h1
  rw [hk, decide_eq_true ht]
  exact ⟨_, h1, fun _ => rfl, h2⟩
 ·rw [if_neg ht] at h1
  rw [hk, decide_eq_false ht]
  exact ⟨_, h1, (fun x => by cases x), h2⟩
theorem whenPush_v {t n : Int} {l : List Int} (h : isWhen t) (hv : vOk t n l = true) (b : Int) (hb : 0 ≤ b ∧ b ≤ 255) (w : World) :
  Calls Try.prog 92 #[.agg #[.int .u8 (wSt t l).p, .int .i64 (wSt t l).l, .int .i64 (wSt t l).v, .int .i64 (wSt t l).y, .int .i64 (wSt t l).m], .int .u8 b] w fun e w' => ∃ s : WS, e = .returned (.tuple #[.agg #[.int .u8 s.p, .int .i64 s.l, .int .i64 s.v, .int .i64 s.y, .int .i64 s.m], .bool (vOk t n (l ++ [b]))]) ∧ (vOk t n (l ++ [b]) = true → s = wSt t (l ++ [b])) ∧ Below w.heap.size w w' := by
 rw [vOk_iff, vW_when h] at hv
 have hc := wh_can hv
 have hp := w_push hc b
 have hko : vOk t n (l ++ [b]) = decide (canP t n (l ++ [b])) := by
  unfold vOk
  rw [vW_when h]
  exact decide_eq_decide.2 (wh_snoc hv)
 have hok := wSt_ok hc
 generalize wSt t l = S at *
 obtain ⟨p0, l0, v0, y0, m0⟩ := S
 refine (wPush_any p0 l0 v0 y0 m0 b hok hb w).mono ?_
 rintro e w' ⟨h1, h2⟩
 rw [hp] at h1
 by_cases hcc : canP t n (l ++ [b])
 ·rw [if_pos hcc] at h1
  rw [hko, decide_eq_true hcc]
  exact ⟨_, h1, fun _ => rfl, h2⟩
 ·rw [if_neg hcc] at h1
  rw [hko, decide_eq_false hcc]
  exact ⟨_, h1, (fun x => by cases x), h2⟩
/-! ### strings -/
def isText (t : Int) : Prop := ¬ (t = 1 ∨ t = 2 ∨ t = 5 ∨ t = 10 ∨ t = 6 ∨ t = 3 ∨ t = 23 ∨ t = 24)
theorem vW_text {t n : Int} (h : isText t) : vW t n = txW t n := by
 funext l
 unfold vW
 unfold isText at h
 rw [if_neg (by omega), if_neg (by omega), if_neg (by omega), if_neg (by omega)]
theorem textStart_v {t n : Int} (h : isText t) (hn : 0 ≤ n) (w : World) :
  Calls Try.prog 55 #[.int .i64 t, .int .i64 n] w fun e w' => e = .returned (.tuple #[.agg #[.int .i64 (tSt t n []).p, .int .i64 (tSt t n []).l, .int .i64 (tSt t n []).v, .int .u8 (tSt t n []).y, .int .u8 (tSt t n []).m], .bool (vOk t n [])]) ∧ vOk t n [] = true ∧ Below w.heap.size w w' := by
 have hz := tx_zero t n []
 have hr := tx_range t n []
 have hk : vOk t n [] = true := by
  rw [vOk_iff, vW_text h]
  have h1 : txW t n [] ≤ 0 := hr.2
  have h2 : txW t n [] ≠ 0 := fun e => by have := hz.1 e; omega
  omega
 have hs : tSt t n [] = ⟨t, n, 0, 0, 0⟩ := by
  rcases tAt_start (tag := t) (l := []) hn with ⟨_, _, h3⟩ | ⟨h3, _⟩
  ·exact h3.symm
  ·cases h3
 rw [hs, hk]
 refine (textStart_yes t n hn w).mono ?_
 rintro e w' ⟨h1, h2⟩
 exact ⟨h1, rfl, h2⟩
theorem textPush_v {t n : Int} {l : List Int} (h : isText t) (hv : vOk t n l = true) (hl : (l.length : Int) < n) (hn9 : n ≤ 9223372036854775807) (b : Int) (hb : 0 ≤ b ∧ b ≤ 255) (w : World) :
  Calls Try.prog 100 #[.agg #[.int .i64 (tSt t n l).p, .int .i64 (tSt t n l).l, .int .i64 (tSt t n l).v, .int .u8 (tSt t n l).y, .int .u8 (tSt t n l).m], .int .u8 b] w fun e w' => ∃ s : TS, e = .returned (.tuple #[.agg #[.int .i64 s.p, .int .i64 s.l, .int .i64 s.v, .int .u8 s.y, .int .u8 s.m], .bool (vOk t n (l ++ [b]))]) ∧ (vOk t n (l ++ [b]) = true → s = tSt t n (l ++ [b])) ∧ Below w.heap.size w w' := by
 rw [vOk_iff, vW_text h] at hv
 obtain ⟨q1, q2⟩ := first_snoc (x := b) (tx_first t n (l ++ [b])) hv
 have hat : TAt t n (l ++ [b]) l.length ⟨(tSt t n l).p, (tSt t n l).l, (tSt t n l).v, (tSt t n l).y, (tSt t n l).m⟩ true := .inl ⟨rfl, q1, by rw [List.take_left]⟩
 have hst := tx_step t n (l ++ [b]) l.length (snoc_lt l b) q1
 have htk : (l ++ [b]).take (l.length + 1) = l ++ [b] := List.take_of_length_le (by rw [snoc_len]; omega)
 rw [htk] at hst
 have hko : vOk t n (l ++ [b]) = decide (canT t n (l ++ [b])) := by
  unfold vOk
  rw [vW_text h]
  refine decide_eq_decide.2 ⟨fun e => ?_, fun e => ?_⟩
  ·by_cases hc : canT t n (l ++ [b])
   ·exact hc
   ·have := hst.2 hc; omega
  ·rcases q2 with h2 | h2
   ·exact h2
   ·exact absurd e (hst.1 h2)
 have hS : tStep t n (l ++ [b]) l.length = ((if canT t n (l ++ [b]) then tSt t n (l ++ [b]) else TS.no), decide (canT t n (l ++ [b]))) := by
  unfold tStep
  rw [htk]
  by_cases hc : canT t n (l ++ [b])
  ·rw [if_pos hc, if_pos hc, decide_eq_true hc]
  ·rw [if_neg hc, if_neg hc, decide_eq_false hc]
 obtain ⟨⟨p0, q0, v0, y0, m0⟩, hSe⟩ : ∃ S : TS, (if canT t n (l ++ [b]) then tSt t n (l ++ [b]) else TS.no) = S := ⟨_, rfl⟩
 rw [hSe] at hS
 have hp := tPush_is hat (snoc_lt l b) (by rw [snoc_len]; omega) hn9 (by rw [snoc_get]; exact hb) hS w
 rw [snoc_get] at hp
 refine hp.mono ?_
 rintro e w' ⟨h1, h2⟩
 rw [hko]
 refine ⟨⟨p0, q0, v0, y0, m0⟩, h1, fun hc => ?_, h2⟩
 rw [← hSe, if_pos (of_decide_eq_true hc)]
end Go.Proofs.Ytiiimhamfibdbaa
/- What takes a content's next byte: a closure over the layer's State. Of every tag of the layer, every length that can be, every content that isn't wrong, and every byte. -/
namespace Go.Proofs.Ytiiimhamfibdbaa
open Go.RowKit Go.PlainAid
set_option linter.unusedVariables false
abbrev fnPtr (K : FuncId) (kb : Nat) : Value := .func (.func K) #[] #[.pointer (some ⟨kb, 0, none⟩)]
abbrev anyFn : Value := .func (.func 15) #[] #[]
theorem any_any (b : Int) (w : World) :
  Calls Try.prog 15 #[.int .u8 b] w fun e w' => e = .returned (.tuple #[anyFn, .bool true]) ∧ w' = w := by
 go_enter Try.func15, Try.ntmps15
 go_wp2
 go_returns
 exact ⟨rfl, rfl⟩
theorem numBe_any (a0 : Int) (ok : Bool) (w : World) :
  Calls Try.prog 46 #[.agg #[.int .u8 a0], .bool ok] w fun e w' => ∃ v, e = .returned (.tuple #[v, .bool ok]) ∧ (ok = true → ∃ kb, v = fnPtr 59 kb ∧ w.heap.size ≤ kb ∧ Row w' kb 95 [.int .u8 a0]) ∧ (ok = false → v = .nilFunc) ∧ Below w.heap.size w w' := by
 have hmf : ∀ (fn : Fn) (first cap : Array Value) (w : World), (Instr.makeFunc fn first cap).run Try.prog w = .ok (.func fn first cap) w := fun _ _ _ _ => rfl
 cases ok
 all_goals
  go_enter Try.func46, Try.ntmps46
  go_wp2
  go_returns
 ·exact ⟨_, rfl, (fun h => by cases h), (fun _ => rfl), (Below.refl _ _).alloc (Nat.le_refl _) _⟩
 ·exact ⟨_, rfl, (fun _ => ⟨_, rfl, Nat.le_refl _, Row.new w 95 [.int .u8 a0]⟩), (fun h => by cases h), (Below.refl _ _).alloc (Nat.le_refl _) _⟩
set_option maxRecDepth 100000 in
theorem numFn_any {t n : Int} {l : List Int} (h : isNum t) (hv : vOk t n l = true) (hl : (l.length : Int) < n) (hn9 : n ≤ 9223372036854775807) (b : Int) (hb : 0 ≤ b ∧ b ≤ 255) {kb : Nat} {w : World} (hR : Row w kb 95 [.int .u8 (nS t l)]) :
  Calls Try.prog 59 #[.int .u8 b, .pointer (some ⟨kb, 0, none⟩)] w fun e w' => ∃ v, e = .returned (.tuple #[v, .bool (vOk t n (l ++ [b]))]) ∧ (vOk t n (l ++ [b]) = true → ∃ k2, v = fnPtr 59 k2 ∧ w.heap.size ≤ k2 ∧ Row w' k2 95 [.int .u8 (nS t (l ++ [b]))]) ∧ (vOk t n (l ++ [b]) = false → v = .nilFunc) ∧ Below w.heap.size w w' := by
 have HP := Lib.hid (numPush_v h hv hl b hb)
 have HO := Lib.hid numBe_any
 clear hv
 generalize hg0 : nS t l = a0 at *
 have k0 : w.cell? ⟨kb, 0, none⟩ = some (.int .u8 a0) := hR.cell 0
 generalize vOk t n (l ++ [b]) = B at *
 clear hR
 go_enter Try.func59, Try.ntmps59
 go_wp2_with fail
 refine (HP.out _).mono ?_
 rintro e w1 ⟨s1, rfl, hs1, hb1⟩
 have hz := hb1.size
 go_wp2_with fail
 refine (HO.out _ _ _).mono ?_
 rintro e w2 ⟨v, rfl, hk2, hn2, hb2⟩
 have hbf : Below w.heap.size w w2 := hb1.trans (hb2.mono hz)
 have hRf : B = true → ∃ k2, v = fnPtr 59 k2 ∧ w.heap.size ≤ k2 ∧ Row w2 k2 95 [.int .u8 (nS t (l ++ [b]))] := fun hB => by
  obtain ⟨k2, e1, e2, hR2⟩ := hk2 hB
  refine ⟨k2, e1, by omega, ?_⟩
  rw [← hs1 hB]; exact hR2
 have HRf := Lib.hid hRf
 have HNf := Lib.hid hn2
 clear hb1 hb2 hk2 hRf hn2 HO HP
 go_wp2
 go_returns
 exact ⟨_, rfl, HRf.out, HNf.out, hbf⟩
theorem oidBe_any (a0 : Int) (a1 : Bool) (ok : Bool) (w : World) :
  Calls Try.prog 48 #[.agg #[.int .i64 a0, .bool a1], .bool ok] w fun e w' => ∃ v, e = .returned (.tuple #[v, .bool ok]) ∧ (ok = true → ∃ kb, v = fnPtr 62 kb ∧ w.heap.size ≤ kb ∧ Row w' kb 100 [.int .i64 a0, .bool a1]) ∧ (ok = false → v = .nilFunc) ∧ Below w.heap.size w w' := by
 have hmf : ∀ (fn : Fn) (first cap : Array Value) (w : World), (Instr.makeFunc fn first cap).run Try.prog w = .ok (.func fn first cap) w := fun _ _ _ _ => rfl
 cases ok
 all_goals
  go_enter Try.func48, Try.ntmps48
  go_wp2
  go_returns
 ·exact ⟨_, rfl, (fun h => by cases h), (fun _ => rfl), (Below.refl _ _).alloc (Nat.le_refl _) _⟩
 ·exact ⟨_, rfl, (fun _ => ⟨_, rfl, Nat.le_refl _, Row.new w 100 [.int .i64 a0, .bool a1]⟩), (fun h => by cases h), (Below.refl _ _).alloc (Nat.le_refl _) _⟩
set_option maxRecDepth 100000 in
theorem oidFn_any {n : Int} {l : List Int} (hv : vOk 6 n l = true) (hl : (l.length : Int) < n) (hn9 : n ≤ 9223372036854775807) (b : Int) (hb : 0 ≤ b ∧ b ≤ 255) {kb : Nat} {w : World} (hR : Row w kb 100 [.int .i64 (oLeft n l), .bool (oWith l)]) :
  Calls Try.prog 62 #[.int .u8 b, .pointer (some ⟨kb, 0, none⟩)] w fun e w' => ∃ v, e = .returned (.tuple #[v, .bool (vOk 6 n (l ++ [b]))]) ∧ (vOk 6 n (l ++ [b]) = true → ∃ k2, v = fnPtr 62 k2 ∧ w.heap.size ≤ k2 ∧ Row w' k2 100 [.int .i64 (oLeft n (l ++ [b])), .bool (oWith (l ++ [b]))]) ∧ (vOk 6 n (l ++ [b]) = false → v = .nilFunc) ∧ Below w.heap.size w w' := by
 have HP := Lib.hid (oidPush_v hv hl hn9 b hb)
 have HO := Lib.hid oidBe_any
 clear hv
 generalize hg0 : (oLeft n l) = a0 at *
 generalize hg1 : (oWith l) = a1 at *
 have k0 : w.cell? ⟨kb, 0, none⟩ = some (.int .i64 a0) := hR.cell 0
 have k1 : w.cell? ⟨kb, 1, none⟩ = some (.bool a1) := hR.cell 1
 generalize vOk 6 n (l ++ [b]) = B at *
 clear hR
 go_enter Try.func62, Try.ntmps62
 go_wp2_with fail
 refine (HP.out _).mono ?_
 rintro e w1 ⟨x1, y1, rfl, hs1, hb1⟩
 have hz := hb1.size
 go_wp2_with fail
 refine (HO.out _ _ _ _).mono ?_
 rintro e w2 ⟨v, rfl, hk2, hn2, hb2⟩
 have hbf : Below w.heap.size w w2 := hb1.trans (hb2.mono hz)
 have hRf : B = true → ∃ k2, v = fnPtr 62 k2 ∧ w.heap.size ≤ k2 ∧ Row w2 k2 100 [.int .i64 (oLeft n (l ++ [b])), .bool (oWith (l ++ [b]))] := fun hB => by
  obtain ⟨k2, e1, e2, hR2⟩ := hk2 hB
  refine ⟨k2, e1, by omega, ?_⟩
  rw [← (hs1 hB).1, ← (hs1 hB).2]; exact hR2
 have HRf := Lib.hid hRf
 have HNf := Lib.hid hn2
 clear hb1 hb2 hk2 hRf hn2 HO HP
 go_wp2
 go_returns
 exact ⟨_, rfl, HRf.out, HNf.out, hbf⟩
theorem bitsBe_any (a0 : Int) (a1 : Bool) (a2 : Int) (ok : Bool) (w : World) :
  Calls Try.prog 50 #[.agg #[.int .i64 a0, .bool a1, .int .u8 a2], .bool ok] w fun e w' => ∃ v, e = .returned (.tuple #[v, .bool ok]) ∧ (ok = true → ∃ kb, v = fnPtr 63 kb ∧ w.heap.size ≤ kb ∧ Row w' kb 105 [.int .i64 a0, .bool a1, .int .u8 a2]) ∧ (ok = false → v = .nilFunc) ∧ Below w.heap.size w w' := by
 have hmf : ∀ (fn : Fn) (first cap : Array Value) (w : World), (Instr.makeFunc fn first cap).run Try.prog w = .ok (.func fn first cap) w := fun _ _ _ _ => rfl
 cases ok
 all_goals
  go_enter Try.func50, Try.ntmps50
  go_wp2
  go_returns
 ·exact ⟨_, rfl, (fun h => by cases h), (fun _ => rfl), (Below.refl _ _).alloc (Nat.le_refl _) _⟩
 ·exact ⟨_, rfl, (fun _ => ⟨_, rfl, Nat.le_refl _, Row.new w 105 [.int .i64 a0, .bool a1, .int .u8 a2]⟩), (fun h => by cases h), (Below.refl _ _).alloc (Nat.le_refl _) _⟩
set_option maxRecDepth 100000 in
theorem bitsFn_any {n : Int} {l : List Int} (hB : IsB l) (hv : vOk 3 n l = true) (hl : (l.length : Int) < n) (hn9 : n ≤ 9223372036854775807) (b : Int) (hb : 0 ≤ b ∧ b ≤ 255) {kb : Nat} {w : World} (hR : Row w kb 105 [.int .i64 (oLeft n l), .bool (decide (0 < l.length)), .int .u8 (bU l)]) :
  Calls Try.prog 63 #[.int .u8 b, .pointer (some ⟨kb, 0, none⟩)] w fun e w' => ∃ v, e = .returned (.tuple #[v, .bool (vOk 3 n (l ++ [b]))]) ∧ (vOk 3 n (l ++ [b]) = true → ∃ k2, v = fnPtr 63 k2 ∧ w.heap.size ≤ k2 ∧ Row w' k2 105 [.int .i64 (oLeft n (l ++ [b])), .bool (decide (0 < (l ++ [b]).length)), .int .u8 (bU (l ++ [b]))]) ∧ (vOk 3 n (l ++ [b]) = false → v = .nilFunc) ∧ Below w.heap.size w w' := by
 have HP := Lib.hid (bsPush_v hB hv hl hn9 b hb)
 have HO := Lib.hid bitsBe_any
 clear hv
 generalize hg0 : (oLeft n l) = a0 at *
 generalize hg1 : (decide (0 < l.length)) = a1 at *
 generalize hg2 : (bU l) = a2 at *
 have k0 : w.cell? ⟨kb, 0, none⟩ = some (.int .i64 a0) := hR.cell 0
 have k1 : w.cell? ⟨kb, 1, none⟩ = some (.bool a1) := hR.cell 1
 have k2 : w.cell? ⟨kb, 2, none⟩ = some (.int .u8 a2) := hR.cell 2
 generalize vOk 3 n (l ++ [b]) = B at *
 clear hR
 go_enter Try.func63, Try.ntmps63
 go_wp2_with fail
 refine (HP.out _).mono ?_
 rintro e w1 ⟨x1, y1, z1, rfl, hs1, hb1⟩
 have hz := hb1.size
 go_wp2_with fail
 refine (HO.out _ _ _ _ _).mono ?_
 rintro e w2 ⟨v, rfl, hk2, hn2, hb2⟩
 have hbf : Below w.heap.size w w2 := hb1.trans (hb2.mono hz)
 have hRf : B = true → ∃ k2, v = fnPtr 63 k2 ∧ w.heap.size ≤ k2 ∧ Row w2 k2 105 [.int .i64 (oLeft n (l ++ [b])), .bool (decide (0 < (l ++ [b]).length)), .int .u8 (bU (l ++ [b]))] := fun hB => by
  obtain ⟨k2, e1, e2, hR2⟩ := hk2 hB
  refine ⟨k2, e1, by omega, ?_⟩
  rw [← (hs1 hB).1, ← (hs1 hB).2.1, ← (hs1 hB).2.2]; exact hR2
 have HRf := Lib.hid hRf
 have HNf := Lib.hid hn2
 clear hb1 hb2 hk2 hRf hn2 HO HP
 go_wp2
 go_returns
 exact ⟨_, rfl, HRf.out, HNf.out, hbf⟩
theorem whenBe_any (a0 : Int) (a1 : Int) (a2 : Int) (a3 : Int) (a4 : Int) (ok : Bool) (w : World) :
  Calls Try.prog 52 #[.agg #[.int .u8 a0, .int .i64 a1, .int .i64 a2, .int .i64 a3, .int .i64 a4], .bool ok] w fun e w' => ∃ v, e = .returned (.tuple #[v, .bool ok]) ∧ (ok = true → ∃ kb, v = fnPtr 64 kb ∧ w.heap.size ≤ kb ∧ Row w' kb 111 [.int .u8 a0, .int .i64 a1, .int .i64 a2, .int .i64 a3, .int .i64 a4]) ∧ (ok = false → v = .nilFunc) ∧ Below w.heap.size w w' := by
 have hmf : ∀ (fn : Fn) (first cap : Array Value) (w : World), (Instr.makeFunc fn first cap).run Try.prog w = .ok (.func fn first cap) w := fun _ _ _ _ => rfl
 cases ok
 all_goals
  go_enter Try.func52, Try.ntmps52
  go_wp2
  go_returns
 ·exact ⟨_, rfl, (fun h => by cases h), (fun _ => rfl), (Below.refl _ _).alloc (Nat.le_refl _) _⟩
 ·exact ⟨_, rfl, (fun _ => ⟨_, rfl, Nat.le_refl _, Row.new w 111 [.int .u8 a0, .int .i64 a1, .int .i64 a2, .int .i64 a3, .int .i64 a4]⟩), (fun h => by cases h), (Below.refl _ _).alloc (Nat.le_refl _) _⟩
set_option maxRecDepth 100000 in
theorem whenFn_any {t n : Int} {l : List Int} (h : isWhen t) (hv : vOk t n l = true) (hl : (l.length : Int) < n) (hn9 : n ≤ 9223372036854775807) (b : Int) (hb : 0 ≤ b ∧ b ≤ 255) {kb : Nat} {w : World} (hR : Row w kb 111 [.int .u8 ((wSt t l).p), .int .i64 ((wSt t l).l), .int .i64 ((wSt t l).v), .int .i64 ((wSt t l).y), .int .i64 ((wSt t l).m)]) :
  Calls Try.prog 64 #[.int .u8 b, .pointer (some ⟨kb, 0, none⟩)] w fun e w' => ∃ v, e = .returned (.tuple #[v, .bool (vOk t n (l ++ [b]))]) ∧ (vOk t n (l ++ [b]) = true → ∃ k2, v = fnPtr 64 k2 ∧ w.heap.size ≤ k2 ∧ Row w' k2 111 [.int .u8 ((wSt t (l ++ [b])).p), .int .i64 ((wSt t (l ++ [b])).l), .int .i64 ((wSt t (l ++ [b])).v), .int .i64 ((wSt t (l ++ [b])).y), .int .i64 ((wSt t (l ++ [b])).m)]) ∧ (vOk t n (l ++ [b]) = false → v = .nilFunc) ∧ Below w.heap.size w w' := by
 have HP := Lib.hid (whenPush_v h hv b hb)
 have HO := Lib.hid whenBe_any
 clear hv
 generalize hg : wSt t l = S at *
 obtain ⟨a0, a1, a2, a3, a4⟩ := S
 have k0 : w.cell? ⟨kb, 0, none⟩ = some (.int .u8 a0) := hR.cell 0
 have k1 : w.cell? ⟨kb, 1, none⟩ = some (.int .i64 a1) := hR.cell 1
 have k2 : w.cell? ⟨kb, 2, none⟩ = some (.int .i64 a2) := hR.cell 2
 have k3 : w.cell? ⟨kb, 3, none⟩ = some (.int .i64 a3) := hR.cell 3
 have k4 : w.cell? ⟨kb, 4, none⟩ = some (.int .i64 a4) := hR.cell 4
 generalize vOk t n (l ++ [b]) = B at *
 clear hR
 go_enter Try.func64, Try.ntmps64
 go_wp2_with fail
 refine (HP.out _).mono ?_
 rintro e w1 ⟨⟨p1, q1, v1, y1, m1⟩, rfl, hs1, hb1⟩
 have hz := hb1.size
 go_wp2_with fail
 refine (HO.out _ _ _ _ _ _ _).mono ?_
 rintro e w2 ⟨v, rfl, hk2, hn2, hb2⟩
 have hbf : Below w.heap.size w w2 := hb1.trans (hb2.mono hz)
 have hRf : B = true → ∃ k2, v = fnPtr 64 k2 ∧ w.heap.size ≤ k2 ∧ Row w2 k2 111 [.int .u8 ((wSt t (l ++ [b])).p), .int .i64 ((wSt t (l ++ [b])).l), .int .i64 ((wSt t (l ++ [b])).v), .int .i64 ((wSt t (l ++ [b])).y), .int .i64 ((wSt t (l ++ [b])).m)] := fun hB => by
  obtain ⟨k2, e1, e2, hR2⟩ := hk2 hB
  refine ⟨k2, e1, by omega, ?_⟩
  rw [← hs1 hB]; exact hR2
 have HRf := Lib.hid hRf
 have HNf := Lib.hid hn2
 clear hb1 hb2 hk2 hRf hn2 HO HP
 go_wp2
 go_returns
 exact ⟨_, rfl, HRf.out, HNf.out, hbf⟩
theorem textBe_any (a0 : Int) (a1 : Int) (a2 : Int) (a3 : Int) (a4 : Int) (ok : Bool) (w : World) :
  Calls Try.prog 54 #[.agg #[.int .i64 a0, .int .i64 a1, .int .i64 a2, .int .u8 a3, .int .u8 a4], .bool ok] w fun e w' => ∃ v, e = .returned (.tuple #[v, .bool ok]) ∧ (ok = true → ∃ kb, v = fnPtr 65 kb ∧ w.heap.size ≤ kb ∧ Row w' kb 118 [.int .i64 a0, .int .i64 a1, .int .i64 a2, .int .u8 a3, .int .u8 a4]) ∧ (ok = false → v = .nilFunc) ∧ Below w.heap.size w w' := by
 have hmf : ∀ (fn : Fn) (first cap : Array Value) (w : World), (Instr.makeFunc fn first cap).run Try.prog w = .ok (.func fn first cap) w := fun _ _ _ _ => rfl
 cases ok
 all_goals
  go_enter Try.func54, Try.ntmps54
  go_wp2
  go_returns
 ·exact ⟨_, rfl, (fun h => by cases h), (fun _ => rfl), (Below.refl _ _).alloc (Nat.le_refl _) _⟩
 ·exact ⟨_, rfl, (fun _ => ⟨_, rfl, Nat.le_refl _, Row.new w 118 [.int .i64 a0, .int .i64 a1, .int .i64 a2, .int .u8 a3, .int .u8 a4]⟩), (fun h => by cases h), (Below.refl _ _).alloc (Nat.le_refl _) _⟩
set_option maxRecDepth 100000 in
theorem textFn_any {t n : Int} {l : List Int} (h : isText t) (hv : vOk t n l = true) (hl : (l.length : Int) < n) (hn9 : n ≤ 9223372036854775807) (b : Int) (hb : 0 ≤ b ∧ b ≤ 255) {kb : Nat} {w : World} (hR : Row w kb 118 [.int .i64 ((tSt t n l).p), .int .i64 ((tSt t n l).l), .int .i64 ((tSt t n l).v), .int .u8 ((tSt t n l).y), .int .u8 ((tSt t n l).m)]) :
  Calls Try.prog 65 #[.int .u8 b, .pointer (some ⟨kb, 0, none⟩)] w fun e w' => ∃ v, e = .returned (.tuple #[v, .bool (vOk t n (l ++ [b]))]) ∧ (vOk t n (l ++ [b]) = true → ∃ k2, v = fnPtr 65 k2 ∧ w.heap.size ≤ k2 ∧ Row w' k2 118 [.int .i64 ((tSt t n (l ++ [b])).p), .int .i64 ((tSt t n (l ++ [b])).l), .int .i64 ((tSt t n (l ++ [b])).v), .int .u8 ((tSt t n (l ++ [b])).y), .int .u8 ((tSt t n (l ++ [b])).m)]) ∧ (vOk t n (l ++ [b]) = false → v = .nilFunc) ∧ Below w.heap.size w w' := by
 have HP := Lib.hid (textPush_v h hv hl hn9 b hb)
 have HO := Lib.hid textBe_any
 clear hv
 generalize hg : tSt t n l = S at *
 obtain ⟨a0, a1, a2, a3, a4⟩ := S
 have k0 : w.cell? ⟨kb, 0, none⟩ = some (.int .i64 a0) := hR.cell 0
 have k1 : w.cell? ⟨kb, 1, none⟩ = some (.int .i64 a1) := hR.cell 1
 have k2 : w.cell? ⟨kb, 2, none⟩ = some (.int .i64 a2) := hR.cell 2
 have k3 : w.cell? ⟨kb, 3, none⟩ = some (.int .u8 a3) := hR.cell 3
 have k4 : w.cell? ⟨kb, 4, none⟩ = some (.int .u8 a4) := hR.cell 4
 generalize vOk t n (l ++ [b]) = B at *
 clear hR
 go_enter Try.func65, Try.ntmps65
 go_wp2_with fail
 refine (HP.out _).mono ?_
 rintro e w1 ⟨⟨p1, q1, v1, y1, m1⟩, rfl, hs1, hb1⟩
 have hz := hb1.size
 go_wp2_with fail
 refine (HO.out _ _ _ _ _ _ _).mono ?_
 rintro e w2 ⟨v, rfl, hk2, hn2, hb2⟩
 have hbf : Below w.heap.size w w2 := hb1.trans (hb2.mono hz)
 have hRf : B = true → ∃ k2, v = fnPtr 65 k2 ∧ w.heap.size ≤ k2 ∧ Row w2 k2 118 [.int .i64 ((tSt t n (l ++ [b])).p), .int .i64 ((tSt t n (l ++ [b])).l), .int .i64 ((tSt t n (l ++ [b])).v), .int .u8 ((tSt t n (l ++ [b])).y), .int .u8 ((tSt t n (l ++ [b])).m)] := fun hB => by
  obtain ⟨k2, e1, e2, hR2⟩ := hk2 hB
  refine ⟨k2, e1, by omega, ?_⟩
  rw [← hs1 hB]; exact hR2
 have HRf := Lib.hid hRf
 have HNf := Lib.hid hn2
 clear hb1 hb2 hk2 hRf hn2 HO HP
 go_wp2
 go_returns
 exact ⟨_, rfl, HRf.out, HNf.out, hbf⟩
end Go.Proofs.Ytiiimhamfibdbaa
