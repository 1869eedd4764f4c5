/- What the reference's Put gives. -/
import Derived.Test.YtagigdefghnnhaaByteSl
import Derived.Test.YtagigdefghnnhaaIntSl
import Derived.Test.YtagigdefghnnhaaIdent
import Derived.Test.YtagigdefghnnhaaMem2
import Derived.Handy
namespace Go.Proofs.Ytagigdefghnnhaa
open Go.RowKit Go.PlainAid
set_option linter.unusedVariables false
/-- A number's groups, the highest first. -/
def loD (n : Nat) : List Int := if n < 128 then [(n : Int)] else ((n % 128 : Nat) : Int) :: loD (n / 128)
def dG (n : Nat) : List Int := (loD n).reverse
theorem loD_small {n : Nat} (h : n < 128) : loD n = [(n : Int)] := by rw [loD, if_pos h]
theorem loD_big {n : Nat} (h : ¬ n < 128) : loD n = ((n % 128 : Nat) : Int) :: loD (n / 128) := by rw [loD, if_neg h]
theorem dG_small {n : Nat} (h : n < 128) : dG n = [(n : Int)] := by rw [dG, loD_small h]; rfl
theorem dG_big {n : Nat} (h : ¬ n < 128) : dG n = dG (n / 128) ++ [((n % 128 : Nat) : Int)] := by rw [dG, loD_big h, List.reverse_cons]; rfl
/-- All with 128 but the last one. -/
theorem gB_dG (n : Nat) : gB n = (dG n).dropLast.map (128 + ·) ++ [((n % 128 : Nat) : Int)] := by
  have key : ∀ m : Nat, m ≠ 0 → hiG m = (dG m).map (128 + ·) := by
    intro m
    induction m using Nat.strongRecOn with
    | ind m ih =>
      intro h0
      rw [hiG_pos h0]
      by_cases h : m < 128
      · rw [dG_small h, show m / 128 = 0 by omega, hiG_zero, show m % 128 = m by omega]; simp
      · rw [dG_big h, ih (m / 128) (by omega) (by omega)]; simp
  rw [gB]
  by_cases h : n < 128
  · rw [dG_small h, show n / 128 = 0 by omega, hiG_zero]; rfl
  · rw [dG_big h, List.dropLast_concat, key _ (by omega)]
theorem dG_last (n : Nat) : (dG n).getLast? = some ((n % 128 : Nat) : Int) := by
  by_cases h : n < 128
  · rw [dG_small h]; simp; omega
  · rw [dG_big h]; simp
theorem dG_length (n : Nat) : (dG n).length = (gB n).length := by
  rw [gB_dG]
  have : dG n ≠ [] := by intro h; have := dG_last n; rw [h] at this; cases this
  have := List.length_pos_iff.2 this
  simp; omega
theorem dG_bd (n : Nat) : ∀ x ∈ dG n, 0 ≤ x ∧ x ≤ 127 := by
  induction n using Nat.strongRecOn with
  | ind n ih =>
    intro x hx
    by_cases h : n < 128
    · rw [dG_small h] at hx; simp at hx; omega
    · rw [dG_big h] at hx
      rcases List.mem_append.1 hx with hx | hx
      · exact ih _ (by omega) x hx
      · simp at hx; omega
set_option maxHeartbeats 1600000 in
theorem refGroups_any (n : Nat) (h : n ≤ 268435455) (w : World) :
    Calls Try.prog 36 #[.int .i64 n] w fun e w' => ∃ v g, e = .returned v ∧ Sl w' 3 v (i64s (dG n)) g ∧ w.heap.size ≤ g ∧ Below w.heap.size w w' := by
  have HLE := Lib.hid (gB_le n h)
  go_enter Try.func36, Try.ntmps36
  go_wp2
  go_loopw [0, 3] (fun tv sv wr => ∃ (t g : Nat) (l : List Int), tv = .int .i64 (t : Int) ∧ t ≤ n ∧ Hid (dG t ++ l = dG n) ∧ Sl wr 3 sv (i64s (((t % 128 : Nat) : Int) :: l)) g ∧ w.heap.size ≤ g ∧ Below w.heap.size w wr) (fun tv _ _ => (intOf tv).toNat)
  case atStart => exact ⟨n, w.heap.size, [], rfl, Nat.le_refl _, Lib.hid (by simp), by have := sl_new_ints w [((n % 128 : Nat) : Int)] (by simp [maxLen]); simpa [i64s] using this, Nat.le_refl _, by go_grown⟩
  case round =>
    obtain ⟨t, g, l, rfl, ht, HL, hs, hg, hB⟩ := hrel
    have HB := Lib.hid hB
    obtain ⟨c, rfl, _, _⟩ := hs.open (n := l.length + 1) (by rw [i64s_length]; rfl)
    have HS := Lib.hid hs
    have hll : l.length ≤ 4 := by have := congrArg List.length HL.out; rw [dG_length n, List.length_append] at this; have := HLE.out; omega
    clear hs hB
    by_cases h0 : (127 : Int) < (t : Int)
    · have hcell : ∀ j (hj : j < (((t % 128 : Nat) : Int) :: l).length), (wr.alloc (.cells (i64s [(t : Int) / 128 % 128]).toArray 3)).cell? ⟨g, j, none⟩ = some (.int .i64 (((t % 128 : Nat) : Int) :: l)[j]) := by
        intro j hj
        have := (HS.out.alloc (.cells (i64s [(t : Int) / 128 % 128]).toArray 3)).cell (i := j) (by rw [i64s_length]; exact hj)
        rw [this, i64s_get]
      have HC := Lib.hid hcell
      clear hcell
      go_wp2_with (at_builtin; refine wpList_append_ints rfl (.tmp 13) (.tmp 14) rfl (l := [(t : Int) / 128 % 128]) (g := wr.heap.size) rfl (sl_new_ints wr [(t : Int) / 128 % 128] (by simp [maxLen])) g (l.length + 1) c (((t % 128 : Nat) : Int) :: l) rfl (by simp) HC.out (by simp; omega) ?_)
      intro v' w1 g' hs1 hg1 hgr1
      have HS1 := Lib.hid hs1
      have HG1 := Lib.hid hgr1
      clear hs1 hgr1 HC
      go_wp2
      go_roundw
      case rel =>
        have hsz : w.heap.size ≤ wr.heap.size := HB.out.size
        refine ⟨t / 128, g', ((t % 128 : Nat) : Int) :: l, by simp, by omega, Lib.hid ?_, ?_, ?_, ?_⟩
        · rw [← HL.out, dG_big (n := t) (by omega)]; simp
        · have := HS1.out
          rw [show (t : Int) / 128 % 128 = ((t / 128 % 128 : Nat) : Int) by omega] at this
          exact this
        · rcases hg1 with rfl | rfl
          · exact hsz
          · first | omega | (simp; omega)
        · exact (HB.out.alloc hsz _).grown HG1.out (by simp; omega) (by intro k hk; cases hk; exact hsz)
      case measure => simp [intOf]; omega
    · have HF := Lib.hid (show ((t % 128 : Nat) : Int) :: l = dG n by rw [← HL.out, dG_small (n := t) (by omega), show t % 128 = t by omega]; rfl)
      go_wp2
      go_ret
      refine ⟨_, rfl, g, ?_, hg, HB.out⟩
      rw [← HF.out]
      exact HS.out
theorem dropLast_append_last {l : List Int} {x : Int} (h : l.getLast? = some x) : l = l.dropLast ++ [x] := by
  obtain ⟨ys, rfl⟩ := List.getLast?_eq_some_iff.1 h
  simp
/-- The bytes after k rounds of the reference's loop. -/
def refOut (f : Int) (n k : Nat) : List Int := if k < (dG n).length then f :: ((dG n).take k).map (128 + ·) else f :: gB n
theorem refOut_zero (f : Int) (n : Nat) : refOut f n 0 = [f] := by
  have := dG_length n
  have := gB_length n
  rw [refOut, if_pos (by omega)]; rfl
theorem refOut_mid (f : Int) (n k : Nat) (h : k + 1 < (dG n).length) : refOut f n (k + 1) = refOut f n k ++ [128 + (dG n)[k]] := by
  rw [refOut, refOut, if_pos h, if_pos (by omega), List.take_add_one, List.getElem?_eq_getElem (by omega), List.map_append]
  rfl
theorem refOut_last (f : Int) (n k : Nat) (h : k + 1 = (dG n).length) : refOut f n (k + 1) = refOut f n k ++ [(dG n)[k]] := by
  have hl := dropLast_append_last (dG_last n)
  have hk : (dG n)[k] = ((n % 128 : Nat) : Int) := by
    have := dG_last n
    rw [List.getLast?_eq_getElem?, ← h, Nat.add_sub_cancel, List.getElem?_eq_getElem (by omega)] at this
    exact Option.some.inj this
  rw [refOut, refOut, if_neg (by omega), if_pos (by omega), hk, gB_dG, List.dropLast_eq_take, ← h]
  simp
theorem refOut_end (f : Int) (n k : Nat) (h : (dG n).length ≤ k) : refOut f n k = f :: gB n := by rw [refOut, if_neg (by omega)]
set_option maxHeartbeats 1600000 in
theorem refIdPut_bad (cls tag : Int) (cons : Bool) (len : Int) (h : idOk cls tag = false) (w : World) :
    Calls Try.prog 27 #[.agg #[.int .i64 cls, .int .i64 tag, .bool cons, .int .i64 len]] w fun e w' => e = .returned (.tuple #[.string ⟨#[]⟩, .int .i64 1]) ∧ Below w.heap.size w w' := by
  have hn : cls < 0 ∨ (0 ≤ cls ∧ 3 < cls) ∨ (0 ≤ cls ∧ cls ≤ 3 ∧ tag < 0) ∨ (0 ≤ cls ∧ cls ≤ 3 ∧ 0 ≤ tag ∧ 268435455 < tag) := by
    have hn : ¬ (0 ≤ cls ∧ cls ≤ 3 ∧ 0 ≤ tag ∧ tag ≤ 268435455) := by rw [← idOk_iff, h]; simp
    omega
  clear h
  rcases hn with n0 | ⟨n0, n1⟩ | ⟨n0, n1, n2⟩ | ⟨n0, n1, n2, n3⟩
  all_goals
    go_enter Try.func27, Try.ntmps27
    go_wp2
    go_returns
    exact ⟨rfl, by go_grown⟩
set_option maxHeartbeats 1600000 in
theorem refIdPut_any (cls tag : Int) (cons : Bool) (len : Int) (h : idOk cls tag = true) (w : World) :
    Calls Try.prog 27 #[.agg #[.int .i64 cls, .int .i64 tag, .bool cons, .int .i64 len]] w fun e w' => e = .returned (.tuple #[.string (strOfNums (idPut cls tag cons)), .int .i64 0]) ∧ Below w.heap.size w w' := by
  obtain ⟨h0, h1, h2, h3⟩ := idOk_iff.1 h
  clear h
  have n0 : ¬ cls < 0 := by omega
  have n1 : ¬ 3 < cls := by omega
  have n2 : ¬ tag < 0 := by omega
  have n3 : ¬ 268435455 < tag := by omega
  have HP := Lib.hid (Row.new w 40 [.int .i64 cls, .int .i64 tag, .bool cons, .int .i64 len])
  by_cases ht : tag < 31
  · cases cons
    case' false => 
      have HF : Hid (strOfNums [64 * cls + tag] = strOfNums (idPut cls tag false)) := Lib.hid (by rw [idPut, if_pos ht, first, if_pos ht]; simp)
      have hcv := conv_at (64 * cls + tag)
    case' true =>
      have HF : Hid (strOfNums [64 * cls + 32 + tag] = strOfNums (idPut cls tag true)) := Lib.hid (by rw [idPut, if_pos ht, first, if_pos ht]; simp)
      have hcv := conv_at (64 * cls + 32 + tag)
    all_goals
      go_enter Try.func27, Try.ntmps27
      go_wp2
      go_returns
      exact ⟨rets2 (congrArg _ HF.out) rfl, by go_grown⟩
  · have HG := Lib.hid (refGroups_any tag.toNat (by omega))
    rw [Int.toNat_of_nonneg h2] at HG
    have hge : 31 ≤ tag := by omega
    have hL : (dG tag.toNat).length ≤ 4 := by rw [dG_length]; exact gB_le _ (by omega)
    have HBD := Lib.hid (dG_bd tag.toNat)
    have hfb := first_bd (cls := cls) (tag := tag) (cons := cons) h0 h1 h2
    obtain ⟨Y, hY⟩ : ∃ Y, Y = first cls tag cons := ⟨_, rfl⟩
    have HF : Hid (strOfNums (Y :: gB tag.toNat) = strOfNums (idPut cls tag cons)) := Lib.hid (by rw [idPut, if_neg ht, hY])
    rw [← hY] at hfb
    cases cons
    case' false => 
      have eor : 64 * cls + 31 = Y := by rw [hY, first, if_neg ht]; simp
    case' true =>
      have eor : 64 * cls + 32 + 31 = Y := by rw [hY, first, if_neg ht]; simp
    all_goals
      generalize hN : tag.toNat = N at *
      have HM := Lib.hid (refOut_mid Y N)
      have HLA := Lib.hid (refOut_last Y N)
      have HEN := Lib.hid (refOut_end Y N)
      have HZ := Lib.hid (refOut_zero Y N)
      clear hN hY
      go_enter Try.func27, Try.ntmps27
      go_wp2_with fail
      refine (HG.out _).mono ?_
      rintro e w1 ⟨v, gl, rfl, hsl, hgl, hb1⟩
      obtain ⟨cl, rfl, _, _⟩ := hsl.open (n := (dG N).length) (i64s_length _)
      have hb1' : Below (w.heap.size + 2) _ w1 := hb1.mono (by simp)
      have hs1 : Sl w1 5 (.slice (some ⟨w.heap.size + 1, 0, none⟩) 1 1) (u8s [Y]) (w.heap.size + 1) := by
        have h := (sl_new_bytes (w.alloc (.cells #[.int .i64 cls, .int .i64 tag, .bool _, .int .i64 len] 40)) [Y] (by simp [maxLen])).below hb1' (by simp)
        simpa using h
      have hbw : Below w.heap.size w w1 := Below.trans (by go_grown) (hb1'.mono (by omega))
      have hgl2 : w.heap.size + 2 ≤ gl := by simpa using hgl
      have HSL := Lib.hid hsl
      have HS1 := Lib.hid hs1
      have HB1 := Lib.hid hbw
      clear hsl hs1 hbw hb1 hb1' hgl
      go_wp2
      go_loopw [5, 7] (fun ov iv wr => ∃ (k g c : Nat), iv = .int .i64 (k : Int) ∧ k ≤ (dG N).length ∧ ov = .slice (some ⟨g, 0, none⟩) (k + 1) c ∧ Hid ((refOut Y N k).length = k + 1) ∧ Hid (Sl wr 5 (.slice (some ⟨g, 0, none⟩) (k + 1) c) (u8s (refOut Y N k)) g) ∧ Hid (Sl wr 3 (.slice (some ⟨gl, 0, none⟩) (dG N).length cl) (i64s (dG N)) gl) ∧ w.heap.size ≤ g ∧ g ≠ gl ∧ Hid (Below w.heap.size w wr)) (fun _ iv _ => (dG N).length - (intOf iv).toNat)
      case atStart => exact ⟨0, w.heap.size + 1, 1, rfl, by omega, rfl, Lib.hid (by rw [HZ.out]; rfl), Lib.hid (by rw [HZ.out]; exact HS1.out), HSL, by omega, by omega, HB1⟩
      case round =>
        obtain ⟨k, g, c, rfl, hk, rfl, HLn, HS, HSl, hg, hgg, HB⟩ := hrel
        clear HSL HS1 HB1
        by_cases hlt : k < (dG N).length
        · have hc := HSl.out.cell (i := k) (by rw [i64s_length]; exact hlt)
          rw [i64s_get] at hc
          have hbd := HBD.out (dG N)[k] (List.getElem_mem hlt)
          obtain ⟨hd0, hd1⟩ := hbd
          by_cases hmid : k + 1 < (dG N).length
          · have HO := Lib.hid (HM.out k hmid)
            generalize (dG N)[k] = d at *
            go_wp2_with (at_builtin; refine wpList_append_byte rfl (.tmp 61) (.tmp 68) rfl (l := refOut Y N k) (g := g) rfl (HS.out.alloc _) wr.heap.size 1 (128 + d) rfl (by simp) (by rw [HLn.out]; omega) ?_)
            intro v' w2 g' hs2 hg2 hgr2
            have HLn2 : Hid ((refOut Y N (k + 1)).length = k + 1 + 1) := Lib.hid (by rw [HO.out, List.length_append, HLn.out]; rfl)
            obtain ⟨c', rfl, _, _⟩ := hs2.open (n := k + 1 + 1) (by rw [u8s_length, ← HO.out, HLn2.out])
            have hgl3 := HSl.out.lt
            have hsz := HB.out.size
            have HSl2 := Lib.hid ((HSl.out.alloc (.cells #[.int .u8 (128 + d)] 5)).grown hgr2 (by intro h; cases h; exact hgg rfl))
            have HB2 := Lib.hid ((HB.out.alloc hsz (.cells #[.int .u8 (128 + d)] 5)).grown hgr2 (by simp; omega) (by intro q hq; cases hq; exact hg))
            rw [← HO.out] at hs2
            have HS2 := Lib.hid hs2
            clear hs2 hgr2 HSl HS HB
            go_wp2
            go_roundw
            case rel => exact ⟨k + 1, g', c', by simp, by omega, rfl, HLn2, HS2, HSl2, by rcases hg2 with h | h <;> omega, by rcases hg2 with h | h <;> omega, HB2⟩
            case measure => simp [intOf]; omega
          · have HO := Lib.hid (HLA.out k (by omega))
            generalize (dG N)[k] = d at *
            go_wp2_with (at_builtin; refine wpList_append_byte rfl (.tmp 70) (.tmp 76) rfl (l := refOut Y N k) (g := g) rfl (HS.out.alloc _) wr.heap.size 1 (d) rfl (by simp) (by rw [HLn.out]; omega) ?_)
            intro v' w2 g' hs2 hg2 hgr2
            have HLn2 : Hid ((refOut Y N (k + 1)).length = k + 1 + 1) := Lib.hid (by rw [HO.out, List.length_append, HLn.out]; rfl)
            obtain ⟨c', rfl, _, _⟩ := hs2.open (n := k + 1 + 1) (by rw [u8s_length, ← HO.out, HLn2.out])
            have hgl3 := HSl.out.lt
            have hsz := HB.out.size
            have HSl2 := Lib.hid ((HSl.out.alloc (.cells #[.int .u8 (d)] 5)).grown hgr2 (by intro h; cases h; exact hgg rfl))
            have HB2 := Lib.hid ((HB.out.alloc hsz (.cells #[.int .u8 (d)] 5)).grown hgr2 (by simp; omega) (by intro q hq; cases hq; exact hg))
            rw [← HO.out] at hs2
            have HS2 := Lib.hid hs2
            clear hs2 hgr2 HSl HS HB
            go_wp2
            go_roundw
            case rel => exact ⟨k + 1, g', c', by simp, by omega, rfl, HLn2, HS2, HSl2, by rcases hg2 with h | h <;> omega, by rcases hg2 with h | h <;> omega, HB2⟩
            case measure => simp [intOf]; omega
        · have hcv := conv_bytes HS.out
          rw [HEN.out k (by omega), HF.out] at hcv
          go_wp2
          go_returns
          exact ⟨rfl, HB.out⟩
end Go.Proofs.Ytagigdefghnnhaa
