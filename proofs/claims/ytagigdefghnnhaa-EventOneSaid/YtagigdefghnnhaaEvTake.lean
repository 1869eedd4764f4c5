/- What the landed code's machine does with a byte. -/
import Derived.Test.YtagigdefghnnhaaEvBegin
import Derived.Test.YtagigdefghnnhaaHeadGet
import Derived.Test.YtagigdefghnnhaaHeadShort
namespace Go.Proofs.Ytagigdefghnnhaa
open Go.RowKit Go.PlainAid
set_option linter.unusedVariables false
section
variable (x : CM) (y : ByteArray) (c t : Int) (f : Bool) (n e : Int)
def thE : Int := if e = 2 then 0 else if e ≠ 0 then e else headE x.s.most x.s.st f n
def thL : List Ev := if e = 2 then [] else if e ≠ 0 then [] else if headE x.s.most x.s.st f n ≠ 0 then [] else bgL x c t f n ++ popE (bgX x f n).s.st x.p
def thX : CM := if e = 2 then { x with c := y } else if e ≠ 0 then x else if headE x.s.most x.s.st f n ≠ 0 then x else
  ⟨⟨x.s.most, popS (bgX x f n).s.st⟩, ⟨#[]⟩, (bgX x f n).n, x.p, decide ((bgX x f n).n = 0) && (popS (bgX x f n).s.st).isEmpty, x.er⟩
end
set_option maxRecDepth 100000 in
set_option maxHeartbeats 4000000 in
theorem takeHead_any {w : World} {k ks base : Nat} {x : CM} (b : Int) (hM : MR w k ks x) (hk : k < base) (hs : ks < base) (hb : base ≤ w.heap.size) (h0 : 0 ≤ b) (h1 : b ≤ 255) {l : List Int} (hl : IsB l) (hn : l.length ≤ 13) (hc : x.c = strOfNums l)
    {c t : Int} {f : Bool} {n : Int} {m : Nat} {er : Int} (hg : hdGet (l ++ [b]) = (c, t, f, n, m, er)) {y : ByteArray} (hy : strOfNums (l ++ [b]) = y) :
    Calls Try.prog 35 #[.pointer (some ⟨k, 0, none⟩), .int .u8 b] w fun e w' => ∃ v, e = .returned (.tuple #[v, .int .i64 (thE x f n er)]) ∧ Evs w' base v (thL x c t f n er) ∧ MR w' k ks (thX x y f n er) ∧ Chg (FB base k ks) w w' := by
  have hL : IsB (l ++ [b]) := hl.append (IsB.cons h0 h1 IsB.nil)
  have hbd := hdGet_bd (l ++ [b]) hL
  rw [hg] at hbd
  obtain ⟨_, _, _, _, hn0, hn1⟩ := hbd
  simp only at hn0 hn1
  have HG := Lib.hid (fun w => headGet_at (strOfNums (l ++ [b])) 0 (by rw [strOfNums_size]; simp; unfold maxLen; omega) (by decide) (came_get hl h0 h1 hg) w)
  have hcv := conv_at b
  have hsz1 : (strOfNums l).size ≤ 13 := by rw [strOfNums_size]; exact hn
  have hsz2 : (strOfNums [b]).size = 1 := by rw [strOfNums_size]; rfl
  have HJ := Lib.hid (str_join l b)
  rw [hy] at HG HJ
  clear hy
  obtain ⟨q0, q1, q2, q3, q4, q5⟩ := mrow_facts hM.row
  rw [hc] at q1
  have HM := Lib.hid hM
  have hlt := hM.lt
  clear hM hL hg
  go_enter Try.func35, Try.ntmps35
  go_wp2
  go_region
  rw [HJ.out]
  have HBA : Hid (Below w.heap.size w (w.alloc (.cells #[.int .u8 b] 5)).drew) := Lib.hid ((Below.refl _ _).alloc (Nat.le_refl _) _).drew
  generalize (w.alloc (.cells #[.int .u8 b] 5)).drew = A at *
  have HMA := Lib.hid (HM.out.below HBA.out)
  have HCA := Lib.hid (chg_below (base := base) (k := k) (ks := ks) HBA.out)
  have hzA : base ≤ A.heap.size := Nat.le_trans hb HBA.out.size
  clear q0 q1 q2 q3 q4 q5 hcv HM HBA hlt
  go_wp2_with fail
  refine (HG.out _).mono ?_
  rintro e w1 ⟨rfl, hb1⟩
  have HM1 := Lib.hid (HMA.out.below hb1)
  have HC1 := Lib.hid (chg_then HCA.out (chg_below hb1))
  have hz1 : base ≤ w1.heap.size := Nat.le_trans hzA hb1.size
  clear hb1 HMA HCA HG
  have HH2 := Lib.hid (Row.new w1 40 (hdC c t f n))
  have hB2 : Below w1.heap.size w1 (w1.alloc (.cells (hdC c t f n).toArray 40)) := (Below.refl _ _).alloc (Nat.le_refl _) _
  have HM2 := Lib.hid (HM1.out.below hB2)
  have HC2 := Lib.hid (chg_then HC1.out (chg_below hB2))
  have hz2 : base ≤ (w1.alloc (.cells (hdC c t f n).toArray 40)).heap.size := Nat.le_trans hz1 hB2.size
  have hX : w1.alloc (.cells #[.int .i64 c, .int .i64 t, .bool f, .int .i64 n] 40) = w1.alloc (.cells (hdC c t f n).toArray 40) := rfl
  clear hB2 HM1 HC1
  go_upto_region 3 with fail
  clear hX
  generalize w1.alloc (.cells (hdC c t f n).toArray 40) = W at *
  generalize w1.heap.size = hh at *
  obtain ⟨k0, k1, k2, k3, f0, f1, f2, f3⟩ := head_facts HH2.out
  obtain ⟨q0, q1, q2, q3, q4, q5⟩ := mrow_facts HM2.out.row
  have g1 := HM2.out.row.frozen 1
  have hlt := HM2.out.lt
  by_cases e2 : er = 2
  · subst e2
    have HE : Hid (thE x f n 2 = 0) := Lib.hid (if_pos rfl)
    have HL : Hid (thL x c t f n 2 = []) := Lib.hid (if_pos rfl)
    have HX : Hid (thX x y f n 2 = { x with c := y }) := Lib.hid (if_pos rfl)
    have HM3 := Lib.hid (HM2.out.set_c y)
    have HC3 := Lib.hid (chg_then HC2.out (chg_setk W 1 (.string y) base ks))
    clear HM2 HC2 HH2 HJ
    go_wp2
    go_returns
    rw [HE.out, HX.out, HL.out]
    exact ⟨_, rfl, Evs.nil _ _, HM3.out, HC3.out⟩
  · have e2b : (er == 2) = false := by simpa using e2
    by_cases e0 : er = 0
    · subst e0
      have HB := Lib.hid (begin_any HM2.out hk hs hz2 c t f n ⟨hn0, by omega⟩)
      by_cases hz : headE x.s.most x.s.st f n = 0
      · have HE : Hid (thE x f n 0 = 0) := Lib.hid hz
        have HL : Hid (thL x c t f n 0 = bgL x c t f n ++ popE (bgX x f n).s.st x.p) := Lib.hid (by unfold thL; rw [if_neg (by decide), if_neg (by simp), if_neg (fun h => h hz)])
        have HX : Hid (thX x y f n 0 = ⟨⟨x.s.most, popS (bgX x f n).s.st⟩, ⟨#[]⟩, (bgX x f n).n, x.p, decide ((bgX x f n).n = 0) && (popS (bgX x f n).s.st).isEmpty, x.er⟩) := Lib.hid (by unfold thX; rw [if_neg (by decide), if_neg (by simp), if_neg (fun h => h hz)])
        have HBX : Hid ((bgX x f n).s.most = x.s.most ∧ (bgX x f n).p = x.p ∧ (bgX x f n).er = x.er) := Lib.hid (by unfold bgX; split; exact ⟨rfl, rfl, rfl⟩; split <;> exact ⟨rfl, rfl, rfl⟩)
        have HBL : Hid ((bgL x c t f n).length ≤ 1000) := Lib.hid (by unfold bgL; split; simp; split; simp; split <;> simp)
        have hzb : (headE x.s.most x.s.st f n != 0) = false := by simpa using hz
        clear hz
        go_wp2_with fail
        refine HB.out.mono ?_
        rintro e w3 ⟨v3, rfl, he3, hm3, hc3⟩
        have HE3 := Lib.hid he3
        have HM3 := Lib.hid hm3
        have HC3 := Lib.hid (chg_then HC2.out hc3)
        have hz3 : base ≤ w3.heap.size := Nat.le_trans hz2 hc3.size
        obtain ⟨o3, c3, rfl⟩ := he3.isSl
        clear he3 hm3 hc3 HB HM2 HC2 HH2 k0 k1 k2 k3 f0 f1 f2 f3 q0 q1 q2 q3 q4 q5 g1 hlt
        obtain ⟨q0, q1, q2, q3, q4, q5⟩ := mrow_facts HM3.out.row
        have g1 := HM3.out.row.frozen 1
        have hlt := HM3.out.lt
        have HM4 := Lib.hid (HM3.out.set_c ⟨#[]⟩)
        have HC4 := Lib.hid (chg_then HC3.out (chg_setk w3 1 (.string ⟨#[]⟩) base ks))
        have HE4 := Lib.hid (HE3.out.aside (chg_setk1 w3 k 1 (.string ⟨#[]⟩)) (fun i hi => by omega))
        have hz4 : base ≤ (w3.setCell ⟨k, 1, none⟩ (.string ⟨#[]⟩)).heap.size := by simp; exact hz3
        go_wp2_with fail
        clear q0 q1 q2 q3 q4 q5 g1 hlt HM3 HC3 HE3
        generalize w3.setCell ⟨k, 1, none⟩ (.string ⟨#[]⟩) = Y at *
        refine (leave_any HM4.out hk hs HE4.out hz4 HBL.out).mono ?_
        rintro e w5 ⟨v5, rfl, he5, hm5, hc5⟩
        have he5 : Evs w5 base v5 (thL x c t f n 0) := by rw [HL.out, ← HBX.out.2.1]; exact he5
        obtain ⟨o5, c5, rfl⟩ := he5.isSl
        have HE5 := Lib.hid he5
        have HM5 := Lib.hid hm5
        have HC5 := Lib.hid (chg_then HC4.out hc5)
        clear he5 hm5 hc5 HM4 HC4 HE4
        go_wp2
        go_returns
        rw [HE.out]
        exact ⟨_, rfl, HE5.out, by rw [HX.out, ← HBX.out.1, ← HBX.out.2.1, ← HBX.out.2.2]; exact HM5.out, HC5.out⟩
      · have HE : Hid (thE x f n 0 = headE x.s.most x.s.st f n) := Lib.hid rfl
        have HL : Hid (thL x c t f n 0 = []) := Lib.hid (if_pos hz)
        have HX : Hid (thX x y f n 0 = x) := Lib.hid (if_pos hz)
        have HBX : Hid (bgX x f n = x) := Lib.hid (by unfold bgX; rw [if_pos hz])
        have hzb : (headE x.s.most x.s.st f n != 0) = true := by simpa using hz
        clear hz
        go_wp2_with fail
        refine HB.out.mono ?_
        rintro e w3 ⟨v3, rfl, he3, hm3, hc3⟩
        rw [HBX.out] at hm3
        have HM3 := Lib.hid hm3
        have HC3 := Lib.hid (chg_then HC2.out hc3)
        obtain ⟨o3, c3, rfl⟩ := he3.isSl
        clear he3 hm3 hc3 HB HM2 HC2 HH2 k0 k1 k2 k3 f0 f1 f2 f3 q0 q1 q2 q3 q4 q5 g1 hlt
        go_wp2
        go_returns
        rw [HE.out, HX.out, HL.out]
        exact ⟨_, rfl, Evs.nil _ _, HM3.out, HC3.out⟩
    · have e0b : (er != 0) = true := by simpa using e0
      have HE : Hid (thE x f n er = er) := Lib.hid (by unfold thE; rw [if_neg e2, if_pos e0])
      have HL : Hid (thL x c t f n er = []) := Lib.hid (by unfold thL; rw [if_neg e2, if_pos e0])
      have HX : Hid (thX x y f n er = x) := Lib.hid (by unfold thX; rw [if_neg e2, if_pos e0])
      clear HH2 HJ
      go_wp2
      go_returns
      rw [HE.out, HX.out, HL.out]
      exact ⟨_, rfl, Evs.nil _ _, HM2.out, HC2.out⟩
end Go.Proofs.Ytagigdefghnnhaa
