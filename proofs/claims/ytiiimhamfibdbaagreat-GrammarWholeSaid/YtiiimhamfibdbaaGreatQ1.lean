/- What layer 20's reference gives: the parts of a part. -/
import Derived.Test.YtiiimhamfibdbaaGreatM1
import Derived.Test.YtiiimhamfibdbaaGreatB0
import Derived.Test.YtiiimhamfibdbaaGreatChecked
import Derived.WalkKit
import Derived.WalkSpells
import Derived.Handy
import Derived.Lib.Hide
import Derived.Deep.QuietTactic
import Derived.BigQuiet
import Derived.Deep.RegionLaw
import Derived.Deep.LoopGhost
import Derived.Deep.MidRow
namespace Go.Proofs.YtiiimhamfibdbaaGreat
open Go.RowKit Go.PlainAid
set_option linter.unusedVariables false
def slotC (s : GSlot) : List Value := [.int .i64 s.1, .bool s.2.1, .bool s.2.2]
def slotsC (l : List GSlot) : List Value := l.flatMap slotC
theorem slotsC_length (l : List GSlot) : (slotsC l).length = l.length * 3 := by
 induction l with
 |nil => rfl
 |cons e r ih => show (slotC e ++ slotsC r).length = _; rw [List.length_append, ih]; simp [slotC]; omega
theorem slotsC_at (l : List GSlot) (i : Nat) (h : i < l.length) (k : Nat) (hk : k < 3) : (slotsC l)[i * 3 + k]? = (slotC l[i])[k]? := by
 induction l generalizing i with
 |nil => simp at h
 |cons e r ih =>
  show (slotC e ++ slotsC r)[i * 3 + k]? = _
  cases i with
  |zero => rw [List.getElem?_append_left (by simp [slotC]; omega)]; simp
  |succ i =>
   rw [List.getElem?_append_right (by simp [slotC]; omega), show (i + 1) * 3 + k - (slotC e).length = i * 3 + k by simp [slotC]; omega, ih i (by simpa using h)]
   rfl
def SlotsAt (w : World) (v : Value) (l : List GSlot) : Prop := w.ownsRow 0 94 3 v l.length (slotsC l)
theorem SlotsAt.nil (w : World) : SlotsAt w (.slice none 0 0) [] := World.ownsRow_nil _ _ _ _
theorem SlotsAt.laid {w : World} {g : Nat} {l : List GSlot} (h : Row w g 94 (slotsC l)) (hl : l.length ≤ maxLen) : SlotsAt w (.slice (some ⟨g, 0, none⟩) l.length l.length) l := by
 refine ⟨by rw [slotsC_length], .inr ⟨g, l.length, (slotsC l).toArray, rfl, Nat.zero_le _, h, Nat.le_refl _, hl, ?_, ?_⟩⟩
 ·simp [slotsC_length]
 ·have e : l.length * 3 = (slotsC l).length := (slotsC_length l).symm
  simp [e]
theorem SlotsAt.below {w w' : World} {v : Value} {l : List GSlot} (h : SlotsAt w v l) (hb : Below w.heap.size w w') : SlotsAt w' v l := own_below h hb
theorem SlotsAt.shape {w : World} {v : Value} {l : List GSlot} (h : SlotsAt w v l) : (v = .slice none 0 0 ∧ l = []) ∨ ∃ g c, v = .slice (some ⟨g, 0, none⟩) l.length c ∧ l.length ≤ c ∧ c ≤ maxLen ∧ g < w.heap.size := by
 rcases own_shape h with ⟨h1, h2⟩ | ⟨g, c, h1, h2, h3, _, h4⟩
 ·exact .inl ⟨h1, List.eq_nil_of_length_eq_zero h2⟩
 ·exact .inr ⟨g, c, h1, h2, h3, h4⟩
theorem SlotsAt.cells {w : World} {g c m : Nat} {l : List GSlot} (h : SlotsAt w (.slice (some ⟨g, 0, none⟩) m c) l) (i : Nat) (hi : i < l.length) :
  w.cell? ⟨g, i * 3, none⟩ = some (.int .i64 l[i].1) ∧ w.cell? ⟨g, i * 3 + 1, none⟩ = some (.bool l[i].2.1) ∧ w.cell? ⟨g, i * 3 + 2, none⟩ = some (.bool l[i].2.2) := by
 have hcell := fun k (hk : k < 3) => World.ownsRow.cells h (g := g) rfl (i * 3 + k) ((slotC l[i])[k]'hk) (by rw [slotsC_at l i hi k hk]; exact List.getElem?_eq_getElem hk)
 have hA : ∀ j, (⟨g, 0, none⟩ : Addr).add j = ⟨g, j, none⟩ := fun j => by unfold Addr.add; split <;> simp_all
 refine ⟨?_, ?_, ?_⟩
 ·have := hcell 0 (by decide); rw [hA] at this; exact this
 ·have := hcell 1 (by decide); rw [hA] at this; exact this
 ·have := hcell 2 (by decide); rw [hA] at this; exact this
theorem rowG_0 : rowG 0 = [(1, false, false)] := by simp [rowG]
theorem rowG_1 : rowG 1 = [(2, false, false), (4, false, false), (22, false, false)] := by simp [rowG]
theorem rowG_2 : rowG 2 = [(3, true, false), (4, false, false), (7, false, false), (11, false, false), (12, true, false), (13, true, false), (21, true, false)] := by simp [rowG]
theorem rowG_4 : rowG 4 = [(5, false, false), (6, true, false)] := by simp [rowG]
theorem rowG_6 : rowG 6 = [(6, true, true)] := by simp [rowG]
theorem rowG_7 : rowG 7 = [(8, true, true)] := by simp [rowG]
theorem rowG_8 : rowG 8 = [(9, false, true)] := by simp [rowG]
theorem rowG_9 : rowG 9 = [(5, false, false), (10, false, false)] := by simp [rowG]
theorem rowG_13 : rowG 13 = [(14, false, true)] := by simp [rowG]
theorem rowG_14 : rowG 14 = [(15, false, false), (16, false, false), (17, true, false)] := by simp [rowG]
theorem rowG_17 : rowG 17 = [(18, false, true)] := by simp [rowG]
theorem rowG_18 : rowG 18 = [(5, false, false), (19, true, false), (20, false, false)] := by simp [rowG]
theorem rowG_21 : rowG 21 = [(17, false, false)] := by simp [rowG]
theorem rowG_no {p : Int} (h : p ≠ 0 ∧ p ≠ 1 ∧ p ≠ 2 ∧ p ≠ 4 ∧ p ≠ 6 ∧ p ≠ 7 ∧ p ≠ 8 ∧ p ≠ 9 ∧ p ≠ 13 ∧ p ≠ 14 ∧ p ≠ 17 ∧ p ≠ 18 ∧ p ≠ 21) : rowG p = [] := by
 simp [rowG, h]
set_option maxRecDepth 100000 in
set_option maxHeartbeats 8000000 in
theorem refRow_any (p : Int) (w : World) :
  Calls Tryz.prog 34 #[.int .i64 p] w fun e w' => ∃ v, e = .returned v ∧ SlotsAt w' v (rowG p) ∧ Below w.heap.size w w' := by
 by_cases h0 : p = 0
 ·subst h0
  rw [rowG_0]
  have HF : Hid (SlotsAt (w.alloc (.cells #[.int .i64 1, .bool false, .bool false] 94)) (.slice (some ⟨w.heap.size, 0, none⟩) 1 1) [(1, false, false)]) := Lib.hid (SlotsAt.laid (l := [(1, false, false)]) (Row.new w _ [.int .i64 1, .bool false, .bool false]) (by decide))
  go_enter Tryz.func34, Tryz.ntmps34
  go_wp2
  go_returns
  exact ⟨_, rfl, HF.out, (Below.refl _ _).alloc (Nat.le_refl _) _⟩
 ·have b0 : (p == 0) = false := by simpa using h0
  by_cases h1 : p = 1
  ·subst h1
   rw [rowG_1]
   have HF : Hid (SlotsAt (w.alloc (.cells #[.int .i64 2, .bool false, .bool false, .int .i64 4, .bool false, .bool false, .int .i64 22, .bool false, .bool false] 94)) (.slice (some ⟨w.heap.size, 0, none⟩) 3 3) [(2, false, false), (4, false, false), (22, false, false)]) := Lib.hid (SlotsAt.laid (l := [(2, false, false), (4, false, false), (22, false, false)]) (Row.new w _ [.int .i64 2, .bool false, .bool false, .int .i64 4, .bool false, .bool false, .int .i64 22, .bool false, .bool false]) (by decide))
   go_enter Tryz.func34, Tryz.ntmps34
   go_wp2
   go_returns
   exact ⟨_, rfl, HF.out, (Below.refl _ _).alloc (Nat.le_refl _) _⟩
  ·have b1 : (p == 1) = false := by simpa using h1
   by_cases h2 : p = 2
   ·subst h2
    rw [rowG_2]
    have HF : Hid (SlotsAt (w.alloc (.cells #[.int .i64 3, .bool true, .bool false, .int .i64 4, .bool false, .bool false, .int .i64 7, .bool false, .bool false, .int .i64 11, .bool false, .bool false, .int .i64 12, .bool true, .bool false, .int .i64 13, .bool true, .bool false, .int .i64 21, .bool true, .bool false] 94)) (.slice (some ⟨w.heap.size, 0, none⟩) 7 7) [(3, true, false), (4, false, false), (7, false, false), (11, false, false), (12, true, false), (13, true, false), (21, true, false)]) := Lib.hid (SlotsAt.laid (l := [(3, true, false), (4, false, false), (7, false, false), (11, false, false), (12, true, false), (13, true, false), (21, true, false)]) (Row.new w _ [.int .i64 3, .bool true, .bool false, .int .i64 4, .bool false, .bool false, .int .i64 7, .bool false, .bool false, .int .i64 11, .bool false, .bool false, .int .i64 12, .bool true, .bool false, .int .i64 13, .bool true, .bool false, .int .i64 21, .bool true, .bool false]) (by decide))
    go_enter Tryz.func34, Tryz.ntmps34
    go_wp2
    go_returns
    exact ⟨_, rfl, HF.out, (Below.refl _ _).alloc (Nat.le_refl _) _⟩
   ·have b2 : (p == 2) = false := by simpa using h2
    by_cases h4 : p = 4
    ·subst h4
     rw [rowG_4]
     have HF : Hid (SlotsAt (w.alloc (.cells #[.int .i64 5, .bool false, .bool false, .int .i64 6, .bool true, .bool false] 94)) (.slice (some ⟨w.heap.size, 0, none⟩) 2 2) [(5, false, false), (6, true, false)]) := Lib.hid (SlotsAt.laid (l := [(5, false, false), (6, true, false)]) (Row.new w _ [.int .i64 5, .bool false, .bool false, .int .i64 6, .bool true, .bool false]) (by decide))
     go_enter Tryz.func34, Tryz.ntmps34
     go_wp2
     go_returns
     exact ⟨_, rfl, HF.out, (Below.refl _ _).alloc (Nat.le_refl _) _⟩
    ·have b4 : (p == 4) = false := by simpa using h4
     by_cases h6 : p = 6
     ·subst h6
      rw [rowG_6]
      have HF : Hid (SlotsAt (w.alloc (.cells #[.int .i64 6, .bool true, .bool true] 94)) (.slice (some ⟨w.heap.size, 0, none⟩) 1 1) [(6, true, true)]) := Lib.hid (SlotsAt.laid (l := [(6, true, true)]) (Row.new w _ [.int .i64 6, .bool true, .bool true]) (by decide))
      go_enter Tryz.func34, Tryz.ntmps34
      go_wp2
      go_returns
      exact ⟨_, rfl, HF.out, (Below.refl _ _).alloc (Nat.le_refl _) _⟩
     ·have b6 : (p == 6) = false := by simpa using h6
      by_cases h7 : p = 7
      ·subst h7
       rw [rowG_7]
       have HF : Hid (SlotsAt (w.alloc (.cells #[.int .i64 8, .bool true, .bool true] 94)) (.slice (some ⟨w.heap.size, 0, none⟩) 1 1) [(8, true, true)]) := Lib.hid (SlotsAt.laid (l := [(8, true, true)]) (Row.new w _ [.int .i64 8, .bool true, .bool true]) (by decide))
       go_enter Tryz.func34, Tryz.ntmps34
       go_wp2
       go_returns
       exact ⟨_, rfl, HF.out, (Below.refl _ _).alloc (Nat.le_refl _) _⟩
      ·have b7 : (p == 7) = false := by simpa using h7
       by_cases h8 : p = 8
       ·subst h8
        rw [rowG_8]
        have HF : Hid (SlotsAt (w.alloc (.cells #[.int .i64 9, .bool false, .bool true] 94)) (.slice (some ⟨w.heap.size, 0, none⟩) 1 1) [(9, false, true)]) := Lib.hid (SlotsAt.laid (l := [(9, false, true)]) (Row.new w _ [.int .i64 9, .bool false, .bool true]) (by decide))
        go_enter Tryz.func34, Tryz.ntmps34
        go_wp2
        go_returns
        exact ⟨_, rfl, HF.out, (Below.refl _ _).alloc (Nat.le_refl _) _⟩
       ·have b8 : (p == 8) = false := by simpa using h8
        by_cases h9 : p = 9
        ·subst h9
         rw [rowG_9]
         have HF : Hid (SlotsAt (w.alloc (.cells #[.int .i64 5, .bool false, .bool false, .int .i64 10, .bool false, .bool false] 94)) (.slice (some ⟨w.heap.size, 0, none⟩) 2 2) [(5, false, false), (10, false, false)]) := Lib.hid (SlotsAt.laid (l := [(5, false, false), (10, false, false)]) (Row.new w _ [.int .i64 5, .bool false, .bool false, .int .i64 10, .bool false, .bool false]) (by decide))
         go_enter Tryz.func34, Tryz.ntmps34
         go_wp2
         go_returns
         exact ⟨_, rfl, HF.out, (Below.refl _ _).alloc (Nat.le_refl _) _⟩
        ·have b9 : (p == 9) = false := by simpa using h9
         by_cases h13 : p = 13
         ·subst h13
          rw [rowG_13]
          have HF : Hid (SlotsAt (w.alloc (.cells #[.int .i64 14, .bool false, .bool true] 94)) (.slice (some ⟨w.heap.size, 0, none⟩) 1 1) [(14, false, true)]) := Lib.hid (SlotsAt.laid (l := [(14, false, true)]) (Row.new w _ [.int .i64 14, .bool false, .bool true]) (by decide))
          go_enter Tryz.func34, Tryz.ntmps34
          go_wp2
          go_returns
          exact ⟨_, rfl, HF.out, (Below.refl _ _).alloc (Nat.le_refl _) _⟩
         ·have b13 : (p == 13) = false := by simpa using h13
          by_cases h14 : p = 14
          ·subst h14
           rw [rowG_14]
           have HF : Hid (SlotsAt (w.alloc (.cells #[.int .i64 15, .bool false, .bool false, .int .i64 16, .bool false, .bool false, .int .i64 17, .bool true, .bool false] 94)) (.slice (some ⟨w.heap.size, 0, none⟩) 3 3) [(15, false, false), (16, false, false), (17, true, false)]) := Lib.hid (SlotsAt.laid (l := [(15, false, false), (16, false, false), (17, true, false)]) (Row.new w _ [.int .i64 15, .bool false, .bool false, .int .i64 16, .bool false, .bool false, .int .i64 17, .bool true, .bool false]) (by decide))
           go_enter Tryz.func34, Tryz.ntmps34
           go_wp2
           go_returns
           exact ⟨_, rfl, HF.out, (Below.refl _ _).alloc (Nat.le_refl _) _⟩
          ·have b14 : (p == 14) = false := by simpa using h14
           by_cases h17 : p = 17
           ·subst h17
            rw [rowG_17]
            have HF : Hid (SlotsAt (w.alloc (.cells #[.int .i64 18, .bool false, .bool true] 94)) (.slice (some ⟨w.heap.size, 0, none⟩) 1 1) [(18, false, true)]) := Lib.hid (SlotsAt.laid (l := [(18, false, true)]) (Row.new w _ [.int .i64 18, .bool false, .bool true]) (by decide))
            go_enter Tryz.func34, Tryz.ntmps34
            go_wp2
            go_returns
            exact ⟨_, rfl, HF.out, (Below.refl _ _).alloc (Nat.le_refl _) _⟩
           ·have b17 : (p == 17) = false := by simpa using h17
            by_cases h18 : p = 18
            ·subst h18
             rw [rowG_18]
             have HF : Hid (SlotsAt (w.alloc (.cells #[.int .i64 5, .bool false, .bool false, .int .i64 19, .bool true, .bool false, .int .i64 20, .bool false, .bool false] 94)) (.slice (some ⟨w.heap.size, 0, none⟩) 3 3) [(5, false, false), (19, true, false), (20, false, false)]) := Lib.hid (SlotsAt.laid (l := [(5, false, false), (19, true, false), (20, false, false)]) (Row.new w _ [.int .i64 5, .bool false, .bool false, .int .i64 19, .bool true, .bool false, .int .i64 20, .bool false, .bool false]) (by decide))
             go_enter Tryz.func34, Tryz.ntmps34
             go_wp2
             go_returns
             exact ⟨_, rfl, HF.out, (Below.refl _ _).alloc (Nat.le_refl _) _⟩
            ·have b18 : (p == 18) = false := by simpa using h18
             by_cases h21 : p = 21
             ·subst h21
              rw [rowG_21]
              have HF : Hid (SlotsAt (w.alloc (.cells #[.int .i64 17, .bool false, .bool false] 94)) (.slice (some ⟨w.heap.size, 0, none⟩) 1 1) [(17, false, false)]) := Lib.hid (SlotsAt.laid (l := [(17, false, false)]) (Row.new w _ [.int .i64 17, .bool false, .bool false]) (by decide))
              go_enter Tryz.func34, Tryz.ntmps34
              go_wp2
              go_returns
              exact ⟨_, rfl, HF.out, (Below.refl _ _).alloc (Nat.le_refl _) _⟩
             ·have b21 : (p == 21) = false := by simpa using h21
              rw [rowG_no ⟨h0, h1, h2, h4, h6, h7, h8, h9, h13, h14, h17, h18, h21⟩]
              clear h0 h1 h2 h4 h6 h7 h8 h9 h13 h14 h17 h18 h21
              go_enter Tryz.func34, Tryz.ntmps34
              go_wp2
              go_returns
              exact ⟨_, rfl, SlotsAt.nil _, Below.refl _ _⟩
end Go.Proofs.YtiiimhamfibdbaaGreat
/- What layer 20's reference gives: is a head the element of a part? Of every part and head. -/
namespace Go.Proofs.YtiiimhamfibdbaaGreat
open Go.RowKit Go.PlainAid
set_option linter.unusedVariables false
set_option maxRecDepth 100000 in
set_option maxHeartbeats 16000000 in
theorem refFits_any (p c t : Int) (f : Bool) (n : Int) (w : World) :
  Calls Tryz.prog 50 #[.int .i64 p, .agg #[.int .i64 c, .int .i64 t, .bool f, .int .i64 n]] w fun e w' => e = .returned (.bool (fitsG p c t f n)) ∧ Below w.heap.size w w' := by
 have HB1 : Hid (Below w.heap.size w (w.alloc (.cells #[.int .i64 c, .int .i64 t, .bool f, .int .i64 n] 32))) := Lib.hid ((Below.refl _ _).alloc (Nat.le_refl _) _)
 have HR1 : Hid (Row (w.alloc (.cells #[.int .i64 c, .int .i64 t, .bool f, .int .i64 n] 32)) w.heap.size 32 [.int .i64 c, .int .i64 t, .bool f, .int .i64 n]) := Lib.hid (Row.new w _ [.int .i64 c, .int .i64 t, .bool f, .int .i64 n])
 by_cases h6 : p = 6
 ·subst h6
  have HO : Hid (true = fitsG 6 c t f n) := Lib.hid (by simp [fitsG])
  go_enter Tryz.func50, Tryz.ntmps50
  go_wp2
  go_returns
  exact ⟨rets1 (congrArg Value.bool HO.out), HB1.out⟩
 ·have b6 : (p == 6) = false := by simpa using h6
  by_cases h21 : p = 21
  ·subst h21
   by_cases hc : c = 2
   ·subst hc
    cases f
    ·have HO : Hid (false = fitsG 21 2 t false n) := Lib.hid (by simp [fitsG])
     go_enter Tryz.func50, Tryz.ntmps50
     go_wp2
     go_returns
     exact ⟨rets1 (congrArg Value.bool HO.out), HB1.out⟩
    ·have HO : Hid ((t == 0) = fitsG 21 2 t true n) := Lib.hid (by simp [fitsG]; rfl)
     go_enter Tryz.func50, Tryz.ntmps50
     go_wp2
     go_returns
     exact ⟨rets1 (congrArg Value.bool HO.out), HB1.out⟩
   ·have bc : (c == 2) = false := by simpa using hc
    have HO : Hid (false = fitsG 21 c t f n) := Lib.hid (by simp [fitsG, hc])
    go_enter Tryz.func50, Tryz.ntmps50
    go_wp2
    go_returns
    exact ⟨rets1 (congrArg Value.bool HO.out), HB1.out⟩
  ·have b21 : (p == 21) = false := by simpa using h21
   by_cases hc : c = 0
   ·subst hc
    by_cases h8 : p = 8
    ·subst h8
     cases f
     ·have HO : Hid (false = fitsG 8 0 t false n) := Lib.hid (by simp [fitsG])
      go_enter Tryz.func50, Tryz.ntmps50
      go_wp2
      go_returns
      exact ⟨rets1 (congrArg Value.bool HO.out), HB1.out⟩
     ·have HO : Hid ((t == 17) = fitsG 8 0 t true n) := Lib.hid (by simp [fitsG]; rfl)
      go_enter Tryz.func50, Tryz.ntmps50
      go_wp2
      go_returns
      exact ⟨rets1 (congrArg Value.bool HO.out), HB1.out⟩
    ·have b8 : (p == 8) = false := by simpa using h8
     have HW := Lib.hid (fun W => refRow_any p W)
     by_cases hrow : 0 < (rowG p).length
     ·cases f
      ·have HO : Hid (false = fitsG p 0 t false n) := Lib.hid (by unfold fitsG; rw [if_neg h6, if_neg h21, if_neg (by simp), if_neg h8, if_pos hrow]; simp)
       go_enter Tryz.func50, Tryz.ntmps50
       go_wp2_with fail
       refine (HW.out _).mono ?_
       rintro e w5 ⟨v, rfl, hv, hb⟩
       have HB := Lib.hid (HB1.out.trans (hb.mono HB1.out.size))
       have z1 : w5.cell? ⟨w.heap.size, 1, none⟩ = some (.int .i64 t) := (HR1.out.below hb HR1.out.lt).cell 1
       have z2 : w5.cell? ⟨w.heap.size, 2, none⟩ = some (.bool false) := (HR1.out.below hb HR1.out.lt).cell 2
       obtain ⟨g, cc, rfl, _, _, _⟩ : ∃ g c, v = .slice (some ⟨g, 0, none⟩) (rowG p).length c ∧ (rowG p).length ≤ c ∧ c ≤ maxLen ∧ g < w5.heap.size := by
        rcases hv.shape with ⟨_, q⟩ | q
        ·rw [q] at hrow; exact absurd hrow (by decide)
        ·exact q
       have hrow2 : (0 : Int) < ((rowG p).length : Int) := by omega
       generalize (rowG p).length = N at *
       clear hv hb HW
       go_wp2
       go_returns
       exact ⟨rets1 (congrArg Value.bool HO.out), HB.out⟩
      ·have HO : Hid ((t == 16) = fitsG p 0 t true n) := Lib.hid (by unfold fitsG; rw [if_neg h6, if_neg h21, if_neg (by simp), if_neg h8, if_pos hrow]; simp; rfl)
       go_enter Tryz.func50, Tryz.ntmps50
       go_wp2_with fail
       refine (HW.out _).mono ?_
       rintro e w5 ⟨v, rfl, hv, hb⟩
       have HB := Lib.hid (HB1.out.trans (hb.mono HB1.out.size))
       have z1 : w5.cell? ⟨w.heap.size, 1, none⟩ = some (.int .i64 t) := (HR1.out.below hb HR1.out.lt).cell 1
       have z2 : w5.cell? ⟨w.heap.size, 2, none⟩ = some (.bool true) := (HR1.out.below hb HR1.out.lt).cell 2
       obtain ⟨g, cc, rfl, _, _, _⟩ : ∃ g c, v = .slice (some ⟨g, 0, none⟩) (rowG p).length c ∧ (rowG p).length ≤ c ∧ c ≤ maxLen ∧ g < w5.heap.size := by
        rcases hv.shape with ⟨_, q⟩ | q
        ·rw [q] at hrow; exact absurd hrow (by decide)
        ·exact q
       have hrow2 : (0 : Int) < ((rowG p).length : Int) := by omega
       generalize (rowG p).length = N at *
       clear hv hb HW
       go_wp2
       go_returns
       exact ⟨rets1 (congrArg Value.bool HO.out), HB.out⟩
     ·have hrl : (rowG p).length = 0 := by omega
      cases f with
      |true =>
       have HO : Hid (false = fitsG p 0 t true n) := Lib.hid (by unfold fitsG; rw [if_neg h6, if_neg h21, if_neg (by simp), if_neg h8, if_neg hrow]; simp)
       go_enter Tryz.func50, Tryz.ntmps50
       go_wp2_with fail
       refine (HW.out _).mono ?_
       rintro e w5 ⟨v, rfl, hv, hb⟩
       have HB := Lib.hid (HB1.out.trans (hb.mono HB1.out.size))
       have z1 : w5.cell? ⟨w.heap.size, 1, none⟩ = some (.int .i64 t) := (HR1.out.below hb HR1.out.lt).cell 1
       have z2 : w5.cell? ⟨w.heap.size, 2, none⟩ = some (.bool true) := (HR1.out.below hb HR1.out.lt).cell 2
       have z3 : w5.cell? ⟨w.heap.size, 3, none⟩ = some (.int .i64 n) := (HR1.out.below hb HR1.out.lt).cell 3
       obtain ⟨og, cc, rfl⟩ : ∃ og c, v = .slice og 0 c := by
        rcases hv.shape with ⟨q, _⟩ | ⟨g, c, q, _⟩
        ·exact ⟨_, _, q⟩
        ·rw [hrl] at q; exact ⟨_, _, q⟩
       clear hv hb HW
       go_wp2
       go_returns
       exact ⟨rets1 (congrArg Value.bool HO.out), HB.out⟩
      |false =>
       by_cases h3 : p = 3
       ·subst h3
        by_cases ht : t = 2
        ·subst ht
         have HO : Hid ((n == 1) = fitsG 3 0 2 false n) := Lib.hid (by simp [fitsG, rowG]; rfl)
         go_enter Tryz.func50, Tryz.ntmps50
         go_wp2_with fail
         refine (HW.out _).mono ?_
         rintro e w5 ⟨v, rfl, hv, hb⟩
         have HB := Lib.hid (HB1.out.trans (hb.mono HB1.out.size))
         have z1 : w5.cell? ⟨w.heap.size, 1, none⟩ = some (.int .i64 2) := (HR1.out.below hb HR1.out.lt).cell 1
         have z2 : w5.cell? ⟨w.heap.size, 2, none⟩ = some (.bool false) := (HR1.out.below hb HR1.out.lt).cell 2
         have z3 : w5.cell? ⟨w.heap.size, 3, none⟩ = some (.int .i64 n) := (HR1.out.below hb HR1.out.lt).cell 3
         obtain ⟨og, cc, rfl⟩ : ∃ og c, v = .slice og 0 c := by
          rcases hv.shape with ⟨q, _⟩ | ⟨g, c, q, _⟩
          ·exact ⟨_, _, q⟩
          ·rw [hrl] at q; exact ⟨_, _, q⟩
         clear hv hb HW
         go_wp2
         go_returns
         exact ⟨rets1 (congrArg Value.bool HO.out), HB.out⟩
        ·have bt2 : (t == 2) = false := by simpa using ht
         have HO : Hid (false = fitsG 3 0 t false n) := Lib.hid (by simp [fitsG, rowG, ht])
         go_enter Tryz.func50, Tryz.ntmps50
         go_wp2_with fail
         refine (HW.out _).mono ?_
         rintro e w5 ⟨v, rfl, hv, hb⟩
         have HB := Lib.hid (HB1.out.trans (hb.mono HB1.out.size))
         have z1 : w5.cell? ⟨w.heap.size, 1, none⟩ = some (.int .i64 t) := (HR1.out.below hb HR1.out.lt).cell 1
         have z2 : w5.cell? ⟨w.heap.size, 2, none⟩ = some (.bool false) := (HR1.out.below hb HR1.out.lt).cell 2
         have z3 : w5.cell? ⟨w.heap.size, 3, none⟩ = some (.int .i64 n) := (HR1.out.below hb HR1.out.lt).cell 3
         obtain ⟨og, cc, rfl⟩ : ∃ og c, v = .slice og 0 c := by
          rcases hv.shape with ⟨q, _⟩ | ⟨g, c, q, _⟩
          ·exact ⟨_, _, q⟩
          ·rw [hrl] at q; exact ⟨_, _, q⟩
         clear hv hb HW
         go_wp2
         go_returns
         exact ⟨rets1 (congrArg Value.bool HO.out), HB.out⟩
       ·have b3 : (p == 3) = false := by simpa using h3
        by_cases h5 : p = 5
        ·subst h5
         have HO : Hid ((t == 6) = fitsG 5 0 t false n) := Lib.hid (by simp [fitsG, rowG]; rfl)
         go_enter Tryz.func50, Tryz.ntmps50
         go_wp2_with fail
         refine (HW.out _).mono ?_
         rintro e w5 ⟨v, rfl, hv, hb⟩
         have HB := Lib.hid (HB1.out.trans (hb.mono HB1.out.size))
         have z1 : w5.cell? ⟨w.heap.size, 1, none⟩ = some (.int .i64 t) := (HR1.out.below hb HR1.out.lt).cell 1
         have z2 : w5.cell? ⟨w.heap.size, 2, none⟩ = some (.bool false) := (HR1.out.below hb HR1.out.lt).cell 2
         have z3 : w5.cell? ⟨w.heap.size, 3, none⟩ = some (.int .i64 n) := (HR1.out.below hb HR1.out.lt).cell 3
         obtain ⟨og, cc, rfl⟩ : ∃ og c, v = .slice og 0 c := by
          rcases hv.shape with ⟨q, _⟩ | ⟨g, c, q, _⟩
          ·exact ⟨_, _, q⟩
          ·rw [hrl] at q; exact ⟨_, _, q⟩
         clear hv hb HW
         go_wp2
         go_returns
         exact ⟨rets1 (congrArg Value.bool HO.out), HB.out⟩
        ·have b5 : (p == 5) = false := by simpa using h5
         by_cases h10 : p = 10
         ·subst h10
          by_cases ht : t = 12
          ·subst ht
           have HO : Hid (true = fitsG 10 0 12 false n) := Lib.hid (by simp [fitsG, rowG])
           go_enter Tryz.func50, Tryz.ntmps50
           go_wp2_with fail
           refine (HW.out _).mono ?_
           rintro e w5 ⟨v, rfl, hv, hb⟩
           have HB := Lib.hid (HB1.out.trans (hb.mono HB1.out.size))
           have z1 : w5.cell? ⟨w.heap.size, 1, none⟩ = some (.int .i64 12) := (HR1.out.below hb HR1.out.lt).cell 1
           have z2 : w5.cell? ⟨w.heap.size, 2, none⟩ = some (.bool false) := (HR1.out.below hb HR1.out.lt).cell 2
           have z3 : w5.cell? ⟨w.heap.size, 3, none⟩ = some (.int .i64 n) := (HR1.out.below hb HR1.out.lt).cell 3
           obtain ⟨og, cc, rfl⟩ : ∃ og c, v = .slice og 0 c := by
            rcases hv.shape with ⟨q, _⟩ | ⟨g, c, q, _⟩
            ·exact ⟨_, _, q⟩
            ·rw [hrl] at q; exact ⟨_, _, q⟩
           clear hv hb HW
           go_wp2
           go_returns
           exact ⟨rets1 (congrArg Value.bool HO.out), HB.out⟩
          ·have bt : (t == 12) = false := by simpa using ht
           by_cases ht2 : t = 19
           ·subst ht2
            have HO : Hid (true = fitsG 10 0 19 false n) := Lib.hid (by simp [fitsG, rowG])
            go_enter Tryz.func50, Tryz.ntmps50
            go_wp2_with fail
            refine (HW.out _).mono ?_
            rintro e w5 ⟨v, rfl, hv, hb⟩
            have HB := Lib.hid (HB1.out.trans (hb.mono HB1.out.size))
            have z1 : w5.cell? ⟨w.heap.size, 1, none⟩ = some (.int .i64 19) := (HR1.out.below hb HR1.out.lt).cell 1
            have z2 : w5.cell? ⟨w.heap.size, 2, none⟩ = some (.bool false) := (HR1.out.below hb HR1.out.lt).cell 2
            have z3 : w5.cell? ⟨w.heap.size, 3, none⟩ = some (.int .i64 n) := (HR1.out.below hb HR1.out.lt).cell 3
            obtain ⟨og, cc, rfl⟩ : ∃ og c, v = .slice og 0 c := by
             rcases hv.shape with ⟨q, _⟩ | ⟨g, c, q, _⟩
             ·exact ⟨_, _, q⟩
             ·rw [hrl] at q; exact ⟨_, _, q⟩
            clear hv hb HW
            go_wp2
            go_returns
            exact ⟨rets1 (congrArg Value.bool HO.out), HB.out⟩
           ·have bt2 : (t == 19) = false := by simpa using ht2
            have HO : Hid ((t == 22) = fitsG 10 0 t false n) := Lib.hid (by simp [fitsG, rowG, ht, ht2]; rfl)
            go_enter Tryz.func50, Tryz.ntmps50
            go_wp2_with fail
            refine (HW.out _).mono ?_
            rintro e w5 ⟨v, rfl, hv, hb⟩
            have HB := Lib.hid (HB1.out.trans (hb.mono HB1.out.size))
            have z1 : w5.cell? ⟨w.heap.size, 1, none⟩ = some (.int .i64 t) := (HR1.out.below hb HR1.out.lt).cell 1
            have z2 : w5.cell? ⟨w.heap.size, 2, none⟩ = some (.bool false) := (HR1.out.below hb HR1.out.lt).cell 2
            have z3 : w5.cell? ⟨w.heap.size, 3, none⟩ = some (.int .i64 n) := (HR1.out.below hb HR1.out.lt).cell 3
            obtain ⟨og, cc, rfl⟩ : ∃ og c, v = .slice og 0 c := by
             rcases hv.shape with ⟨q, _⟩ | ⟨g, c, q, _⟩
             ·exact ⟨_, _, q⟩
             ·rw [hrl] at q; exact ⟨_, _, q⟩
            clear hv hb HW
            go_wp2
            go_returns
            exact ⟨rets1 (congrArg Value.bool HO.out), HB.out⟩
         ·have b10 : (p == 10) = false := by simpa using h10
          by_cases h11 : p = 11
          ·subst h11
           by_cases ht : t = 23
           ·subst ht
            have HO : Hid (true = fitsG 11 0 23 false n) := Lib.hid (by simp [fitsG, rowG])
            go_enter Tryz.func50, Tryz.ntmps50
            go_wp2_with fail
            refine (HW.out _).mono ?_
            rintro e w5 ⟨v, rfl, hv, hb⟩
            have HB := Lib.hid (HB1.out.trans (hb.mono HB1.out.size))
            have z1 : w5.cell? ⟨w.heap.size, 1, none⟩ = some (.int .i64 23) := (HR1.out.below hb HR1.out.lt).cell 1
            have z2 : w5.cell? ⟨w.heap.size, 2, none⟩ = some (.bool false) := (HR1.out.below hb HR1.out.lt).cell 2
            have z3 : w5.cell? ⟨w.heap.size, 3, none⟩ = some (.int .i64 n) := (HR1.out.below hb HR1.out.lt).cell 3
            obtain ⟨og, cc, rfl⟩ : ∃ og c, v = .slice og 0 c := by
             rcases hv.shape with ⟨q, _⟩ | ⟨g, c, q, _⟩
             ·exact ⟨_, _, q⟩
             ·rw [hrl] at q; exact ⟨_, _, q⟩
            clear hv hb HW
            go_wp2
            go_returns
            exact ⟨rets1 (congrArg Value.bool HO.out), HB.out⟩
           ·have bt : (t == 23) = false := by simpa using ht
            have HO : Hid ((t == 24) = fitsG 11 0 t false n) := Lib.hid (by simp [fitsG, rowG, ht]; rfl)
            go_enter Tryz.func50, Tryz.ntmps50
            go_wp2_with fail
            refine (HW.out _).mono ?_
            rintro e w5 ⟨v, rfl, hv, hb⟩
            have HB := Lib.hid (HB1.out.trans (hb.mono HB1.out.size))
            have z1 : w5.cell? ⟨w.heap.size, 1, none⟩ = some (.int .i64 t) := (HR1.out.below hb HR1.out.lt).cell 1
            have z2 : w5.cell? ⟨w.heap.size, 2, none⟩ = some (.bool false) := (HR1.out.below hb HR1.out.lt).cell 2
            have z3 : w5.cell? ⟨w.heap.size, 3, none⟩ = some (.int .i64 n) := (HR1.out.below hb HR1.out.lt).cell 3
            obtain ⟨og, cc, rfl⟩ : ∃ og c, v = .slice og 0 c := by
             rcases hv.shape with ⟨q, _⟩ | ⟨g, c, q, _⟩
             ·exact ⟨_, _, q⟩
             ·rw [hrl] at q; exact ⟨_, _, q⟩
            clear hv hb HW
            go_wp2
            go_returns
            exact ⟨rets1 (congrArg Value.bool HO.out), HB.out⟩
          ·have b11 : (p == 11) = false := by simpa using h11
           by_cases h12 : p = 12
           ·subst h12
            by_cases ht : t = 23
            ·subst ht
             have HO : Hid (true = fitsG 12 0 23 false n) := Lib.hid (by simp [fitsG, rowG])
             go_enter Tryz.func50, Tryz.ntmps50
             go_wp2_with fail
             refine (HW.out _).mono ?_
             rintro e w5 ⟨v, rfl, hv, hb⟩
             have HB := Lib.hid (HB1.out.trans (hb.mono HB1.out.size))
             have z1 : w5.cell? ⟨w.heap.size, 1, none⟩ = some (.int .i64 23) := (HR1.out.below hb HR1.out.lt).cell 1
             have z2 : w5.cell? ⟨w.heap.size, 2, none⟩ = some (.bool false) := (HR1.out.below hb HR1.out.lt).cell 2
             have z3 : w5.cell? ⟨w.heap.size, 3, none⟩ = some (.int .i64 n) := (HR1.out.below hb HR1.out.lt).cell 3
             obtain ⟨og, cc, rfl⟩ : ∃ og c, v = .slice og 0 c := by
              rcases hv.shape with ⟨q, _⟩ | ⟨g, c, q, _⟩
              ·exact ⟨_, _, q⟩
              ·rw [hrl] at q; exact ⟨_, _, q⟩
             clear hv hb HW
             go_wp2
             go_returns
             exact ⟨rets1 (congrArg Value.bool HO.out), HB.out⟩
            ·have bt : (t == 23) = false := by simpa using ht
             have HO : Hid ((t == 24) = fitsG 12 0 t false n) := Lib.hid (by simp [fitsG, rowG, ht]; rfl)
             go_enter Tryz.func50, Tryz.ntmps50
             go_wp2_with fail
             refine (HW.out _).mono ?_
             rintro e w5 ⟨v, rfl, hv, hb⟩
             have HB := Lib.hid (HB1.out.trans (hb.mono HB1.out.size))
             have z1 : w5.cell? ⟨w.heap.size, 1, none⟩ = some (.int .i64 t) := (HR1.out.below hb HR1.out.lt).cell 1
             have z2 : w5.cell? ⟨w.heap.size, 2, none⟩ = some (.bool false) := (HR1.out.below hb HR1.out.lt).cell 2
             have z3 : w5.cell? ⟨w.heap.size, 3, none⟩ = some (.int .i64 n) := (HR1.out.below hb HR1.out.lt).cell 3
             obtain ⟨og, cc, rfl⟩ : ∃ og c, v = .slice og 0 c := by
              rcases hv.shape with ⟨q, _⟩ | ⟨g, c, q, _⟩
              ·exact ⟨_, _, q⟩
              ·rw [hrl] at q; exact ⟨_, _, q⟩
             clear hv hb HW
             go_wp2
             go_returns
             exact ⟨rets1 (congrArg Value.bool HO.out), HB.out⟩
           ·have b12 : (p == 12) = false := by simpa using h12
            by_cases h16 : p = 16
            ·subst h16
             by_cases ht : t = 23
             ·subst ht
              have HO : Hid (true = fitsG 16 0 23 false n) := Lib.hid (by simp [fitsG, rowG])
              go_enter Tryz.func50, Tryz.ntmps50
              go_wp2_with fail
              refine (HW.out _).mono ?_
              rintro e w5 ⟨v, rfl, hv, hb⟩
              have HB := Lib.hid (HB1.out.trans (hb.mono HB1.out.size))
              have z1 : w5.cell? ⟨w.heap.size, 1, none⟩ = some (.int .i64 23) := (HR1.out.below hb HR1.out.lt).cell 1
              have z2 : w5.cell? ⟨w.heap.size, 2, none⟩ = some (.bool false) := (HR1.out.below hb HR1.out.lt).cell 2
              have z3 : w5.cell? ⟨w.heap.size, 3, none⟩ = some (.int .i64 n) := (HR1.out.below hb HR1.out.lt).cell 3
              obtain ⟨og, cc, rfl⟩ : ∃ og c, v = .slice og 0 c := by
               rcases hv.shape with ⟨q, _⟩ | ⟨g, c, q, _⟩
               ·exact ⟨_, _, q⟩
               ·rw [hrl] at q; exact ⟨_, _, q⟩
              clear hv hb HW
              go_wp2
              go_returns
              exact ⟨rets1 (congrArg Value.bool HO.out), HB.out⟩
             ·have bt : (t == 23) = false := by simpa using ht
              have HO : Hid ((t == 24) = fitsG 16 0 t false n) := Lib.hid (by simp [fitsG, rowG, ht]; rfl)
              go_enter Tryz.func50, Tryz.ntmps50
              go_wp2_with fail
              refine (HW.out _).mono ?_
              rintro e w5 ⟨v, rfl, hv, hb⟩
              have HB := Lib.hid (HB1.out.trans (hb.mono HB1.out.size))
              have z1 : w5.cell? ⟨w.heap.size, 1, none⟩ = some (.int .i64 t) := (HR1.out.below hb HR1.out.lt).cell 1
              have z2 : w5.cell? ⟨w.heap.size, 2, none⟩ = some (.bool false) := (HR1.out.below hb HR1.out.lt).cell 2
              have z3 : w5.cell? ⟨w.heap.size, 3, none⟩ = some (.int .i64 n) := (HR1.out.below hb HR1.out.lt).cell 3
              obtain ⟨og, cc, rfl⟩ : ∃ og c, v = .slice og 0 c := by
               rcases hv.shape with ⟨q, _⟩ | ⟨g, c, q, _⟩
               ·exact ⟨_, _, q⟩
               ·rw [hrl] at q; exact ⟨_, _, q⟩
              clear hv hb HW
              go_wp2
              go_returns
              exact ⟨rets1 (congrArg Value.bool HO.out), HB.out⟩
            ·have b16 : (p == 16) = false := by simpa using h16
             by_cases h15 : p = 15
             ·subst h15
              have HO : Hid ((t == 2) = fitsG 15 0 t false n) := Lib.hid (by simp [fitsG, rowG]; rfl)
              go_enter Tryz.func50, Tryz.ntmps50
              go_wp2_with fail
              refine (HW.out _).mono ?_
              rintro e w5 ⟨v, rfl, hv, hb⟩
              have HB := Lib.hid (HB1.out.trans (hb.mono HB1.out.size))
              have z1 : w5.cell? ⟨w.heap.size, 1, none⟩ = some (.int .i64 t) := (HR1.out.below hb HR1.out.lt).cell 1
              have z2 : w5.cell? ⟨w.heap.size, 2, none⟩ = some (.bool false) := (HR1.out.below hb HR1.out.lt).cell 2
              have z3 : w5.cell? ⟨w.heap.size, 3, none⟩ = some (.int .i64 n) := (HR1.out.below hb HR1.out.lt).cell 3
              obtain ⟨og, cc, rfl⟩ : ∃ og c, v = .slice og 0 c := by
               rcases hv.shape with ⟨q, _⟩ | ⟨g, c, q, _⟩
               ·exact ⟨_, _, q⟩
               ·rw [hrl] at q; exact ⟨_, _, q⟩
              clear hv hb HW
              go_wp2
              go_returns
              exact ⟨rets1 (congrArg Value.bool HO.out), HB.out⟩
             ·have b15 : (p == 15) = false := by simpa using h15
              by_cases h19 : p = 19
              ·subst h19
               have HO : Hid ((t == 1) = fitsG 19 0 t false n) := Lib.hid (by simp [fitsG, rowG]; rfl)
               go_enter Tryz.func50, Tryz.ntmps50
               go_wp2_with fail
               refine (HW.out _).mono ?_
               rintro e w5 ⟨v, rfl, hv, hb⟩
               have HB := Lib.hid (HB1.out.trans (hb.mono HB1.out.size))
               have z1 : w5.cell? ⟨w.heap.size, 1, none⟩ = some (.int .i64 t) := (HR1.out.below hb HR1.out.lt).cell 1
               have z2 : w5.cell? ⟨w.heap.size, 2, none⟩ = some (.bool false) := (HR1.out.below hb HR1.out.lt).cell 2
               have z3 : w5.cell? ⟨w.heap.size, 3, none⟩ = some (.int .i64 n) := (HR1.out.below hb HR1.out.lt).cell 3
               obtain ⟨og, cc, rfl⟩ : ∃ og c, v = .slice og 0 c := by
                rcases hv.shape with ⟨q, _⟩ | ⟨g, c, q, _⟩
                ·exact ⟨_, _, q⟩
                ·rw [hrl] at q; exact ⟨_, _, q⟩
               clear hv hb HW
               go_wp2
               go_returns
               exact ⟨rets1 (congrArg Value.bool HO.out), HB.out⟩
              ·have b19 : (p == 19) = false := by simpa using h19
               by_cases h20 : p = 20
               ·subst h20
                have HO : Hid ((t == 4) = fitsG 20 0 t false n) := Lib.hid (by simp [fitsG, rowG]; rfl)
                go_enter Tryz.func50, Tryz.ntmps50
                go_wp2_with fail
                refine (HW.out _).mono ?_
                rintro e w5 ⟨v, rfl, hv, hb⟩
                have HB := Lib.hid (HB1.out.trans (hb.mono HB1.out.size))
                have z1 : w5.cell? ⟨w.heap.size, 1, none⟩ = some (.int .i64 t) := (HR1.out.below hb HR1.out.lt).cell 1
                have z2 : w5.cell? ⟨w.heap.size, 2, none⟩ = some (.bool false) := (HR1.out.below hb HR1.out.lt).cell 2
                have z3 : w5.cell? ⟨w.heap.size, 3, none⟩ = some (.int .i64 n) := (HR1.out.below hb HR1.out.lt).cell 3
                obtain ⟨og, cc, rfl⟩ : ∃ og c, v = .slice og 0 c := by
                 rcases hv.shape with ⟨q, _⟩ | ⟨g, c, q, _⟩
                 ·exact ⟨_, _, q⟩
                 ·rw [hrl] at q; exact ⟨_, _, q⟩
                clear hv hb HW
                go_wp2
                go_returns
                exact ⟨rets1 (congrArg Value.bool HO.out), HB.out⟩
               ·have b20 : (p == 20) = false := by simpa using h20
                have HO : Hid ((t == 3) = fitsG p 0 t false n) := Lib.hid (by unfold fitsG; rw [if_neg h6, if_neg h21, if_neg (by simp), if_neg h8, if_neg hrow]; simp [h3, h5, h10, h11, h12, h16, h15, h19, h20]; rfl)
                go_enter Tryz.func50, Tryz.ntmps50
                go_wp2_with fail
                refine (HW.out _).mono ?_
                rintro e w5 ⟨v, rfl, hv, hb⟩
                have HB := Lib.hid (HB1.out.trans (hb.mono HB1.out.size))
                have z1 : w5.cell? ⟨w.heap.size, 1, none⟩ = some (.int .i64 t) := (HR1.out.below hb HR1.out.lt).cell 1
                have z2 : w5.cell? ⟨w.heap.size, 2, none⟩ = some (.bool false) := (HR1.out.below hb HR1.out.lt).cell 2
                have z3 : w5.cell? ⟨w.heap.size, 3, none⟩ = some (.int .i64 n) := (HR1.out.below hb HR1.out.lt).cell 3
                obtain ⟨og, cc, rfl⟩ : ∃ og c, v = .slice og 0 c := by
                 rcases hv.shape with ⟨q, _⟩ | ⟨g, c, q, _⟩
                 ·exact ⟨_, _, q⟩
                 ·rw [hrl] at q; exact ⟨_, _, q⟩
                clear hv hb HW
                go_wp2
                go_returns
                exact ⟨rets1 (congrArg Value.bool HO.out), HB.out⟩
   ·have bc : (c != 0) = true := by simpa using hc
    have HO : Hid (false = fitsG p c t f n) := Lib.hid (by unfold fitsG; rw [if_neg h6, if_neg h21, if_pos hc])
    go_enter Tryz.func50, Tryz.ntmps50
    go_wp2
    go_returns
    exact ⟨rets1 (congrArg Value.bool HO.out), HB1.out⟩
end Go.Proofs.YtiiimhamfibdbaaGreat
/- A state of layer 20's reference in memory: the parts that are open, the outermost first; slices of them, appended to. -/
namespace Go.Proofs.YtiiimhamfibdbaaGreat
open Go.RowKit Go.PlainAid
set_option linter.unusedVariables false
def goC (o : GO) : List Value := [.int .i64 o.p, .int .i64 (o.k : Int), .bool o.came]
def goO (o : GO) : Obj := .cells #[.int .i64 o.p, .int .i64 (o.k : Int), .bool o.came] 89
def gosC (l : List GO) : List Value := l.flatMap goC
theorem gosC_append (l m : List GO) : gosC (l ++ m) = gosC l ++ gosC m := by simp [gosC]
theorem gosC_length (l : List GO) : (gosC l).length = l.length * 3 := by
 induction l with
 |nil => rfl
 |cons e r ih => show (goC e ++ gosC r).length = _; rw [List.length_append, ih]; simp [goC]; omega
theorem gosC_one (l : List GO) : ∀ u ∈ gosC l, u.oneCell' = true := by
 intro u hu
 obtain ⟨e, _, h⟩ := List.mem_flatMap.1 hu
 simp [goC] at h
 rcases h with rfl | rfl | rfl <;> rfl
theorem gosC_at (l : List GO) (i : Nat) (h : i < l.length) (k : Nat) (hk : k < 3) : (gosC l)[i * 3 + k]? = (goC l[i])[k]? := by
 induction l generalizing i with
 |nil => simp at h
 |cons e r ih =>
  show (goC e ++ gosC r)[i * 3 + k]? = _
  cases i with
  |zero => rw [List.getElem?_append_left (by simp [goC]; omega)]; simp
  |succ i =>
   rw [List.getElem?_append_right (by simp [goC]; omega), show (i + 1) * 3 + k - (goC e).length = i * 3 + k by simp [goC]; omega, ih i (by simpa using h)]
   rfl
theorem infoOpen : (Tryz.prog.info? 89).map (fun i => (i.zero, i.size, i.bytes)) = some (some (.agg #[.int .i64 0, .int .i64 0, .bool false]), 3, 24) := by kernel_rfl
def OpA (w : World) (base : Nat) (v : Value) (l : List GO) : Prop := w.ownsRow base 89 3 v l.length (gosC l)
theorem OpA.below {w w' : World} {base : Nat} {v : Value} {l : List GO} (h : OpA w base v l) (hb : Below w.heap.size w w') : OpA w' base v l := own_below h hb
theorem OpA.mono {w : World} {base base' : Nat} {v : Value} {l : List GO} (h : OpA w base v l) (hb : base' ≤ base) : OpA w base' v l := by
 obtain ⟨hl, h1 | ⟨g, cap, cur, hv, hg, hh⟩⟩ := h
 ·exact ⟨hl, .inl h1⟩
 ·exact ⟨hl, .inr ⟨g, cap, cur, hv, Nat.le_trans hb hg, hh⟩⟩
theorem OpA.shape {w : World} {base : Nat} {v : Value} {l : List GO} (h : OpA w base v l) : (v = .slice none 0 0 ∧ l = []) ∨ ∃ g c, v = .slice (some ⟨g, 0, none⟩) l.length c ∧ l.length ≤ c ∧ c ≤ maxLen ∧ base ≤ g ∧ g < w.heap.size := by
 rcases own_shape h with ⟨h1, h2⟩ | h1
 ·exact .inl ⟨h1, List.eq_nil_of_length_eq_zero h2⟩
 ·exact .inr h1
theorem OpA.ob {w : World} {base : Nat} {v : Value} {l : List GO} (h : OpA w base v l) {b : Nat} (hb : v.ownBlock = some b) : base ≤ b ∧ b < w.heap.size := by
 rcases h.shape with ⟨rfl, _⟩ | ⟨g, c, rfl, _, _, h1, h2⟩
 ·cases hb
 ·injection hb with hb; have hb : g = b := hb; omega
theorem OpA.cells {w : World} {base g c m : Nat} {l : List GO} (h : OpA w base (.slice (some ⟨g, 0, none⟩) m c) l) : ∀ j u, (gosC l)[j]? = some u → w.cell? ((⟨g, 0, none⟩ : Addr).add j) = some u := World.ownsRow.cells h rfl
theorem OpA.at3 {w : World} {base g c m : Nat} {l : List GO} (h : OpA w base (.slice (some ⟨g, 0, none⟩) m c) l) (i : Nat) (hi : i < l.length) :
  w.cell? ⟨g, i * 3, none⟩ = some (.int .i64 l[i].p) ∧ w.cell? ⟨g, i * 3 + 1, none⟩ = some (.int .i64 (l[i].k : Int)) ∧ w.cell? ⟨g, i * 3 + 2, none⟩ = some (.bool l[i].came) := by
 have hcell := fun k (hk : k < 3) => h.cells (i * 3 + k) ((goC l[i])[k]'hk) (by rw [gosC_at l i hi k hk]; exact List.getElem?_eq_getElem hk)
 have hA : ∀ j, (⟨g, 0, none⟩ : Addr).add j = ⟨g, j, none⟩ := fun j => by unfold Addr.add; split <;> simp_all
 refine ⟨?_, ?_, ?_⟩
 ·have := hcell 0 (by decide); rw [hA] at this; exact this
 ·have := hcell 1 (by decide); rw [hA] at this; exact this
 ·have := hcell 2 (by decide); rw [hA] at this; exact this
theorem OpA.front {w : World} {base g c m : Nat} {l r : List GO} (h : OpA w base (.slice (some ⟨g, 0, none⟩) m c) (l ++ r)) : ∀ j u, (gosC l)[j]? = some u → w.cell? ((⟨g, 0, none⟩ : Addr).add j) = some u := by
 intro j u hj
 refine h.cells j u ?_
 rw [gosC_append, List.getElem?_append_left (List.getElem?_eq_some_iff.1 hj).1]
 exact hj
theorem OpA.made {w : World} {base g : Nat} (h : Row w g 89 []) (hb : base ≤ g) : OpA w base (.slice (some ⟨g, 0, none⟩) 0 0) [] :=
 ⟨rfl, .inr ⟨g, 0, #[], rfl, hb, h, Nat.le_refl _, Nat.zero_le _, rfl, rfl⟩⟩
theorem OpA.one (w : World) (o : GO) : OpA (w.alloc (goO o)) w.heap.size (.slice (some ⟨w.heap.size, 0, none⟩) 1 1) [o] :=
 ⟨rfl, .inr ⟨w.heap.size, 1, #[.int .i64 o.p, .int .i64 (o.k : Int), .bool o.came], rfl, Nat.le_refl _, heap_alloc_new w _, Nat.le_refl _, by unfold maxLen; omega, rfl, rfl⟩⟩
theorem go_row {w : World} {g : Nat} {o : GO} (h : Row w g 89 (goC o)) : ∀ j u, (gosC [o])[j]? = some u → w.cell? ((⟨g, 0, none⟩ : Addr).add j) = some u := by
 intro j u hj
 have hA : (⟨g, 0, none⟩ : Addr).add j = ⟨g, j, none⟩ := by unfold Addr.add; split <;> simp_all
 rw [hA, h.cell]
 simpa [gosC] using hj
theorem step_append_gos {ops : Array Oper} {o : Oper} {a : Act} {w : World} {K : Act → World → Prop} {Q : Exit → Act → World → Prop} {E : Prop} (hg : o.guard = none) (s x : Operand)
  (hop : o.op = .call { callee := .builtin .append, args := #[s, x], argTypes := #[59, 59] })
  (base : Nat) {v : Value} {l : List GO} (hv : a.eval s = v) (hs : OpA w base v l) (hb : base ≤ w.heap.size)
  (ad : Addr) (m c : Nat) (l2 : List GO) (hx : a.eval x = .slice (some ad) m c) (hm : l2.length = m) (hc : ∀ j u, (gosC l2)[j]? = some u → w.cell? (ad.add j) = some u) (h63 : l.length + l2.length ≤ 1000000000)
  (hK : ∀ v' w', OpA w' base v' (l ++ l2) → w.grownBy w' v.ownBlock → K (a.put o.dst v') w') :
  if Region.wanted o (yielded ops a.tmps) = true then Oper.wp Tryz.prog o a w K Q else E := by
 have hw : Region.wanted o (yielded ops a.tmps) = true := by simp [Region.wanted, hg]
 rw [if_pos hw]
 obtain ⟨i0, hi, hz0, hz1, hz2⟩ := info_parts infoOpen
 refine wp_append_own (P := Tryz.prog) (w := w) s x 59 hop base 89 i0 _ 3 24 Tryz.underlying59 hi hz0 hz1 hz2 rfl (by decide) v l.length (gosC l) hv hs ad m c (gosC l2) hx (by rw [gosC_length, hm]) hc (gosC_one _) (by unfold maxLen; omega) (by omega) hb ?_
 intro v' w' h1 h2 h3
 refine hK v' w' ?_ h2
 unfold OpA
 rw [List.length_append, hm, gosC_append]
 exact h1
theorem wpList_append_gos {w : World} {ops : Array Oper} {rest : List Oper} {o : Oper} {a : Act} {Q : Exit → Act → World → Prop} (hgd : o.guard = none) (s x : Operand)
  (ho : o.op = .call { callee := .builtin .append, args := #[s, x], argTypes := #[59, 59] })
  (base : Nat) {v : Value} {l : List GO} (hv : a.eval s = v) (hs : OpA w base v l) (hb : base ≤ w.heap.size)
  (ad : Addr) (m c : Nat) (l2 : List GO) (hx : a.eval x = .slice (some ad) m c) (hm : l2.length = m) (hc : ∀ j u, (gosC l2)[j]? = some u → w.cell? (ad.add j) = some u) (h63 : l.length + l2.length ≤ 1000000000)
  (h : ∀ v' w', OpA w' base v' (l ++ l2) → w.grownBy w' v.ownBlock → wpList Tryz.prog ops Q rest (a.put o.dst v') w') : wpList Tryz.prog ops Q (o :: rest) a w := by
 obtain ⟨i0, hi, hz0, hz1, hz2⟩ := info_parts infoOpen
 refine wpList_append_own _ hgd s x 59 ho base 89 i0 _ 3 24 Tryz.underlying59 hi hz0 hz1 hz2 rfl (by decide) v l.length (gosC l) hv hs ad m c (gosC l2) hx (by rw [gosC_length, hm]) hc (gosC_one _) (by unfold maxLen; omega) (by omega) hb ?_
 intro v' w' q1 q2 q3
 refine h v' w' ?_ q2
 unfold OpA
 rw [List.length_append, hm, gosC_append]; exact q1
theorem row_of_heap20 {X : World} {g : Nat} {t : TypeId} {l : List Value} {c : Array Value} (h : X.heap[g]? = some (.cells c t)) (hl : c = l.toArray) : Row X g t l := by subst hl; exact h
theorem heap20_push2 {A : Array Obj} (x y : Obj) : ((A.push x).push y)[A.size]? = some x ∧ ((A.push x).push y)[A.size + 1]? = some y := by
 constructor
 ·rw [Array.getElem?_push, if_neg (by simp), Array.getElem?_push, if_pos rfl]
 ·rw [Array.getElem?_push, if_pos (by simp)]
theorem heap20_1 {A : Array Obj} {n : Nat} (h : A.size = n) (x : Obj) : (A.push x)[n]? = some x := by subst h; simp
theorem heap20_2 {A : Array Obj} {n : Nat} (h : A.size = n) (x y : Obj) : ((A.push x).push y)[n]? = some x := by subst h; exact (heap20_push2 x y).1
theorem heap20_3 {A : Array Obj} {n : Nat} (h : A.size = n) (x y : Obj) : ((A.push x).push y)[n + 1]? = some y := by subst h; exact (heap20_push2 x y).2
theorem op_first {ops : Array Oper} {o : Oper} {a : Act} {X W : World} {K : Act → World → Prop} {Q : Exit → Act → World → Prop} {E : Prop} (hg : o.guard = none) (s x : Operand)
  (hop : o.op = .call { callee := .builtin .append, args := #[s, x], argTypes := #[59, 59] })
  (g5 g c n : Nat) (l : List GO) (hv : a.eval s = .slice (some ⟨g5, 0, none⟩) 0 0) (hx : a.eval x = .slice (some ⟨g, 0, none⟩) n c) (hn : l.length = n)
  (h5 : Row X g5 89 []) (hW : W.heap.size ≤ g5) (hB : Below W.heap.size W X) (hc : ∀ Y, Below W.heap.size W Y → ∀ j u, (gosC l)[j]? = some u → Y.cell? ((⟨g, 0, none⟩ : Addr).add j) = some u) (hl : l.length ≤ 100000000)
  (hK : ∀ v' X1, OpA X1 W.heap.size v' l → Below W.heap.size W X1 → (∀ g9 p, g9 ≠ g5 → Row X g9 89 (goC p) → Row X1 g9 89 (goC p)) → K (a.put o.dst v') X1) :
  if Region.wanted o (yielded ops a.tmps) = true then Oper.wp Tryz.prog o a X K Q else E := by
 refine step_append_gos hg s x hop W.heap.size (l := []) hv (OpA.made h5 hW) hB.size ⟨g, 0, none⟩ n c l hx hn (hc X hB) (by simp; omega) ?_
 intro v' X1 h1 h2
 have h2 : X.grownBy X1 (some g5) := h2
 refine hK v' X1 h1 (hB.grown h2 hB.size (by intro k hk; cases hk; exact hW)) ?_
 intro g9 p h9 hr
 exact hr.grown h2 (by intro q; injection q with q; exact h9 q)
theorem op_second {ops : Array Oper} {o : Oper} {a : Act} {X W : World} {K : Act → World → Prop} {Q : Exit → Act → World → Prop} {E : Prop} (hg : o.guard = none) (s x : Operand)
  (hop : o.op = .call { callee := .builtin .append, args := #[s, x], argTypes := #[59, 59] })
  (g9 : Nat) (v : Value) (l : List GO) (p : GO) (hv : a.eval s = v) (hx : a.eval x = .slice (some ⟨g9, 0, none⟩) 1 1)
  (hE : OpA X W.heap.size v l) (hR : Row X g9 89 (goC p)) (hB : Below W.heap.size W X) (hl : l.length ≤ 100000000)
  (hK : ∀ v' X1, OpA X1 W.heap.size v' (l ++ [p]) → Below W.heap.size W X1 → K (a.put o.dst v') X1) :
  if Region.wanted o (yielded ops a.tmps) = true then Oper.wp Tryz.prog o a X K Q else E := by
 refine step_append_gos hg s x hop W.heap.size (l := l) hv hE hB.size ⟨g9, 0, none⟩ 1 1 [p] hx rfl (go_row hR) (by simp; omega) ?_
 intro v' X1 h1 h2
 refine hK v' X1 h1 ?_
 exact hB.grown h2 hB.size (fun k q => (hE.ob q).1)
def rgV (ov : Value) (s : GS) : Value := .agg #[ov, .int .i64 s.leaf, .bool s.ver, .int .i64 s.part]
def RgAt (w : World) (v : Value) (s : GS) : Prop := ∃ ov, v = rgV ov s ∧ OpA w 0 ov s.op.reverse
theorem infoRg : (Tryz.prog.info? 61).map (·.size) = some 4 := by kernel_rfl
theorem rg_load {W : World} {g : Nat} {a b c d : Value} (h : Row W g 61 [a, b, c, d]) : (loadVar 61 ⟨g, 0, none⟩).run Tryz.prog W = .ok (.agg #[a, b, c, d]) W :=
 run_loadVar_mid _ _ 0 _ [a, b, c, d] _ h.whole Tryz.underlying61 rfl infoRg
set_option maxHeartbeats 4000000 in
theorem refGNew_any (w : World) : Calls Tryz.prog 16 #[] w fun e w' => ∃ v, e = .returned v ∧ RgAt w' v GS.new ∧ Below w.heap.size w w' := by
 go_enter Tryz.func16, Tryz.ntmps16
 go_wp2
 have hr := (Row.new w 61 [.slice (some ⟨w.heap.size + 1, 0, none⟩) 1 1, .int .i64 0, .bool false, .int .i64 0]).alloc (goO ⟨0, 0, false⟩)
 have ho := OpA.one (w.alloc (.cells #[.slice (some ⟨w.heap.size + 1, 0, none⟩) 1 1, .int .i64 0, .bool false, .int .i64 0] 61)) ⟨0, 0, false⟩
 have hs : (w.alloc (.cells #[.slice (some ⟨w.heap.size + 1, 0, none⟩) 1 1, .int .i64 0, .bool false, .int .i64 0] 61)).heap.size = w.heap.size + 1 := by simp
 rw [hs] at ho
 exact bodyPost_ret (results_cell Tryz.results16 _ (ad := ⟨w.heap.size, 0, none⟩) rfl (rg_load hr)) rfl ⟨_, rfl, ⟨_, rfl, ho.mono (Nat.zero_le _)⟩, ((Below.refl _ _).alloc (Nat.le_refl _) _).alloc (by simp) _⟩
end Go.Proofs.YtiiimhamfibdbaaGreat
