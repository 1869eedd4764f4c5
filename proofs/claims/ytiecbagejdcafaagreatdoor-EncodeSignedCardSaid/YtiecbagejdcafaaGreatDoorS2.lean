/- The library's stable sort over a row: the row is sorted, one element behind the other. Of rows of at most 1000000 elements of one cell. -/
import Derived.Test.YtiecbagejdcafaaGreatDoorS1
import Derived.Test.YtiecbagejdcafaaGreatDoorSortSym
import Derived.Test.YtiecbagejdcafaaGreatDoorR1
import Derived.Test.YtiecbagejdcafaaGreatDoorShelf
import Derived.Test.YtiecbagejdcafaaGreatDoorShelf2
import Derived.Deep.QuietTactic
import Derived.BigQuiet
import Derived.Handy
namespace Go.Proofs.YtiecbagejdcafaaGreatDoor
open Go.Shelf Go.RowKit Go.Lib Go.Sort
set_option linter.unusedVariables false
set_option linter.unusedSectionVars false
variable {α : Type} [Inhabited α] {enc : α → Value} {lt : α → α → Bool} {s : SF}
theorem ins_any (hO : SWO lt) {d : Array α} {w : World} (h : Can enc lt s d w) (a b : Nat) (hab : a ≤ b) (hb : b ≤ d.size) :
  Calls Tryz.prog 154 #[s.data, .int .i64 (a : Int), .int .i64 (b : Int)] w fun e w' => e = .returned (.tuple #[]) ∧ Left enc s d w (fun f => SrtF lt (fun k => d[k]!) f a b) w' := by
 refine (Tryz.insertionSort_func_w enc lt s.g s.lb s.sf s.sb s.blk s.off a b d w h.enter h.less h.swap h.holds h.blk hab hb (by have := h.size; omega)).mono ?_
 rintro e w' ⟨rfl, n, os, rfl⟩
 obtain ⟨h1, h2⟩ := insertion_is hO d a b hab hb
 exact ⟨rfl, _, h1, ⟨n, os, rfl⟩, h2⟩
def Blk (lt : α → α → Bool) (f g : Nat → α) (x y : Nat) : Prop := sgm g x (y - x) = srt lt (sgm f x (y - x))
theorem Blk.asc (hO : SWO lt) {f g : Nat → α} {x y : Nat} (h : Blk lt f g x y) (hxy : x ≤ y) : AscF lt g x y := AscF.of hxy (by rw [h]; exact asc_srt hO _ _ rfl)
theorem Blk.same {f g g' : Nat → α} {x y : Nat} (h : Blk lt f g x y) (hg : ∀ k, x ≤ k → k < y → g' k = g k) : Blk lt f g' x y := by
 unfold Blk
 rw [← h]
 exact seg_eq _ _ _ _ _ (fun t ht => hg _ (by omega) (by omega))
theorem Blk.merged (hO : SWO lt) {f g g' : Nat → α} {x m y : Nat} (h1 : Blk lt f g x m) (h2 : Blk lt f g m y) (hx : x ≤ m) (hy : m ≤ y) (hm : MrgF lt g g' x m y) : Blk lt f g' x y := by
 unfold Blk
 rw [hm.2, h1, h2, ← srt_append hO _ _ _ rfl, ← seg_cut f hx hy]
theorem Blk.srt {f g g' : Nat → α} {x y : Nat} (h : SrtF lt g g' x y) (hg : ∀ k, x ≤ k → k < y → g k = f k) : Blk lt f g' x y := by
 unfold Blk
 rw [h.sgm]
 congr 1
 exact seg_eq _ _ _ _ _ (fun t ht => hg _ (by omega) (by omega))
theorem dvd_step {c x y : Nat} (hx : c ∣ x) (hy : c ∣ y) (h : y < x) : y + c ≤ x := by
 obtain ⟨p, rfl⟩ := hx
 obtain ⟨q, rfl⟩ := hy
 have h1 : q < p := Nat.lt_of_mul_lt_mul_left h
 have := Nat.mul_le_mul_left c (show q + 1 ≤ p by omega)
 rw [Nat.mul_add, Nat.mul_one] at this
 exact this
set_option maxRecDepth 100000 in
set_option maxHeartbeats 16000000 in
theorem stable_any (hO : SWO lt) {d : Array α} {w : World} (h : Can enc lt s d w) :
  Calls Tryz.prog 112 #[s.data, .int .i64 (d.size : Int)] w fun e w' => e = .returned (.tuple #[]) ∧ Left enc s d w (fun f => Blk lt (fun k => d[k]!) f 0 d.size) w' := by
 have hsz := h.size
 obtain ⟨hb1, hb2⟩ := h.box
 have HB1 := Lib.hid hb1
 have HB2 := Lib.hid hb2
 have HC := Lib.hid (fun (d1 : Array α) (w1 : World) (k : SW enc (w.alloc s.box) s.blk s.off d1 w1) => h.cells k)
 have HW := Lib.hid h.blk
 clear hb1 hb2 h
 obtain ⟨n, hn⟩ : ∃ n, d.size = n := ⟨_, rfl⟩
 rw [hn] at hsz ⊢
 unfold SF.data
 go_enter Tryz.func112, Tryz.ntmps112
 go_wp2_with fail
 have hX : w.alloc (.cells #[.func (.func s.g) #[] s.lb, .func (.func s.sf) #[] s.sb] 174) = w.alloc s.box := rfl
 rw [hX]
 clear hX
 go_loopg [5, 6] n (fun gk av bv wr => ∃ (x y : Nat) (dk : Array α), av = .int .i64 (x : Int) ∧ bv = .int .i64 (y : Int) ∧ y = x + 20 ∧ x ≤ n ∧ n - x ≤ gk ∧ dk.size = n ∧ Hid (20 ∣ x) ∧ Hid (SW enc (w.alloc s.box) s.blk s.off dk wr) ∧ Hid (∀ y, 20 ∣ y → y < x → Blk lt (fun k => d[k]!) (fun k => dk[k]!) y (y + 20)) ∧ Hid (∀ k, x ≤ k → dk[k]! = d[k]!))
 case atStart => exact ⟨0, 20, d, rfl, rfl, rfl, by omega, by omega, hn, Lib.hid ⟨0, rfl⟩, Lib.hid (SW.start HB2.out.holds), Lib.hid (fun y _ h => by omega), Lib.hid (fun _ _ => rfl)⟩
 case round =>
  obtain ⟨x, y, dk, rfl, rfl, hy, hx, hgk, hs, HDx, HS, HK, HE⟩ := hrel
  have HY := Lib.hid hy
  have hya : x + 20 ≤ y ∧ y ≤ x + 20 := by omega
  clear hy
  obtain ⟨c0, c1⟩ := HC.out _ _ HS.out
  by_cases hlt : y ≤ n
  ·have hlt2 : (y : Int) ≤ (n : Int) := by omega
   have hC := ins_any hO (HB2.out.on HS.out (by omega)) x y (by omega) (by omega)
   have HCC := Lib.hid hC
   clear hC
   unfold SF.data at HCC
   go_wp2_with fail
   refine HCC.out.mono ?_
   rintro r w1 ⟨rfl, d1, hs1, hS1, hK1⟩
   have HS1 := Lib.hid (sw_trans HS.out HB2.out.blk hS1 hs1)
   have HD1 : Hid (20 ∣ y) := Lib.hid (by rw [HY.out]; exact Nat.dvd_add HDx.out ⟨1, rfl⟩)
   have HK1 : Hid (∀ z, 20 ∣ z → z < y → Blk lt (fun k => d[k]!) (fun k => d1[k]!) z (z + 20)) := Lib.hid (fun z hz hzy => by
    by_cases e : z < x
    ·have := dvd_step HDx.out hz e
     exact (HK.out z hz e).same (fun k h1 h2 => hK1.out k (.inl (by omega)))
    ·have : z = x := by
      have h3 : ¬ x < z := fun h => by have := dvd_step hz HDx.out h; omega
      omega
     subst this
     rw [← HY.out]
     exact Blk.srt hK1 (fun k h1 h2 => HE.out k h1))
   have HE1 : Hid (∀ k, y ≤ k → d1[k]! = d[k]!) := Lib.hid (fun k hk => (hK1.out k (.inr hk)).trans (HE.out k (by omega)))
   clear hS1 hK1 HCC HS HK HE c0 c1 HDx
   go_wp2_with fail
   go_roundg (n - y)
   case measure => omega
   case rel => exact ⟨y, y + 20, d1, rfl, by simp, rfl, hlt, by omega, by omega, HD1, HS1, HK1, HE1⟩
  ·have hlt2 : ¬ (y : Int) ≤ (n : Int) := by omega
   have hC := ins_any hO (HB2.out.on HS.out (by omega)) x n (by omega) (by omega)
   have HCC := Lib.hid hC
   clear hC
   unfold SF.data at HCC
   go_wp2_with fail
   refine HCC.out.mono ?_
   rintro r w1 ⟨rfl, d1, hs1, hS1, hK1⟩
   have HS1 := Lib.hid (sw_trans HS.out HB2.out.blk hS1 hs1)
   have HK1 : Hid (∀ z, 20 ∣ z → z < n → Blk lt (fun k => d[k]!) (fun k => d1[k]!) z (min (z + 20) n)) := Lib.hid (fun z hz hzn => by
    by_cases e : z < x
    ·have := dvd_step HDx.out hz e
     rw [show min (z + 20) n = z + 20 by omega]
     exact (HK.out z hz e).same (fun k h1 h2 => hK1.out k (.inl (by omega)))
    ·have : z = x := by
      have h3 : ¬ x < z := fun h => by have := dvd_step hz HDx.out h; omega
      omega
     subst this
     rw [show min (z + 20) n = n by omega]
     exact Blk.srt hK1 (fun k h1 h2 => HE.out k h1))
   have hs1 : d1.size = n := by omega
   clear hS1 hK1 HCC HS HK HE c0 c1 HDx hlt hlt2
   go_wp2_with fail
   go_loopg [4, 5, 6, 7] n (fun gk bsv av bv mv wr => ∃ (bs : Nat) (dk : Array α), bsv = .int .i64 (bs : Int) ∧ 20 ≤ bs ∧ bs ≤ 2000000 ∧ n - bs ≤ gk ∧ dk.size = n ∧ Hid (SW enc (w.alloc s.box) s.blk s.off dk wr) ∧ Hid (∀ y, bs ∣ y → y < n → Blk lt (fun k => d[k]!) (fun k => dk[k]!) y (min (y + bs) n)))
   case atStart => exact ⟨20, d1, rfl, by omega, by omega, by omega, hs1, HS1, HK1⟩
   case round =>
    clear HS1 HK1
    obtain ⟨bs, dk, rfl, hb20, hb2, hgk2, hs, HS, HK⟩ := hrel
    by_cases hlt : bs < n
    ·have hlt2 : (bs : Int) < (n : Int) := by omega
     obtain ⟨c, hc⟩ : ∃ c, 2 * bs = c := ⟨_, rfl⟩
     have hc1 : (2 : Int) * (bs : Int) = (c : Int) := by omega
     have hc2 : (bs : Int) * 2 = (c : Int) := by omega
     have hca : 2 * bs ≤ c ∧ c ≤ 2 * bs := by omega
     have HBC : Hid (bs ∣ c) := Lib.hid ⟨2, by omega⟩
     clear hc
     go_wp2_with fail
     go_loopg [5, 6] n (fun gk av bv wr => ∃ (x y : Nat) (dk : Array α), av = .int .i64 (x : Int) ∧ bv = .int .i64 (y : Int) ∧ Hid (y = x + c) ∧ (x + c ≤ y ∧ y ≤ x + c) ∧ x ≤ n ∧ n - x ≤ gk ∧ dk.size = n ∧ Hid (c ∣ x) ∧ Hid (SW enc (w.alloc s.box) s.blk s.off dk wr) ∧ Hid (∀ z, c ∣ z → z < x → Blk lt (fun k => d[k]!) (fun k => dk[k]!) z (z + c)) ∧ Hid (∀ z, bs ∣ z → x ≤ z → z < n → Blk lt (fun k => d[k]!) (fun k => dk[k]!) z (min (z + bs) n)))
     case atStart => exact ⟨0, c, dk, rfl, rfl, Lib.hid (by omega), by omega, by omega, by omega, hs, Lib.hid (Nat.dvd_zero c), HS, Lib.hid (fun z _ h => by omega), Lib.hid (fun z hz _ hn => HK.out z hz hn)⟩
     case round =>
      clear HS HK
      obtain ⟨x, y, dk, rfl, rfl, HY, hya, hx, hgk3, hs, HDx, HS, HK, HL⟩ := hrel
      obtain ⟨c0, c1⟩ := HC.out _ _ HS.out
      obtain ⟨m, hm⟩ : ∃ m, x + bs = m := ⟨_, rfl⟩
      have hmi : (x : Int) + (bs : Int) = (m : Int) := by omega
      have hma : x + bs ≤ m ∧ m ≤ x + bs := by omega
      have HM := Lib.hid hm
      clear hm
      have HDb : Hid (bs ∣ x) := Lib.hid (Nat.dvd_trans HBC.out HDx.out)
      have HDm : Hid (bs ∣ m) := Lib.hid (by rw [← HM.out]; exact Nat.dvd_add HDb.out (Nat.dvd_refl _))
      by_cases hyn : y ≤ n
      ·have hyn2 : (y : Int) ≤ (n : Int) := by omega
       have hB1 : Blk lt (fun k => d[k]!) (fun k => dk[k]!) x m := by
        have := HL.out x HDb.out (Nat.le_refl _) (by omega)
        rwa [show min (x + bs) n = m by omega] at this
       have hB2 : Blk lt (fun k => d[k]!) (fun k => dk[k]!) m y := by
        have := HL.out m HDm.out (by omega) (by omega)
        rwa [show min (m + bs) n = y by omega] at this
       have hC := merge_any hO (y - x) (HB2.out.on HS.out (by omega)) x m y (Nat.le_refl _) (by omega) (by omega) (by omega) (hB1.asc hO (by omega)) (hB2.asc hO (by omega))
       have HCC := Lib.hid hC
       have HQ := Lib.hid (And.intro hB1 hB2)
       clear hC hB1 hB2
       unfold MergeSays SF.data at HCC
       go_wp2_with fail
       refine HCC.out.mono ?_
       rintro r w1 ⟨rfl, d1, hs1, hS1, hK1⟩
       have HS1 := Lib.hid (sw_trans HS.out HB2.out.blk hS1 hs1)
       have HD1 : Hid (c ∣ y) := Lib.hid (by rw [HY.out]; exact Nat.dvd_add HDx.out (Nat.dvd_refl _))
       have HK1 : Hid (∀ z, c ∣ z → z < y → Blk lt (fun k => d[k]!) (fun k => d1[k]!) z (z + c)) := Lib.hid (fun z hz hzy => by
        by_cases e : z < x
        ·have := dvd_step HDx.out hz e
         exact (HK.out z hz e).same (fun k h1 h2 => hK1.1 k (.inl (by omega)))
        ·have : z = x := by
          have h3 : ¬ x < z := fun h => by have := dvd_step hz HDx.out h; omega
          omega
         subst this
         rw [← HY.out]
         exact Blk.merged hO HQ.out.1 HQ.out.2 (by omega) (by omega) hK1)
       have HL1 : Hid (∀ z, bs ∣ z → y ≤ z → z < n → Blk lt (fun k => d[k]!) (fun k => d1[k]!) z (min (z + bs) n)) := Lib.hid (fun z hz hzy hzn => (HL.out z hz (by omega) hzn).same (fun k h1 h2 => hK1.1 k (.inr (by omega))))
       clear hS1 hK1 HCC HS HK HL c0 c1 HDx HDb HDm HQ
       go_wp2_with fail
       go_roundg (n - y)
       case measure => omega
       case rel => exact ⟨y, y + c, d1, rfl, by simp, Lib.hid rfl, by omega, hyn, by omega, by omega, HD1, HS1, HK1, HL1⟩
      ·have hyn2 : ¬ (y : Int) ≤ (n : Int) := by omega
       by_cases hmn : m < n
       ·have hmn2 : (m : Int) < (n : Int) := by omega
        have hB1 : Blk lt (fun k => d[k]!) (fun k => dk[k]!) x m := by
         have := HL.out x HDb.out (Nat.le_refl _) (by omega)
         rwa [show min (x + bs) n = m by omega] at this
        have hB2 : Blk lt (fun k => d[k]!) (fun k => dk[k]!) m n := by
         have := HL.out m HDm.out (by omega) (by omega)
         rwa [show min (m + bs) n = n by omega] at this
        have hC := merge_any hO (n - x) (HB2.out.on HS.out (by omega)) x m n (Nat.le_refl _) (by omega) (by omega) (by omega) (hB1.asc hO (by omega)) (hB2.asc hO (by omega))
        have HCC := Lib.hid hC
        have HQ := Lib.hid (And.intro hB1 hB2)
        clear hC hB1 hB2
        unfold MergeSays SF.data at HCC
        go_wp2_with fail
        refine HCC.out.mono ?_
        rintro r w1 ⟨rfl, d1, hs1, hS1, hK1⟩
        have HS1 := Lib.hid (sw_trans HS.out HB2.out.blk hS1 hs1)
        have HK1 : Hid (∀ z, c ∣ z → z < n → Blk lt (fun k => d[k]!) (fun k => d1[k]!) z (min (z + c) n)) := Lib.hid (fun z hz hzn => by
         by_cases e : z < x
         ·have := dvd_step HDx.out hz e
          rw [show min (z + c) n = z + c by omega]
          exact (HK.out z hz e).same (fun k h1 h2 => hK1.1 k (.inl (by omega)))
         ·have : z = x := by
           have h3 : ¬ x < z := fun h => by have := dvd_step hz HDx.out h; omega
           omega
          subst this
          rw [show min (z + c) n = n by omega]
          exact Blk.merged hO HQ.out.1 HQ.out.2 (by omega) (by omega) hK1)
        clear hS1 hK1 HCC HS HK HL c0 c1 HDx HDb HDm HQ HY HM
        go_wp2_with fail
        go_roundg (n - c)
        case measure => omega
        case rel => exact ⟨c, d1, rfl, by omega, by omega, by omega, by omega, HS1, HK1⟩
       ·have hmn2 : ¬ (m : Int) < (n : Int) := by omega
        have HK1 : Hid (∀ z, c ∣ z → z < n → Blk lt (fun k => d[k]!) (fun k => dk[k]!) z (min (z + c) n)) := Lib.hid (fun z hz hzn => by
         by_cases e : z < x
         ·have := dvd_step HDx.out hz e
          rw [show min (z + c) n = z + c by omega]
          exact HK.out z hz e
         ·have : z = x := by
           have h3 : ¬ x < z := fun h => by have := dvd_step hz HDx.out h; omega
           omega
          subst this
          have := HL.out z HDb.out (Nat.le_refl _) hzn
          rw [show min (z + bs) n = n by omega] at this
          rw [show min (z + c) n = n by omega]
          exact this)
        clear HK HL c0 c1 HDx HDb HDm HY HM
        go_wp2_with fail
        go_roundg (n - c)
        case measure => omega
        case rel => exact ⟨c, dk, rfl, by omega, by omega, by omega, hs, HS, HK1⟩
    ·have hlt2 : ¬ (bs : Int) < (n : Int) := by omega
     have hD : Left enc s d w (fun f => Blk lt (fun k => d[k]!) f 0 n) wr := ⟨dk, by omega, sw_trans HB1.out HW.out HS.out (by omega), by
      by_cases e : 0 < n
      ·have := HK.out 0 ⟨0, rfl⟩ e
       rw [show min (0 + bs) n = n by omega] at this
       exact this
      ·obtain rfl : n = 0 := by omega
       rfl⟩
     have HD := Lib.hid hD
     clear hD HS HK HB1 HB2 HC
     go_wp2_with fail
     go_end0
     exact ⟨rfl, HD.out⟩
end Go.Proofs.YtiecbagejdcafaaGreatDoor
/- Package order's Sort: the elements in order, those that are neither's as they stood. Of at most 1000 elements of at most 1000 bytes each. -/
namespace Go.Proofs.YtiecbagejdcafaaGreatDoor
open Go.Shelf Go.RowKit Go.Lib Go.Sort Go.PlainAid
set_option linter.unusedVariables false
abbrev El := { x : ByteArray // x.size ≤ 1000 }
instance : Inhabited El := ⟨⟨⟨#[]⟩, by decide +kernel⟩⟩
def elE (x : El) : Value := .string x.1
def elL (x y : El) : Bool := decide (cmpL (bl x.1) (bl y.1) < 0)
theorem elL_true {x y : El} : elL x y = true ↔ 0 < cmpL (bl y.1) (bl x.1) := by
 unfold elL; rw [decide_eq_true_iff]; have := cmpL_neg (bl x.1) (bl y.1); omega
theorem elL_false {x y : El} : elL x y = false ↔ cmpL (bl y.1) (bl x.1) ≤ 0 := by
 unfold elL; rw [decide_eq_false_iff_not]; have := cmpL_neg (bl x.1) (bl y.1); omega
theorem elO : SWO elL where
 irrefl x := elL_false.2 (by rw [cmpL_self]; exact Int.le_refl _)
 trans x y z h1 h2 := by
  cases h : elL x z with
  |true => rfl
  |false =>
   have k1 := elL_true.1 h1
   have k2 := elL_true.1 h2
   have k3 := elL_false.1 h
   have k4 := cmpL_neg (bl x.1) (bl y.1)
   have k5 := cmpL_trans k3 (show cmpL (bl x.1) (bl y.1) ≤ 0 by omega)
   omega
 ntrans x y z h1 h2 := elL_false.2 (cmpL_trans (elL_false.1 h2) (elL_false.1 h1))
theorem kO_above (out : List ByteArray) (x : ByteArray) : ∀ n t, kO out x n ≤ t → t < n → 0 < cmpL (bl (out.getD t ⟨#[]⟩)) (bl x) := by
 intro n
 induction n with
 |zero => intro t h1 h2; omega
 |succ n ih =>
  intro t h1 h2
  rw [kO] at h1
  by_cases hc : 0 < cmpL (bl (out.getD n ⟨#[]⟩)) (bl x)
  ·rw [if_pos hc] at h1
   by_cases e : t = n
   ·subst e; exact hc
   ·exact ih t h1 (by omega)
  ·rw [if_neg hc] at h1; omega
theorem kO_below (out : List ByteArray) (x : ByteArray) : ∀ n k, kO out x n = k + 1 → ¬ 0 < cmpL (bl (out.getD k ⟨#[]⟩)) (bl x) := by
 intro n
 induction n with
 |zero => intro k h; cases h
 |succ n ih =>
  intro k h
  rw [kO] at h
  by_cases hc : 0 < cmpL (bl (out.getD n ⟨#[]⟩)) (bl x)
  ·rw [if_pos hc] at h; exact ih k h
  ·rw [if_neg hc] at h
   obtain rfl : n = k := by omega
   exact hc
theorem getD_map (A : List El) {t : Nat} (h : t < A.length) : (A.map (·.1)).getD t ⟨#[]⟩ = A[t].1 := by simp [List.getD, h]
theorem ins_is (A : List El) (x : El) (hA : Asc elL A) : (mrg elL A [x]).map (·.1) = insP (A.map (·.1)) x.1 := by
 obtain ⟨k, hk⟩ : ∃ k, kO (A.map (·.1)) x.1 (A.map (·.1)).length = k := ⟨_, rfl⟩
 have hkl : k ≤ A.length := by have := kO_le (A.map (·.1)) x.1 (A.map (·.1)).length; rw [hk, List.length_map] at this; exact this
 have h1 : ∀ y ∈ A.take k, elL x y = false := by
  intro y hy
  obtain ⟨t, ht, rfl⟩ := List.getElem_of_mem hy
  rw [List.length_take] at ht
  rw [List.getElem_take]
  cases k with
  |zero => omega
  |succ k =>
   have hb := kO_below _ _ _ _ hk
   rw [getD_map A (by omega)] at hb
   have hl : elL x (A[k]'(by omega)) = false := elL_false.2 (by omega)
   by_cases e : t = k
   ·subst e; exact hl
   ·exact elO.ntrans _ _ _ hl (List.pairwise_iff_getElem.1 hA t k (by omega) (by omega) (by omega))
 have h2 : ∀ z ∈ [x], ∀ y ∈ A.drop k, elL z y = true := by
  intro z hz y hy
  obtain rfl := List.mem_singleton.1 hz
  obtain ⟨t, ht, rfl⟩ := List.getElem_of_mem hy
  rw [List.length_drop] at ht
  rw [List.getElem_drop]
  have ha := kO_above (A.map (·.1)) z.1 (A.map (·.1)).length (k + t) (by omega) (by rw [List.length_map]; omega)
  rw [getD_map A (by omega)] at ha
  exact elL_true.2 ha
 have hm : mrg elL A [x] = A.take k ++ x :: A.drop k := by
  conv => lhs; rw [← List.take_append_drop k A]
  rw [mrg_ahead elL _ _ _ (fun y hy z hz => by obtain rfl := List.mem_singleton.1 hz; exact h1 y hy)]
  have := mrg_front elL (A.drop k) [x] [] h2
  rw [List.append_nil, mrg_nil_right] at this
  rw [this]; rfl
 rw [hm]
 unfold insP
 rw [hk, List.map_append, List.map_cons, List.map_take, List.map_drop]
theorem srt_is : ∀ (n : Nat) (A : List El), A.length = n → (srt elL A).map (·.1) = sortS (A.map (·.1)) := by
 intro n
 induction n with
 |zero =>
  intro A hA
  obtain rfl : A = [] := List.length_eq_zero_iff.1 hA
  rfl
 |succ n ih =>
  intro A hA
  obtain ⟨k, x, rfl⟩ : ∃ k x, A = k ++ [x] := ⟨A.dropLast, A.getLast (by intro e; rw [e] at hA; simp at hA), (List.dropLast_concat_getLast _).symm⟩
  rw [srt_snoc, ins_is _ _ (asc_srt elO _ _ rfl), ih k (by simpa using hA), List.map_append, List.map_cons, List.map_nil, sortS_snoc]
theorem sw_below {α : Type} [Inhabited α] {enc : α → Value} {blk off B : Nat} {d : Array α} {w W : World} (h : SW enc w blk off d W) (hB : B ≤ blk) (hw : B ≤ w.heap.size) : Below B w W := by
 obtain ⟨n, os, rfl⟩ := h
 refine ⟨rfl, rfl, rfl, ?_, fun i hi => ?_⟩
 ·unfold sortWorld; rw [size_grow, size_putRow]; show w.heap.size ≤ w.heap.size + _; omega
 ·unfold sortWorld
  rw [heap_grow_old _ _ (by rw [size_putRow]; show i < w.heap.size; omega)]
  unfold putRow mapBlock
  show (w.heap.modify blk _)[i]? = _
  rw [Array.getElem?_modify, if_neg (by omega)]
set_option maxHeartbeats 4000000 in
theorem cloneS_any (ad : Addr) (c : Nat) (l : List ByteArray) (hl : l.length ≤ c) (hc : c ≤ maxLen) (hn : l.length ≤ 1000000) (w : World) (h : Came w (some ad) (svs l)) :
  Calls Tryz.prog 86 #[.slice (some ad) l.length c] w fun e w' => ∃ v g, e = .returned v ∧ Sl w' 9 v (svs l) g ∧ w.heap.size ≤ g ∧ Below w.heap.size w w' := by
 have HEm : Hid (Sl (w.alloc (.cells #[] 9)) 9 (.slice (some ⟨w.heap.size, 0, none⟩) 0 0) (svs []) w.heap.size) := Lib.hid (sl_new_strs w [] (Nat.zero_le _))
 have HC : Hid (Came (w.alloc (.cells #[] 9)) (some ad) (svs l)) := Lib.hid (h.alloc _)
 have hl9 : ([] : List ByteArray).length + l.length ≤ 1000000000000 := by rw [List.length_nil]; omega
 have hE := Lib.run_eql_slice_nil (P := Tryz.prog) w 65 9 (some ad) l.length c 0 0 Tryz.underlying65
 clear h
 go_enter Tryz.func86, Tryz.ntmps86
 go_wp2_with (at_builtin; refine wpList_append_strs rfl (.tmp 5) (.tmp 6) rfl (l := []) (g := w.heap.size) rfl HEm.out (some ad) l.length c l rfl rfl HC.out hl9 ?_)
 intro v3 w3 g3 hs3 hg3 hgr3
 have hs3 : Sl w3 9 v3 (svs l) g3 := hs3
 have hB3 : Below w.heap.size w w3 := Below.grown ((Below.refl _ _).alloc (Nat.le_refl _) _) hgr3 (by simp) (by intro q hq; injection hq with hq; omega)
 have hg3w : w.heap.size ≤ g3 := by
  rcases hg3 with h | h <;> omega
 have HD := Lib.hid (And.intro hs3 hB3)
 clear hs3 hB3 hgr3 hg3 HEm HC
 go_wp2
 go_returns
 first | exact ⟨_, g3, rfl, HD.out.1, hg3w, HD.out.2⟩ | exact ⟨g3, rfl, HD.out.1, hg3w, HD.out.2⟩
set_option maxHeartbeats 4000000 in
theorem lessS_any (B g c n i j : Nat) (x y : El) (hi : i < n) (hj : j < n) (hn : n ≤ 1000000) (W : World) (hb : W.cell? ⟨B, 0, none⟩ = some (.slice (some ⟨g, 0, none⟩) n c)) (hx : W.cell? ⟨g, i, none⟩ = some (.string x.1)) (hy : W.cell? ⟨g, j, none⟩ = some (.string y.1)) :
  Calls Tryz.prog 88 #[.int .i64 (i : Int), .int .i64 (j : Int), .pointer (some ⟨B, 0, none⟩)] W fun e w' => e = .returned (.bool (elL x y)) ∧ ∃ q, w' = W.drewN q := by
 have HQ : Hid (∀ q, Calls Tryz.prog 89 #[.string x.1, .string y.1] (W.drewN q) fun e w' => e = .returned (.int .i64 (cmpL (bl x.1) (bl y.1))) ∧ w' = W.drewN q) := Lib.hid (fun q => ordCompare_any x.1 y.1 (by have := x.2; omega) (by have := y.2; omega) (W.drewN q))
 have hii : (i : Int) < (n : Int) := by omega
 have hjj : (j : Int) < (n : Int) := by omega
 unfold elL
 generalize cmpL (bl x.1) (bl y.1) = R at *
 generalize x.1 = xs at *
 generalize y.1 = ys at *
 go_enter Tryz.func88, Tryz.ntmps88
 go_wp2
 go_quiet (first | (go_at_call 89; exact Calls.quiet_of_same (HQ.out _)))
 go_wp2
 go_returns
 exact ⟨rfl, _, rfl⟩
noncomputable def strT : TypeInfo := (Tryz.prog.info? 65).get (by kernel_rfl)
noncomputable def strE : TypeInfo := (Tryz.prog.info? 9).get (by kernel_rfl)
theorem strK (n : Nat) (h2 : 2 ≤ n) : Lib.swapperK n strE 24 = 4 := by
 have a : strE.hasPointers = true := by kernel_rfl
 have b : strE.bytes = 16 := by kernel_rfl
 have c : (n == 0) = false := by simp; omega
 have d : (n == 1) = false := by simp; omega
 simp [Lib.swapperK, a, b, c, d]
def elOf (x : ByteArray) : El := if h : x.size ≤ 1000 then ⟨x, h⟩ else default
theorem elOf_val {x : ByteArray} (h : x.size ≤ 1000) : (elOf x).1 = x := by unfold elOf; rw [dif_pos h]
def elA (l : List ByteArray) : Array El := (l.map elOf).toArray
theorem elA_size (l : List ByteArray) : (elA l).size = l.length := by simp [elA]
theorem elA_at {l : List ByteArray} {i : Nat} (hi : i < l.length) : (elA l)[i]! = elOf l[i] := by
 rw [getElem!_pos _ i (by rw [elA_size]; exact hi)]; simp [elA]
theorem elA_seg (l : List ByteArray) : sgm (fun k => (elA l)[k]!) 0 l.length = l.map elOf := by
 apply List.ext_getElem
 ·rw [seg_length, List.length_map]
 ·intro i h1 h2
  rw [seg_length] at h1
  have : (sgm (fun k => (elA l)[k]!) 0 l.length)[i]'(by rw [seg_length]; exact h1) = (elA l)[i]! := by simp [sgm]
  rw [this, elA_at h1, List.getElem_map]
theorem map_elOf {l : List ByteArray} (h : ∀ x ∈ l, x.size ≤ 1000) : (l.map elOf).map (·.1) = l := by
 rw [List.map_map]
 conv => rhs; rw [← List.map_id l]
 exact List.map_congr_left (fun x hx => elOf_val (h x hx))
theorem holds_of_sl {w : World} {v : Value} {l : List ByteArray} {g : Nat} (h : Sl w 9 v (svs l) g) (hl : ∀ x ∈ l, x.size ≤ 1000) : Holds elE w g 0 (elA l) := by
 intro j hj
 rw [elA_size] at hj
 rw [Nat.zero_add]
 refine ⟨?_, ?_⟩
 ·rw [h.cell (by rw [svs_length]; exact hj), elA_at hj]
  unfold elE
  rw [elOf_val (hl _ (List.getElem_mem hj))]
  simp [svs]
 ·obtain ⟨sp, _, _, hr⟩ := h
  exact hr.frozen j
theorem sorted_is {l : List ByteArray} (hl : ∀ x ∈ l, x.size ≤ 1000) {d' : Array El} (hs : d'.size = l.length) (h : Blk elL (fun k => (elA l)[k]!) (fun k => d'[k]!) 0 l.length) : ∀ j (hj : j < l.length), (d'[j]!).1 = (sortS l)[j]'(by rw [sortS_len]; exact hj) := by
 intro j hj
 unfold Blk at h
 rw [Nat.sub_zero, elA_seg] at h
 have h2 := congrArg (List.map (·.1)) h
 rw [srt_is _ _ rfl, map_elOf hl] at h2
 have h3 : ((sgm (fun k => d'[k]!) 0 l.length).map (·.1))[j]? = some (d'[j]!).1 := by
  rw [List.getElem?_map]
  simp [sgm, hj]
 rw [h2, List.getElem?_eq_getElem (by rw [sortS_len]; exact hj)] at h3
 exact (Option.some.inj h3).symm
set_option maxRecDepth 100000 in
set_option maxHeartbeats 8000000 in
theorem sliceStable_any (B g c : Nat) (l : List ByteArray) (hl : ∀ x ∈ l, x.size ≤ 1000) (hn : l.length ≤ 1000) (hBg : B ≠ g) (w : World) (hb : w.cell? ⟨B, 0, none⟩ = some (.slice (some ⟨g, 0, none⟩) l.length c)) (hBw : B < w.heap.size) (hS : Sl w 9 (.slice (some ⟨g, 0, none⟩) l.length c) (svs l) g) :
  Calls Tryz.prog 87 #[.iface 65 (.slice (some ⟨g, 0, none⟩) l.length c), .func (.func 88) #[] #[.pointer (some ⟨B, 0, none⟩)]] w fun e w' => e = .returned (.tuple #[]) ∧ ∃ d' : Array El, d'.size = l.length ∧ Blk elL (fun k => (elA l)[k]!) (fun k => d'[k]!) 0 l.length ∧ SW elE w g 0 d' w' := by
 have hH := holds_of_sl hS hl
 have hgw := hS.lt
 have hsz := elA_size l
 have hgrow : SW elE w g 0 (elA l) w := SW.start hH
 by_cases h2 : 2 ≤ l.length
 ·have hB : sliceBound Tryz.prog 9 strE 24 (some ⟨g, 0, none⟩) l.length c = #[.slice (some ⟨g, 0, none⟩) l.length c, typeHandle Tryz.prog 9] := by
   unfold sliceBound; rw [if_neg (swapperK_gt _ _ _ h2)]
  have hW : SW elE w g 0 (elA l) (stableWorld Tryz.prog Tryz.laysGt8_ren 65 (some ⟨g, 0, none⟩) l.length c w) := (hgrow.alloc _).alloc _
  have hless : LessReads Tryz.prog 88 #[.pointer (some ⟨B, 0, none⟩)] elE elL g 0 (elA l).size w := by
   intro m os dk hs i j hi hj
   have hk : SW elE w g 0 dk (sortWorld elE w g 0 m dk os) := ⟨m, os, rfl⟩
   have hkH := hk.holds hgw hH hs
   refine lessS_any B g c l.length i j dk[i]! dk[j]! (by omega) (by omega) (by omega) _ ?_ ?_ ?_
   ·rw [sw_old hk hBw hBg]; exact hb
   ·have := (hkH i (by omega)).1; rw [Nat.zero_add] at this; exact this
   ·have := (hkH j (by omega)).1; rw [Nat.zero_add] at this; exact this
  have hswap : SwapSwaps Tryz.prog 148 #[.slice (some ⟨g, 0, none⟩) l.length c, typeHandle Tryz.prog 9] elE g 0 (elA l).size := by
   rw [hsz]
   exact swapSwaps_of_literal true 148 (fun args W => run_callFunc_extern Tryz.func148 (by kernel_rfl) (by kernel_rfl) (by kernel_rfl) (e := Extern.ReflectliteSwapper.swap true) (by kernel_rfl) args W) 9 strE (by kernel_rfl) (by kernel_rfl) (fun _ => by kernel_rfl) elE (fun _ => rfl) g 0 l.length c
  have hcan : Can elE elL ⟨88, #[.pointer (some ⟨B, 0, none⟩)], 148, #[.slice (some ⟨g, 0, none⟩) l.length c, typeHandle Tryz.prog 9], g, 0⟩ (elA l) w :=
   ⟨enters_of Tryz.func88 (by kernel_rfl) rfl, hless, hswap, hH, hgw, by rw [hsz]; omega⟩
  have hst := stable_any elO (hcan.on hW rfl)
  rw [hsz] at hst
  refine Any.sort_SliceStable_of_stable Tryz.laysGt8 65 9 strT strE (by kernel_rfl) (by kernel_rfl) (by kernel_rfl) (by kernel_rfl) 24 (fun _ => by kernel_rfl) (some ⟨g, 0, none⟩) l.length c (by omega) 148 (by rw [strK _ h2]; kernel_rfl) (.func 88) #[] #[.pointer (some ⟨B, 0, none⟩)] w _ ?_
  rw [hB]
  refine hst.mono ?_
  rintro e w' ⟨rfl, d', hs', hS', hK'⟩
  exact ⟨rfl, d', by omega, hK', sw_trans hW hgw hS' (by omega)⟩
 ·have hid : ∀ w' os, w' = Sort.grow w os → ∃ d' : Array El, d'.size = l.length ∧ Blk elL (fun k => (elA l)[k]!) (fun k => d'[k]!) 0 l.length ∧ SW elE w g 0 d' w' := by
   rintro w' os rfl
   refine ⟨elA l, hsz, ?_, ⟨0, os, by unfold sortWorld; rw [show Sort.ahead w 0 = w from rfl, putRow_self _ _ _ _ _ hH]⟩⟩
   unfold Blk
   rw [Nat.sub_zero, elA_seg]
   match l, h2 with
   |[], _ => rfl
   |[x], _ => exact (srt_one elL _).symm
   |x :: y :: r, h2 => exact absurd (show 2 ≤ (x :: y :: r).length by simp) h2
  have HID := Lib.hid hid
  by_cases h0 : l.length = 0
  ·refine (Any.sort_SliceStable_tiny Tryz.laysGt8 65 9 strT strE (by kernel_rfl) (by kernel_rfl) (by kernel_rfl) (by kernel_rfl) 24 (fun _ => by kernel_rfl) (some ⟨g, 0, none⟩) l.length c (by omega) 145 (by rw [h0]; kernel_rfl) (.func 88) #[] #[.pointer (some ⟨B, 0, none⟩)] w).mono ?_
   rintro e w' ⟨rfl, os, hw⟩
   exact ⟨rfl, HID.out w' os hw⟩
  ·have h1 : l.length = 1 := by omega
   refine (Any.sort_SliceStable_tiny Tryz.laysGt8 65 9 strT strE (by kernel_rfl) (by kernel_rfl) (by kernel_rfl) (by kernel_rfl) 24 (fun _ => by kernel_rfl) (some ⟨g, 0, none⟩) l.length c (by omega) 146 (by rw [h1]; kernel_rfl) (.func 88) #[] #[.pointer (some ⟨B, 0, none⟩)] w).mono ?_
   rintro e w' ⟨rfl, os, hw⟩
   exact ⟨rfl, HID.out w' os hw⟩
end Go.Proofs.YtiecbagejdcafaaGreatDoor
/- Package order's Sort, called. Of at most 1000 elements of at most 1000 bytes each. -/
namespace Go.Proofs.YtiecbagejdcafaaGreatDoor
open Go.Shelf Go.RowKit Go.Lib Go.Sort Go.PlainAid
set_option linter.unusedVariables false
theorem came_sorted {w : World} {g : Nat} {l : List ByteArray} (hl : ∀ x ∈ l, x.size ≤ 1000) {d' : Array El} (hs : d'.size = l.length) (hB : Blk elL (fun k => (elA l)[k]!) (fun k => d'[k]!) 0 l.length) (hH : Holds elE w g 0 d') : Came w (some ⟨g, 0, none⟩) (svs (sortS l)) := by
 intro j u hj
 refine ⟨_, rfl, ?_⟩
 have hj' := (List.getElem?_eq_some_iff.1 hj).1
 rw [svs_length, sortS_len] at hj'
 have h1 := (hH j (by omega)).1
 rw [Nat.zero_add] at h1
 rw [svs_get (by rw [sortS_len]; exact hj')] at hj
 rw [addr_at, Nat.zero_add, h1, ← hj]
 unfold elE
 rw [sorted_is hl hs hB j hj']
set_option maxRecDepth 100000 in
set_option maxHeartbeats 8000000 in
theorem ordSort_any (ad : Addr) (c : Nat) (l : List ByteArray) (hlc : l.length ≤ c) (hc : c ≤ maxLen) (hn : l.length ≤ 1000) (hl : ∀ x ∈ l, x.size ≤ 1000) (w : World) (h : Came w (some ad) (svs l)) :
  Calls Tryz.prog 61 #[.slice (some ad) l.length c] w fun e w' => ∃ g c', e = .returned (.slice (some ⟨g, 0, none⟩) l.length c') ∧ l.length ≤ c' ∧ c' ≤ maxLen ∧ Came w' (some ⟨g, 0, none⟩) (svs (sortS l)) ∧ RowKit.Below w.heap.size w w' := by
 have HC := Lib.hid (cloneS_any ad c l hlc hc (by omega) w h)
 clear h
 go_enter Tryz.func61, Tryz.ntmps61
 go_wp2_with fail
 refine HC.out.mono ?_
 rintro e w1 ⟨v, g, rfl, hS, hg, hB⟩
 obtain ⟨c1, rfl, hc1, hcm1⟩ := hS.open (n := l.length) (svs_length l)
 have HS := Lib.hid hS
 have HB := Lib.hid hB
 have hgl := hS.lt
 have hw1 : w.heap.size ≤ w1.heap.size := hB.size
 clear hS hB HC
 go_wp2_with fail
 have hbx : (w1.alloc (.cells #[.slice (some ⟨g, 0, none⟩) l.length c1] 65)).cell? ⟨w1.heap.size, 0, none⟩ = some (.slice (some ⟨g, 0, none⟩) l.length c1) := by simp
 have hBg : w1.heap.size ≠ g := by omega
 have HS1 := Lib.hid (HS.out.alloc (.cells #[.slice (some ⟨g, 0, none⟩) l.length c1] 65))
 have HB1 : Hid (RowKit.Below w.heap.size w (w1.alloc (.cells #[.slice (some ⟨g, 0, none⟩) l.length c1] 65))) := Lib.hid (HB.out.alloc hw1 _)
 refine (sliceStable_any w1.heap.size g c1 l hl hn hBg _ hbx (by simp) HS1.out).mono ?_
 rintro e w2 ⟨rfl, d', hs', hK', hW'⟩
 have hb2 : w2.cell? ⟨w1.heap.size, 0, none⟩ = some (.slice (some ⟨g, 0, none⟩) l.length c1) := (sw_old hW' (a := ⟨w1.heap.size, 0, none⟩) (by simp) hBg).trans hbx
 have hH2 : Holds elE w2 g 0 d' := hW'.holds HS1.out.lt (holds_of_sl HS1.out hl) (by rw [elA_size]; exact hs')
 have HD := Lib.hid (And.intro (came_sorted hl hs' hK' hH2) (HB1.out.trans (sw_below hW' hg HB1.out.size)))
 clear hK' hW' hH2 hbx HS HS1 HB HB1
 go_wp2_with fail
 go_returns
 first
  |exact ⟨g, c1, rfl, hc1, hcm1, HD.out.1, HD.out.2⟩
  |exact ⟨_, _, rfl, hc1, hcm1, HD.out.1, HD.out.2⟩
end Go.Proofs.YtiecbagejdcafaaGreatDoor
