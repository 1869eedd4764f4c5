/- The library's stable sort over a row: the row is sorted, one element behind the other. Of rows of at most 1000000 elements of one cell. -/
import Derived.Test.YtnlhpldjficecaaSortIns
import Derived.Test.YtnlhpldjficecaaSortSym
import Derived.Test.YtnlhpldjficecaaShelf
namespace Go.Proofs.Ytnlhpldjficecaa
open Go.Shelf Go.RowKit Go.Lib Go.Sort
set_option linter.unusedVariables false
set_option linter.unusedSectionVars false
variable {α : Type} [Inhabited α] {enc : α → Value} {lt : α → α → Bool} {s : SF}
theorem ins_any (hO : SWO lt) {d : Array α} {w : World} (h : Can enc lt s d w) (a b : Nat) (hab : a ≤ b) (hb : b ≤ d.size) :
    Calls Try.prog 46 #[s.data, .int .i64 (a : Int), .int .i64 (b : Int)] w fun e w' => e = .returned (.tuple #[]) ∧ Left enc s d w (fun f => SrtF lt (fun k => d[k]!) f a b) w' := by
  refine (Try.insertionSort_func_w enc lt s.g s.lb s.sf s.sb s.blk s.off a b d w h.enter h.less h.swap h.holds h.blk hab hb (by have := h.size; omega)).mono ?_
  rintro e w' ⟨rfl, n, os, rfl⟩
  obtain ⟨h1, h2⟩ := insertion_is hO d a b hab hb
  exact ⟨rfl, _, h1, ⟨n, os, rfl⟩, h2⟩
/-- [x, y) of a row is what [x, y) of another one is, sorted. -/
def Blk (lt : α → α → Bool) (f g : Nat → α) (x y : Nat) : Prop := seg g x (y - x) = srt lt (seg f x (y - x))
theorem Blk.asc (hO : SWO lt) {f g : Nat → α} {x y : Nat} (h : Blk lt f g x y) (hxy : x ≤ y) : AscF lt g x y := AscF.of hxy (by rw [h]; exact asc_srt hO _ _ rfl)
theorem Blk.same {f g g' : Nat → α} {x y : Nat} (h : Blk lt f g x y) (hg : ∀ k, x ≤ k → k < y → g' k = g k) : Blk lt f g' x y := by
  unfold Blk
  rw [← h]
  exact seg_eq _ _ _ _ _ (fun t ht => hg _ (by omega) (by omega))
theorem Blk.merged (hO : SWO lt) {f g g' : Nat → α} {x m y : Nat} (h1 : Blk lt f g x m) (h2 : Blk lt f g m y) (hx : x ≤ m) (hy : m ≤ y) (hm : MrgF lt g g' x m y) : Blk lt f g' x y := by
  unfold Blk
  rw [hm.2, h1, h2, ← srt_append hO _ _ _ rfl, ← seg_cut f hx hy]
theorem Blk.srt {f g g' : Nat → α} {x y : Nat} (h : SrtF lt g g' x y) (hg : ∀ k, x ≤ k → k < y → g k = f k) : Blk lt f g' x y := by
  unfold Blk
  rw [h.seg]
  congr 1
  exact seg_eq _ _ _ _ _ (fun t ht => hg _ (by omega) (by omega))
theorem dvd_step {c x y : Nat} (hx : c ∣ x) (hy : c ∣ y) (h : y < x) : y + c ≤ x := by
  obtain ⟨p, rfl⟩ := hx
  obtain ⟨q, rfl⟩ := hy
  have h1 : q < p := Nat.lt_of_mul_lt_mul_left h
  have := Nat.mul_le_mul_left c (show q + 1 ≤ p by omega)
  rw [Nat.mul_add, Nat.mul_one] at this
  exact this
theorem dvd_half {c x : Nat} (h : 2 * c ∣ x) : c ∣ x := Nat.dvd_trans ⟨2, by omega⟩ h
set_option maxRecDepth 100000 in
set_option maxHeartbeats 16000000 in
theorem stable_any (hO : SWO lt) {d : Array α} {w : World} (h : Can enc lt s d w) :
    Calls Try.prog 34 #[s.data, .int .i64 (d.size : Int)] w fun e w' => e = .returned (.tuple #[]) ∧ Left enc s d w (fun f => Blk lt (fun k => d[k]!) f 0 d.size) w' := by
  have hsz := h.size
  obtain ⟨hb1, hb2⟩ := h.box
  have HB1 := Lib.hid hb1
  have HB2 := Lib.hid hb2
  have HC := Lib.hid (fun (d1 : Array α) (w1 : World) (k : SW enc (w.alloc s.box) s.blk s.off d1 w1) => h.cells k)
  have HW := Lib.hid h.blk
  clear hb1 hb2 h
  obtain ⟨n, hn⟩ : ∃ n, d.size = n := ⟨_, rfl⟩
  rw [hn] at hsz ⊢
  unfold SF.data
  go_enter Try.func34, Try.ntmps34
  go_wp2_with fail
  have hX : w.alloc (.cells #[.func (.func s.g) #[] s.lb, .func (.func s.sf) #[] s.sb] 65) = w.alloc s.box := rfl
  rw [hX]
  clear hX
  go_loopg [5, 6] n (fun gk av bv wr => ∃ (x y : Nat) (dk : Array α), av = .int .i64 (x : Int) ∧ bv = .int .i64 (y : Int) ∧ y = x + 20 ∧ x ≤ n ∧ n - x ≤ gk ∧ dk.size = n ∧ Hid (20 ∣ x) ∧ Hid (SW enc (w.alloc s.box) s.blk s.off dk wr) ∧ Hid (∀ y, 20 ∣ y → y < x → Blk lt (fun k => d[k]!) (fun k => dk[k]!) y (y + 20)) ∧ Hid (∀ k, x ≤ k → dk[k]! = d[k]!))
  case atStart => exact ⟨0, 20, d, rfl, rfl, rfl, by omega, by omega, hn, Lib.hid ⟨0, rfl⟩, Lib.hid (SW.start HB2.out.holds), Lib.hid (fun y _ h => by omega), Lib.hid (fun _ _ => rfl)⟩
  case round =>
    obtain ⟨x, y, dk, rfl, rfl, hy, hx, hgk, hs, HDx, HS, HK, HE⟩ := hrel
    have HY := Lib.hid hy
    have hya : x + 20 ≤ y ∧ y ≤ x + 20 := by omega
    clear hy
    obtain ⟨c0, c1⟩ := HC.out _ _ HS.out
    by_cases hlt : y ≤ n
    · have hlt2 : (y : Int) ≤ (n : Int) := by omega
      have hC := ins_any hO (HB2.out.on HS.out (by omega)) x y (by omega) (by omega)
      have HCC := Lib.hid hC
      clear hC
      unfold SF.data at HCC
      go_wp2_with fail
      refine HCC.out.mono ?_
      rintro r w1 ⟨rfl, d1, hs1, hS1, hK1⟩
      have HS1 := Lib.hid (sw_trans HS.out HB2.out.blk hS1 hs1)
      have HD1 : Hid (20 ∣ y) := Lib.hid (by rw [HY.out]; exact Nat.dvd_add HDx.out ⟨1, rfl⟩)
      have HK1 : Hid (∀ z, 20 ∣ z → z < y → Blk lt (fun k => d[k]!) (fun k => d1[k]!) z (z + 20)) := Lib.hid (fun z hz hzy => by
        by_cases e : z < x
        · have := dvd_step HDx.out hz e
          exact (HK.out z hz e).same (fun k h1 h2 => hK1.out k (.inl (by omega)))
        · have : z = x := by
            have h3 : ¬ x < z := fun h => by have := dvd_step hz HDx.out h; omega
            omega
          subst this
          rw [← HY.out]
          exact Blk.srt hK1 (fun k h1 h2 => HE.out k h1))
      have HE1 : Hid (∀ k, y ≤ k → d1[k]! = d[k]!) := Lib.hid (fun k hk => (hK1.out k (.inr hk)).trans (HE.out k (by omega)))
      clear hS1 hK1 HCC HS HK HE c0 c1 HDx
      go_wp2_with fail
      go_roundg (n - y)
      case measure => omega
      case rel => exact ⟨y, y + 20, d1, rfl, by simp, rfl, hlt, by omega, by omega, HD1, HS1, HK1, HE1⟩
    · have hlt2 : ¬ (y : Int) ≤ (n : Int) := by omega
      have hC := ins_any hO (HB2.out.on HS.out (by omega)) x n (by omega) (by omega)
      have HCC := Lib.hid hC
      clear hC
      unfold SF.data at HCC
      go_wp2_with fail
      refine HCC.out.mono ?_
      rintro r w1 ⟨rfl, d1, hs1, hS1, hK1⟩
      have HS1 := Lib.hid (sw_trans HS.out HB2.out.blk hS1 hs1)
      have HK1 : Hid (∀ z, 20 ∣ z → z < n → Blk lt (fun k => d[k]!) (fun k => d1[k]!) z (min (z + 20) n)) := Lib.hid (fun z hz hzn => by
        by_cases e : z < x
        · have := dvd_step HDx.out hz e
          rw [show min (z + 20) n = z + 20 by omega]
          exact (HK.out z hz e).same (fun k h1 h2 => hK1.out k (.inl (by omega)))
        · have : z = x := by
            have h3 : ¬ x < z := fun h => by have := dvd_step hz HDx.out h; omega
            omega
          subst this
          rw [show min (z + 20) n = n by omega]
          exact Blk.srt hK1 (fun k h1 h2 => HE.out k h1))
      have hs1 : d1.size = n := by omega
      clear hS1 hK1 HCC HS HK HE c0 c1 HDx hlt hlt2
      go_wp2_with fail
      go_loopg [4, 5, 6, 7] n (fun gk bsv av bv mv wr => ∃ (bs : Nat) (dk : Array α), bsv = .int .i64 (bs : Int) ∧ 20 ≤ bs ∧ bs ≤ 2000000 ∧ n - bs ≤ gk ∧ dk.size = n ∧ Hid (SW enc (w.alloc s.box) s.blk s.off dk wr) ∧ Hid (∀ y, bs ∣ y → y < n → Blk lt (fun k => d[k]!) (fun k => dk[k]!) y (min (y + bs) n)))
      case atStart => exact ⟨20, d1, rfl, by omega, by omega, by omega, hs1, HS1, HK1⟩
      case round =>
        clear HS1 HK1
        obtain ⟨bs, dk, rfl, hb20, hb2, hgk2, hs, HS, HK⟩ := hrel
        by_cases hlt : bs < n
        · have hlt2 : (bs : Int) < (n : Int) := by omega
          obtain ⟨c, hc⟩ : ∃ c, 2 * bs = c := ⟨_, rfl⟩
          have hc1 : (2 : Int) * (bs : Int) = (c : Int) := by omega
          have hc2 : (bs : Int) * 2 = (c : Int) := by omega
          have hca : 2 * bs ≤ c ∧ c ≤ 2 * bs := by omega
          have HBC : Hid (bs ∣ c) := Lib.hid ⟨2, by omega⟩
          clear hc
          go_wp2_with fail
          go_loopg [5, 6] n (fun gk av bv wr => ∃ (x y : Nat) (dk : Array α), av = .int .i64 (x : Int) ∧ bv = .int .i64 (y : Int) ∧ Hid (y = x + c) ∧ (x + c ≤ y ∧ y ≤ x + c) ∧ x ≤ n ∧ n - x ≤ gk ∧ dk.size = n ∧ Hid (c ∣ x) ∧ Hid (SW enc (w.alloc s.box) s.blk s.off dk wr) ∧ Hid (∀ z, c ∣ z → z < x → Blk lt (fun k => d[k]!) (fun k => dk[k]!) z (z + c)) ∧ Hid (∀ z, bs ∣ z → x ≤ z → z < n → Blk lt (fun k => d[k]!) (fun k => dk[k]!) z (min (z + bs) n)))
          case atStart => exact ⟨0, c, dk, rfl, rfl, Lib.hid (by omega), by omega, by omega, by omega, hs, Lib.hid (Nat.dvd_zero c), HS, Lib.hid (fun z _ h => by omega), Lib.hid (fun z hz _ hn => HK.out z hz hn)⟩
          case round =>
            clear HS HK
            obtain ⟨x, y, dk, rfl, rfl, HY, hya, hx, hgk3, hs, HDx, HS, HK, HL⟩ := hrel
            obtain ⟨c0, c1⟩ := HC.out _ _ HS.out
            obtain ⟨m, hm⟩ : ∃ m, x + bs = m := ⟨_, rfl⟩
            have hmi : (x : Int) + (bs : Int) = (m : Int) := by omega
            have hma : x + bs ≤ m ∧ m ≤ x + bs := by omega
            have HM := Lib.hid hm
            clear hm
            have HDb : Hid (bs ∣ x) := Lib.hid (Nat.dvd_trans HBC.out HDx.out)
            have HDm : Hid (bs ∣ m) := Lib.hid (by rw [← HM.out]; exact Nat.dvd_add HDb.out (Nat.dvd_refl _))
            by_cases hyn : y ≤ n
            · have hyn2 : (y : Int) ≤ (n : Int) := by omega
              have hB1 : Blk lt (fun k => d[k]!) (fun k => dk[k]!) x m := by
                have := HL.out x HDb.out (Nat.le_refl _) (by omega)
                rwa [show min (x + bs) n = m by omega] at this
              have hB2 : Blk lt (fun k => d[k]!) (fun k => dk[k]!) m y := by
                have := HL.out m HDm.out (by omega) (by omega)
                rwa [show min (m + bs) n = y by omega] at this
              have hC := merge_any hO (y - x) (HB2.out.on HS.out (by omega)) x m y (Nat.le_refl _) (by omega) (by omega) (by omega) (hB1.asc hO (by omega)) (hB2.asc hO (by omega))
              have HCC := Lib.hid hC
              have HQ := Lib.hid (And.intro hB1 hB2)
              clear hC hB1 hB2
              unfold MergeSays SF.data at HCC
              go_wp2_with fail
              refine HCC.out.mono ?_
              rintro r w1 ⟨rfl, d1, hs1, hS1, hK1⟩
              have HS1 := Lib.hid (sw_trans HS.out HB2.out.blk hS1 hs1)
              have HD1 : Hid (c ∣ y) := Lib.hid (by rw [HY.out]; exact Nat.dvd_add HDx.out (Nat.dvd_refl _))
              have HK1 : Hid (∀ z, c ∣ z → z < y → Blk lt (fun k => d[k]!) (fun k => d1[k]!) z (z + c)) := Lib.hid (fun z hz hzy => by
                by_cases e : z < x
                · have := dvd_step HDx.out hz e
                  exact (HK.out z hz e).same (fun k h1 h2 => hK1.1 k (.inl (by omega)))
                · have : z = x := by
                    have h3 : ¬ x < z := fun h => by have := dvd_step hz HDx.out h; omega
                    omega
                  subst this
                  rw [← HY.out]
                  exact Blk.merged hO HQ.out.1 HQ.out.2 (by omega) (by omega) hK1)
              have HL1 : Hid (∀ z, bs ∣ z → y ≤ z → z < n → Blk lt (fun k => d[k]!) (fun k => d1[k]!) z (min (z + bs) n)) := Lib.hid (fun z hz hzy hzn => (HL.out z hz (by omega) hzn).same (fun k h1 h2 => hK1.1 k (.inr (by omega))))
              clear hS1 hK1 HCC HS HK HL c0 c1 HDx HDb HDm HQ
              go_wp2_with fail
              go_roundg (n - y)
              case measure => omega
              case rel => exact ⟨y, y + c, d1, rfl, by simp, Lib.hid rfl, by omega, hyn, by omega, by omega, HD1, HS1, HK1, HL1⟩
            · have hyn2 : ¬ (y : Int) ≤ (n : Int) := by omega
              by_cases hmn : m < n
              · have hmn2 : (m : Int) < (n : Int) := by omega
                have hB1 : Blk lt (fun k => d[k]!) (fun k => dk[k]!) x m := by
                  have := HL.out x HDb.out (Nat.le_refl _) (by omega)
                  rwa [show min (x + bs) n = m by omega] at this
                have hB2 : Blk lt (fun k => d[k]!) (fun k => dk[k]!) m n := by
                  have := HL.out m HDm.out (by omega) (by omega)
                  rwa [show min (m + bs) n = n by omega] at this
                have hC := merge_any hO (n - x) (HB2.out.on HS.out (by omega)) x m n (Nat.le_refl _) (by omega) (by omega) (by omega) (hB1.asc hO (by omega)) (hB2.asc hO (by omega))
                have HCC := Lib.hid hC
                have HQ := Lib.hid (And.intro hB1 hB2)
                clear hC hB1 hB2
                unfold MergeSays SF.data at HCC
                go_wp2_with fail
                refine HCC.out.mono ?_
                rintro r w1 ⟨rfl, d1, hs1, hS1, hK1⟩
                have HS1 := Lib.hid (sw_trans HS.out HB2.out.blk hS1 hs1)
                have HK1 : Hid (∀ z, c ∣ z → z < n → Blk lt (fun k => d[k]!) (fun k => d1[k]!) z (min (z + c) n)) := Lib.hid (fun z hz hzn => by
                  by_cases e : z < x
                  · have := dvd_step HDx.out hz e
                    rw [show min (z + c) n = z + c by omega]
                    exact (HK.out z hz e).same (fun k h1 h2 => hK1.1 k (.inl (by omega)))
                  · have : z = x := by
                      have h3 : ¬ x < z := fun h => by have := dvd_step hz HDx.out h; omega
                      omega
                    subst this
                    rw [show min (z + c) n = n by omega]
                    exact Blk.merged hO HQ.out.1 HQ.out.2 (by omega) (by omega) hK1)
                clear hS1 hK1 HCC HS HK HL c0 c1 HDx HDb HDm HQ HY HM
                go_wp2_with fail
                go_roundg (n - c)
                case measure => omega
                case rel => exact ⟨c, d1, rfl, by omega, by omega, by omega, by omega, HS1, HK1⟩
              · have hmn2 : ¬ (m : Int) < (n : Int) := by omega
                have HK1 : Hid (∀ z, c ∣ z → z < n → Blk lt (fun k => d[k]!) (fun k => dk[k]!) z (min (z + c) n)) := Lib.hid (fun z hz hzn => by
                  by_cases e : z < x
                  · have := dvd_step HDx.out hz e
                    rw [show min (z + c) n = z + c by omega]
                    exact HK.out z hz e
                  · have : z = x := by
                      have h3 : ¬ x < z := fun h => by have := dvd_step hz HDx.out h; omega
                      omega
                    subst this
                    have := HL.out z HDb.out (Nat.le_refl _) hzn
                    rw [show min (z + bs) n = n by omega] at this
                    rw [show min (z + c) n = n by omega]
                    exact this)
                clear HK HL c0 c1 HDx HDb HDm HY HM
                go_wp2_with fail
                go_roundg (n - c)
                case measure => omega
                case rel => exact ⟨c, dk, rfl, by omega, by omega, by omega, hs, HS, HK1⟩
        · have hlt2 : ¬ (bs : Int) < (n : Int) := by omega
          have hD : Left enc s d w (fun f => Blk lt (fun k => d[k]!) f 0 n) wr := ⟨dk, by omega, sw_trans HB1.out HW.out HS.out (by omega), by
            by_cases e : 0 < n
            · have := HK.out 0 ⟨0, rfl⟩ e
              rw [show min (0 + bs) n = n by omega] at this
              exact this
            · obtain rfl : n = 0 := by omega
              rfl⟩
          have HD := Lib.hid hD
          clear hD HS HK HB1 HB2 HC
          go_wp2_with fail
          go_end0
          exact ⟨rfl, HD.out⟩
end Go.Proofs.Ytnlhpldjficecaa
