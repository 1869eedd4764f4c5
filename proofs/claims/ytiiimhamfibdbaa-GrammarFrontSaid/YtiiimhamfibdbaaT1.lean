/- What text's tailOf, begin, behind, isPrintable, Start and Push give: the landed code's contracts. Of every state that a content can leave, and every byte. -/
import Derived.Test.YtiiimhamfibdbaaP0
import Derived.Test.YtiiimhamfibdbaaB0
import Derived.Test.YtiiimhamfibdbaaShelf
import Derived.Handy
import Derived.Deep.RegionWith
namespace Go.Proofs.Ytiiimhamfibdbaa
open Go.RowKit Go.PlainAid
set_option linter.unusedVariables false
def tC3 (n lo hi : Int) : List Value := [.int .i64 n, .int .u8 lo, .int .u8 hi]
theorem infoTl : (Try.prog.info? 116).map (·.size) = some 3 := by kernel_rfl
theorem tl_load {W : World} {g : Nat} {n lo hi : Int} (h : Row W g 116 (tC3 n lo hi)) : (loadVar 116 ⟨g, 0, none⟩).run Try.prog W = .ok (.agg #[.int .i64 n, .int .u8 lo, .int .u8 hi]) W :=
 run_loadVar_mid _ _ 0 _ (tC3 n lo hi) _ h.whole Try.underlying116 rfl infoTl
theorem txRow_new2 (w : World) (o : Obj) (t : TypeId) (l : List Value) : Row ((w.alloc o).alloc (.cells l.toArray t)) (w.heap.size + 1) t l := by
 have := Row.new (w.alloc o) t l
 simpa using this
theorem txResults_one {P : Program} {fn : Func} {p q : Tmp} {ty : TypeId} (h : fn.results = #[.cell p ty, .tmp q]) (tmps : Array Value) {ad : Addr} (hp : tmps.getD p undef = .pointer (some ad)) {v u : Value} {w : World}
  (hq : tmps.getD q undef = u) (hl : (loadVar ty ad).run P w = .ok v w) : (results fn tmps).run P w = .ok (.tuple #[v, u]) w := by
 rw [Array.getD_eq_getD_getElem?] at hp hq
 simp only [results, h]
 simp [hp, hq, asAddr, hl]
theorem tailOf_any (n : Int) (hn : 0 ≤ n ∧ n ≤ 3) (w : World) :
  Calls Try.prog 103 #[.int .i64 n] w fun e w' => e = .returned (.agg #[.int .i64 (tlN n).n, .int .u8 (tlN n).lo, .int .u8 (tlN n).hi]) ∧ Below w.heap.size w w' := by
 obtain ⟨n0, n1⟩ := hn
 by_cases h : n = 0
 ·subst h
  go_enter Try.func103, Try.ntmps103
  go_wp2
  exact bodyPost_ret (results_cell Try.results103 _ (ad := ⟨w.heap.size, 0, none⟩) rfl (tl_load (Row.new w 116 (tC3 0 0 0)))) rfl ⟨rfl, by go_grown⟩
 ·have hb : (n == 0) = false := by simpa using h
  have HO : Hid (tlN n = ⟨n, 128, 191⟩) := Lib.hid (if_neg h)
  clear h
  go_enter Try.func103, Try.ntmps103
  go_wp2
  exact bodyPost_ret (results_cell Try.results103 _ (ad := ⟨w.heap.size, 0, none⟩) rfl (tl_load (Row.new w 116 (tC3 n 128 191)))) rfl ⟨by rw [HO.out], by go_grown⟩
theorem tailOf_is (n : Int) (hn : 1 ≤ n ∧ n ≤ 3) (w : World) :
  Calls Try.prog 103 #[.int .i64 n] w fun e w' => e = .returned (.agg #[.int .i64 n, .int .u8 128, .int .u8 191]) ∧ Below w.heap.size w w' := by
 have := tailOf_any n ⟨by omega, hn.2⟩ w
 rw [show tlN n = ⟨n, 128, 191⟩ from if_neg (by omega)] at this
 exact this
theorem row3 {w : World} {g : Nat} {t : TypeId} {a b c : Value} (h : Row w g t [a, b, c]) (a' b' c' : Value) :
  Row (((w.setCell ⟨g, 0, none⟩ a').setCell ⟨g, 1, none⟩ b').setCell ⟨g, 2, none⟩ c') g t [a', b', c'] := ((h.set 0 a').set 1 b').set 2 c'
theorem below3 {a w : World} {B k o : Nat} (h : Below B a w) (hg : B ≤ k) (a' b' c' : Value) :
  Below B a (((w.setCell ⟨k, o, none⟩ a').setCell ⟨k, o + 1, none⟩ b').setCell ⟨k, o + 2, none⟩ c') :=
 ((h.setCell (p := ⟨k, o, none⟩) hg a').setCell (p := ⟨k, o + 1, none⟩) hg b').setCell (p := ⟨k, o + 2, none⟩) hg c'
set_option maxHeartbeats 4000000 in
theorem txBegin_any (b : Int) (hb : 0 ≤ b ∧ b ≤ 255) (w : World) :
  Calls Try.prog 102 #[.int .u8 b] w fun e w' => e = .returned (.tuple #[.agg #[.int .i64 (tBegin b).1.n, .int .u8 (tBegin b).1.lo, .int .u8 (tBegin b).1.hi], .bool (tBegin b).2]) ∧ Below w.heap.size w w' := by
 obtain ⟨b0, b1⟩ := hb
 obtain ⟨R, hR⟩ : ∃ R, tBegin b = R := ⟨_, rfl⟩
 rw [hR]
 have HO := Lib.hid hR
 unfold tBegin at HO
 clear hR
 have H1 := Lib.hid (tailOf_is 1 (by decide))
 have H2 := Lib.hid (tailOf_is 2 (by decide))
 have H3 := Lib.hid (tailOf_is 3 (by decide))
 by_cases c0 : b < 128
 ·rw [if_pos c0] at HO
  clear H1 H2 H3
  go_enter Try.func102, Try.ntmps102
  go_wp2
  exact bodyPost_ret (txResults_one Try.results102 _ (ad := ⟨w.heap.size, 0, none⟩) rfl rfl (tl_load (Row.new w 116 (tC3 0 0 0)))) rfl ⟨by rw [← HO.out]; rfl, by go_grown⟩
 ·rw [if_neg c0] at HO
  by_cases c1 : b < 194
  ·rw [if_pos c1] at HO
   clear H1 H2 H3
   go_enter Try.func102, Try.ntmps102
   go_wp2
   exact bodyPost_ret (txResults_one Try.results102 _ (ad := ⟨w.heap.size, 0, none⟩) rfl rfl (tl_load (Row.new w 116 (tC3 0 0 0)))) rfl ⟨by rw [← HO.out]; rfl, by go_grown⟩
  ·rw [if_neg c1] at HO
   by_cases c2 : b < 224
   ·rw [if_pos c2] at HO
    clear H2 H3
    go_enter Try.func102, Try.ntmps102
    go_wp2_with fail
    refine (H1.out _).mono ?_
    rintro e w1 ⟨rfl, hb1⟩
    have HR := (Row.new w 116 (tC3 0 0 0)).below hb1 (by simp)
    have HB := ((Below.refl w.heap.size w).alloc (Nat.le_refl _) (.cells #[.int .i64 0, .int .u8 0, .int .u8 0] 116)).trans (hb1.mono (by simp))
    have d0 : w1.cell? ⟨w.heap.size, 0, none⟩ = some (.int .i64 0) := HR.cell 0
    have d1 : w1.cell? ⟨w.heap.size, 1, none⟩ = some (.int .u8 0) := HR.cell 1
    have d2 : w1.cell? ⟨w.heap.size, 2, none⟩ = some (.int .u8 0) := HR.cell 2
    have f0 := HR.frozen 0
    have f1 := HR.frozen 1
    have f2 := HR.frozen 2
    have hls := HR.lt
    have HRh := Lib.hid HR
    have HBh := Lib.hid HB
    clear HR HB hb1
    go_wp2
    exact bodyPost_ret (txResults_one Try.results102 _ (ad := ⟨w.heap.size, 0, none⟩) rfl rfl (tl_load (row3 HRh.out (.int .i64 1) (.int .u8 128) (.int .u8 191)))) rfl ⟨by rw [← HO.out]; rfl, below3 (o := 0) HBh.out (Nat.le_refl _) _ _ _⟩
   ·rw [if_neg c2] at HO
    by_cases c3 : b = 224
    ·rw [if_pos c3] at HO
     clear H1 H2 H3
     subst c3
     go_enter Try.func102, Try.ntmps102
     go_wp2
     exact bodyPost_ret (txResults_one Try.results102 _ (ad := ⟨w.heap.size, 0, none⟩) rfl rfl (tl_load (Row.new w 116 (tC3 2 160 191)))) rfl ⟨by rw [← HO.out]; rfl, by go_grown⟩
    ·rw [if_neg c3] at HO
     by_cases c4 : b = 237
     ·rw [if_pos c4] at HO
      clear H1 H2 H3
      subst c4
      go_enter Try.func102, Try.ntmps102
      go_wp2
      exact bodyPost_ret (txResults_one Try.results102 _ (ad := ⟨w.heap.size, 0, none⟩) rfl rfl (tl_load (Row.new w 116 (tC3 2 128 159)))) rfl ⟨by rw [← HO.out]; rfl, by go_grown⟩
     ·rw [if_neg c4] at HO
      by_cases c5 : b < 240
      ·rw [if_pos c5] at HO
       clear H1 H3
       have e3 : (b == 224) = false := by simp; omega
       have e4 : (b == 237) = false := by simp; omega
       go_enter Try.func102, Try.ntmps102
       go_wp2_with fail
       refine (H2.out _).mono ?_
       rintro e w1 ⟨rfl, hb1⟩
       have HR := (Row.new w 116 (tC3 0 0 0)).below hb1 (by simp)
       have HB := ((Below.refl w.heap.size w).alloc (Nat.le_refl _) (.cells #[.int .i64 0, .int .u8 0, .int .u8 0] 116)).trans (hb1.mono (by simp))
       have d0 : w1.cell? ⟨w.heap.size, 0, none⟩ = some (.int .i64 0) := HR.cell 0
       have d1 : w1.cell? ⟨w.heap.size, 1, none⟩ = some (.int .u8 0) := HR.cell 1
       have d2 : w1.cell? ⟨w.heap.size, 2, none⟩ = some (.int .u8 0) := HR.cell 2
       have f0 := HR.frozen 0
       have f1 := HR.frozen 1
       have f2 := HR.frozen 2
       have hls := HR.lt
       have HRh := Lib.hid HR
       have HBh := Lib.hid HB
       clear HR HB hb1
       go_wp2
       exact bodyPost_ret (txResults_one Try.results102 _ (ad := ⟨w.heap.size, 0, none⟩) rfl rfl (tl_load (row3 HRh.out (.int .i64 2) (.int .u8 128) (.int .u8 191)))) rfl ⟨by rw [← HO.out]; rfl, below3 (o := 0) HBh.out (Nat.le_refl _) _ _ _⟩
      ·rw [if_neg c5] at HO
       by_cases c6 : b = 240
       ·rw [if_pos c6] at HO
        clear H1 H2 H3
        subst c6
        go_enter Try.func102, Try.ntmps102
        go_wp2
        exact bodyPost_ret (txResults_one Try.results102 _ (ad := ⟨w.heap.size, 0, none⟩) rfl rfl (tl_load (Row.new w 116 (tC3 3 144 191)))) rfl ⟨by rw [← HO.out]; rfl, by go_grown⟩
       ·rw [if_neg c6] at HO
        by_cases c7 : b < 244
        ·rw [if_pos c7] at HO
         clear H1 H2
         have e3 : (b == 224) = false := by simp; omega
         have e4 : (b == 237) = false := by simp; omega
         have e6 : (b == 240) = false := by simp; omega
         go_enter Try.func102, Try.ntmps102
         go_wp2_with fail
         refine (H3.out _).mono ?_
         rintro e w1 ⟨rfl, hb1⟩
         have HR := (Row.new w 116 (tC3 0 0 0)).below hb1 (by simp)
         have HB := ((Below.refl w.heap.size w).alloc (Nat.le_refl _) (.cells #[.int .i64 0, .int .u8 0, .int .u8 0] 116)).trans (hb1.mono (by simp))
         have d0 : w1.cell? ⟨w.heap.size, 0, none⟩ = some (.int .i64 0) := HR.cell 0
         have d1 : w1.cell? ⟨w.heap.size, 1, none⟩ = some (.int .u8 0) := HR.cell 1
         have d2 : w1.cell? ⟨w.heap.size, 2, none⟩ = some (.int .u8 0) := HR.cell 2
         have f0 := HR.frozen 0
         have f1 := HR.frozen 1
         have f2 := HR.frozen 2
         have hls := HR.lt
         have HRh := Lib.hid HR
         have HBh := Lib.hid HB
         clear HR HB hb1
         go_wp2
         exact bodyPost_ret (txResults_one Try.results102 _ (ad := ⟨w.heap.size, 0, none⟩) rfl rfl (tl_load (row3 HRh.out (.int .i64 3) (.int .u8 128) (.int .u8 191)))) rfl ⟨by rw [← HO.out]; rfl, below3 (o := 0) HBh.out (Nat.le_refl _) _ _ _⟩
        ·rw [if_neg c7] at HO
         by_cases c8 : b = 244
         ·rw [if_pos c8] at HO
          clear H1 H2 H3
          subst c8
          go_enter Try.func102, Try.ntmps102
          go_wp2
          exact bodyPost_ret (txResults_one Try.results102 _ (ad := ⟨w.heap.size, 0, none⟩) rfl rfl (tl_load (Row.new w 116 (tC3 3 128 143)))) rfl ⟨by rw [← HO.out]; rfl, by go_grown⟩
         ·rw [if_neg c8] at HO
          have e3 : (b == 224) = false := by simp; omega
          have e4 : (b == 237) = false := by simp; omega
          have e6 : (b == 240) = false := by simp; omega
          have e8 : (b == 244) = false := by simp; omega
          clear H1 H2 H3
          go_enter Try.func102, Try.ntmps102
          go_wp2
          exact bodyPost_ret (txResults_one Try.results102 _ (ad := ⟨w.heap.size, 0, none⟩) rfl rfl (tl_load (Row.new w 116 (tC3 0 0 0)))) rfl ⟨by rw [← HO.out]; rfl, by go_grown⟩
set_option maxHeartbeats 4000000 in
theorem txBehind_any (n lo hi : Int) (ht : TL.Ok ⟨n, lo, hi⟩) (b : Int) (hb : 0 ≤ b ∧ b ≤ 255) (w : World) :
  Calls Try.prog 99 #[.agg #[.int .i64 n, .int .u8 lo, .int .u8 hi], .int .u8 b] w fun e w' => e = .returned (.tuple #[.agg #[.int .i64 (tBehind ⟨n, lo, hi⟩ b).1.n, .int .u8 (tBehind ⟨n, lo, hi⟩ b).1.lo, .int .u8 (tBehind ⟨n, lo, hi⟩ b).1.hi], .bool (tBehind ⟨n, lo, hi⟩ b).2]) ∧ Below w.heap.size w w' := by
 obtain ⟨n0, n1, l0, l1, h0, h1⟩ := ht
 simp only at n0 n1 l0 l1 h0 h1
 have HBe := Lib.hid (txBegin_any b hb)
 obtain ⟨b0, b1⟩ := hb
 obtain ⟨R, hR⟩ : ∃ R, tBehind ⟨n, lo, hi⟩ b = R := ⟨_, rfl⟩
 rw [hR]
 have HO := Lib.hid hR
 unfold tBehind at HO
 simp only at HO
 clear hR
 by_cases hn : n = 0
 ·rw [if_pos hn] at HO
  subst hn
  obtain ⟨S, hS⟩ : ∃ S, tBegin b = S := ⟨_, rfl⟩
  rw [hS] at HBe HO
  clear hS
  go_enter Try.func99, Try.ntmps99
  go_wp2_with fail
  refine (HBe.out _).mono ?_
  rintro e w1 ⟨rfl, hb1⟩
  have HR := (txRow_new2 w (.cells #[.int .i64 0, .int .u8 lo, .int .u8 hi] 116) 116 (tC3 0 0 0)).below hb1 (by simp)
  have HB := (((Below.refl w.heap.size w).alloc (Nat.le_refl _) (.cells #[.int .i64 0, .int .u8 lo, .int .u8 hi] 116)).alloc (by simp) (.cells #[.int .i64 0, .int .u8 0, .int .u8 0] 116)).trans (hb1.mono (by simp; omega))
  have d0 : w1.cell? ⟨w.heap.size + 1, 0, none⟩ = some (.int .i64 0) := HR.cell 0
  have d1 : w1.cell? ⟨w.heap.size + 1, 1, none⟩ = some (.int .u8 0) := HR.cell 1
  have d2 : w1.cell? ⟨w.heap.size + 1, 2, none⟩ = some (.int .u8 0) := HR.cell 2
  have f0 := HR.frozen 0
  have f1 := HR.frozen 1
  have f2 := HR.frozen 2
  have hls := HR.lt
  have HRh := Lib.hid HR
  have HBh := Lib.hid HB
  clear HR HB hb1
  go_wp2
  exact bodyPost_ret (txResults_one Try.results99 _ (ad := ⟨w.heap.size + 1, 0, none⟩) rfl rfl (tl_load (row3 HRh.out (.int .i64 S.1.n) (.int .u8 S.1.lo) (.int .u8 S.1.hi)))) rfl ⟨by rw [← HO.out]; rfl, below3 (o := 0) HBh.out (by omega) _ _ _⟩
 ·rw [if_neg hn] at HO
  have hnb : (n == 0) = false := by simpa using hn
  clear HBe
  by_cases hl : b < lo
  ·rw [if_pos (.inl hl)] at HO
   clear hn
   go_enter Try.func99, Try.ntmps99
   go_wp2
   exact bodyPost_ret (txResults_one Try.results99 _ (ad := ⟨w.heap.size + 1, 0, none⟩) rfl rfl (tl_load (txRow_new2 w _ 116 (tC3 0 0 0)))) rfl ⟨by rw [← HO.out]; rfl, by go_grown⟩
  ·by_cases hh : hi < b
   ·rw [if_pos (.inr hh)] at HO
    clear hn
    go_enter Try.func99, Try.ntmps99
    go_wp2
    exact bodyPost_ret (txResults_one Try.results99 _ (ad := ⟨w.heap.size + 1, 0, none⟩) rfl rfl (tl_load (txRow_new2 w _ 116 (tC3 0 0 0)))) rfl ⟨by rw [← HO.out]; rfl, by go_grown⟩
   ·rw [if_neg (by omega)] at HO
    have HT := Lib.hid (tailOf_any (n - 1) (by omega))
    obtain ⟨S, hS⟩ : ∃ S, tlN (n - 1) = S := ⟨_, rfl⟩
    rw [hS] at HT HO
    clear hS hn
    go_enter Try.func99, Try.ntmps99
    go_wp2_with fail
    refine (HT.out _).mono ?_
    rintro e w1 ⟨rfl, hb1⟩
    have HR := (txRow_new2 w (.cells #[.int .i64 n, .int .u8 lo, .int .u8 hi] 116) 116 (tC3 0 0 0)).below hb1 (by simp)
    have HB := (((Below.refl w.heap.size w).alloc (Nat.le_refl _) (.cells #[.int .i64 n, .int .u8 lo, .int .u8 hi] 116)).alloc (by simp) (.cells #[.int .i64 0, .int .u8 0, .int .u8 0] 116)).trans (hb1.mono (by simp; omega))
    have d0 : w1.cell? ⟨w.heap.size + 1, 0, none⟩ = some (.int .i64 0) := HR.cell 0
    have d1 : w1.cell? ⟨w.heap.size + 1, 1, none⟩ = some (.int .u8 0) := HR.cell 1
    have d2 : w1.cell? ⟨w.heap.size + 1, 2, none⟩ = some (.int .u8 0) := HR.cell 2
    have f0 := HR.frozen 0
    have f1 := HR.frozen 1
    have f2 := HR.frozen 2
    have hls := HR.lt
    have HRh := Lib.hid HR
    have HBh := Lib.hid HB
    clear HR HB hb1
    go_wp2
    exact bodyPost_ret (txResults_one Try.results99 _ (ad := ⟨w.heap.size + 1, 0, none⟩) rfl rfl (tl_load (row3 HRh.out (.int .i64 S.n) (.int .u8 S.lo) (.int .u8 S.hi)))) rfl ⟨by rw [← HO.out]; rfl, below3 (o := 0) HBh.out (by omega) _ _ _⟩
theorem oth_index : ∀ x : Fin 256, decide (0 ≤ Lib.indexByte [32, 39, 40, 41, 43, 44, 45, 46, 47, 58, 61, 63] ((x.val : Int).toNat.toUInt8)) = decide ((x.val : Int) = 32 ∨ (39 ≤ (x.val : Int) ∧ (x.val : Int) ≤ 41) ∨ (43 ≤ (x.val : Int) ∧ (x.val : Int) ≤ 47) ∨ (x.val : Int) = 58 ∨ (x.val : Int) = 61 ∨ (x.val : Int) = 63) := by decide +kernel
set_option maxHeartbeats 4000000 in
theorem isPrintable_any (x : Int) (hx : 0 ≤ x ∧ x ≤ 255) (w : World) :
  Calls Try.prog 101 #[.int .u8 x] w fun e w' => e = .returned (.bool (decide (plT 19 x))) ∧ w' = w := by
 obtain ⟨x0, x1⟩ := hx
 have HF : Hid (decide (plT 19 x) = decide ((65 ≤ x ∧ x ≤ 90) ∨ (97 ≤ x ∧ x ≤ 122) ∨ (48 ≤ x ∧ x ≤ 57) ∨ x = 32 ∨ (39 ≤ x ∧ x ≤ 41) ∨ (43 ≤ x ∧ x ≤ 47) ∨ x = 58 ∨ x = 61 ∨ x = 63)) := Lib.hid (decide_eq_decide.2 ⟨fun h => h.2 rfl, fun h => ⟨fun e => absurd e (by decide), fun _ => h⟩⟩)
 generalize decide (plT 19 x) = R at *
 by_cases c1 : 65 ≤ x ∧ x ≤ 90
 ·obtain ⟨p, q⟩ := c1
  have HR : Hid (true = R) := Lib.hid (by rw [HF.out, decide_eq_true (.inl ⟨p, q⟩)])
  clear HF
  go_enter Try.func101, Try.ntmps101
  go_wp2
  go_returns
  exact ⟨rets1 (congrArg Value.bool HR.out), rfl⟩
 ·by_cases c2 : 97 ≤ x ∧ x ≤ 122
  ·obtain ⟨p, q⟩ := c2
   have HR : Hid (true = R) := Lib.hid (by rw [HF.out, decide_eq_true (.inr (.inl ⟨p, q⟩))])
   have n1 : ¬ x ≤ 90 := by omega
   clear HF c1
   go_enter Try.func101, Try.ntmps101
   go_wp2
   go_returns
   exact ⟨rets1 (congrArg Value.bool HR.out), rfl⟩
  ·by_cases c3 : 48 ≤ x ∧ x ≤ 57
   ·obtain ⟨p, q⟩ := c3
    have HR : Hid (true = R) := Lib.hid (by rw [HF.out, decide_eq_true (.inr (.inr (.inl ⟨p, q⟩)))])
    have n1 : ¬ 65 ≤ x := by omega
    have n2 : ¬ 97 ≤ x := by omega
    clear HF c1 c2
    go_enter Try.func101, Try.ntmps101
    go_wp2
    go_returns
    exact ⟨rets1 (congrArg Value.bool HR.out), rfl⟩
   ·have HIB := Lib.hid (Try.strings_IndexByte (⟨#[32, 39, 40, 41, 43, 44, 45, 46, 47, 58, 61, 63]⟩ : ByteArray) x)
    obtain ⟨I, hI⟩ : ∃ I, Lib.indexByte (⟨#[32, 39, 40, 41, 43, 44, 45, 46, 47, 58, 61, 63]⟩ : ByteArray).data.toList x.toNat.toUInt8 = I := ⟨_, rfl⟩
    have ho := oth_index ⟨x.toNat, by omega⟩
    rw [show ((⟨x.toNat, by omega⟩ : Fin 256).val : Int) = x from Int.toNat_of_nonneg x0] at ho
    have hI' : Lib.indexByte [32, 39, 40, 41, 43, 44, 45, 46, 47, 58, 61, 63] x.toNat.toUInt8 = I := hI
    rw [hI'] at ho
    rw [hI] at HIB
    have HR : Hid (decide (0 ≤ I) = R) := Lib.hid (by
     rw [HF.out, ho]
     exact decide_eq_decide.2 ⟨fun h => .inr (.inr (.inr h)), fun h => by rcases h with h | h | h | h; exact absurd h c1; exact absurd h c2; exact absurd h c3; exact h⟩)
    clear HF ho hI hI'
    rcases (by omega : x < 48 ∨ (57 < x ∧ x < 65) ∨ (90 < x ∧ x < 97) ∨ 122 < x) with hx | hx | hx | hx
    ·have n1 : ¬ 65 ≤ x := by omega
     have n2 : ¬ 97 ≤ x := by omega
     have n3 : ¬ 48 ≤ x := by omega
     clear hx c1 c2 c3
     go_enter Try.func101, Try.ntmps101
     go_wp2_with fail
     refine (HIB.out _).mono ?_
     rintro e w1 ⟨rfl, rfl⟩
     go_wp2
     go_returns
     exact ⟨rets1 (congrArg Value.bool HR.out), rfl⟩
    ·have n1 : ¬ 65 ≤ x := by omega
     have n2 : ¬ 97 ≤ x := by omega
     have n3 : 48 ≤ x := by omega
     have n4 : ¬ x ≤ 57 := by omega
     clear hx c1 c2 c3
     go_enter Try.func101, Try.ntmps101
     go_wp2_with fail
     refine (HIB.out _).mono ?_
     rintro e w1 ⟨rfl, rfl⟩
     go_wp2
     go_returns
     exact ⟨rets1 (congrArg Value.bool HR.out), rfl⟩
    ·have n1 : 65 ≤ x := by omega
     have n5 : ¬ x ≤ 90 := by omega
     have n2 : ¬ 97 ≤ x := by omega
     have n3 : 48 ≤ x := by omega
     have n4 : ¬ x ≤ 57 := by omega
     clear hx c1 c2 c3
     go_enter Try.func101, Try.ntmps101
     go_wp2_with fail
     refine (HIB.out _).mono ?_
     rintro e w1 ⟨rfl, rfl⟩
     go_wp2
     go_returns
     exact ⟨rets1 (congrArg Value.bool HR.out), rfl⟩
    ·have n1 : 65 ≤ x := by omega
     have n5 : ¬ x ≤ 90 := by omega
     have n2 : 97 ≤ x := by omega
     have n6 : ¬ x ≤ 122 := by omega
     have n3 : 48 ≤ x := by omega
     have n4 : ¬ x ≤ 57 := by omega
     clear hx c1 c2 c3
     go_enter Try.func101, Try.ntmps101
     go_wp2_with fail
     refine (HIB.out _).mono ?_
     rintro e w1 ⟨rfl, rfl⟩
     go_wp2
     go_returns
     exact ⟨rets1 (congrArg Value.bool HR.out), rfl⟩
end Go.Proofs.Ytiiimhamfibdbaa
/- What text's Start and Push give: the landed code's contracts. Of every tag and length, every state that a content can leave, and every byte. -/
namespace Go.Proofs.Ytiiimhamfibdbaa
open Go.RowKit Go.PlainAid
set_option linter.unusedVariables false
def tC5 (tag left n lo hi : Int) : List Value := [.int .i64 tag, .int .i64 left, .int .i64 n, .int .u8 lo, .int .u8 hi]
theorem infoTst : (Try.prog.info? 118).map (·.size) = some 5 := by kernel_rfl
theorem st_load {W : World} {g : Nat} {tag left n lo hi : Int} (h : Row W g 118 (tC5 tag left n lo hi)) : (loadVar 118 ⟨g, 0, none⟩).run Try.prog W = .ok (.agg #[.int .i64 tag, .int .i64 left, .int .i64 n, .int .u8 lo, .int .u8 hi]) W :=
 run_loadVar_mid _ _ 0 _ (tC5 tag left n lo hi) _ h.whole Try.underlying118 rfl infoTst
theorem row5t {w : World} {g : Nat} {t : TypeId} {a b c d e : Value} (h : Row w g t [a, b, c, d, e]) (a' b' c' d' e' : Value) :
  Row (((((w.setCell ⟨g, 0, none⟩ a').setCell ⟨g, 1, none⟩ b').setCell ⟨g, 2, none⟩ c').setCell ⟨g, 3, none⟩ d').setCell ⟨g, 4, none⟩ e') g t [a', b', c', d', e'] :=
 ((((h.set 0 a').set 1 b').set 2 c').set 3 d').set 4 e'
theorem below5t {a w : World} {B k : Nat} (h : Below B a w) (hg : B ≤ k) (a' b' c' d' e' : Value) :
  Below B a (((((w.setCell ⟨k, 0, none⟩ a').setCell ⟨k, 1, none⟩ b').setCell ⟨k, 2, none⟩ c').setCell ⟨k, 3, none⟩ d').setCell ⟨k, 4, none⟩ e') :=
 ((((h.setCell (p := ⟨k, 0, none⟩) hg a').setCell (p := ⟨k, 1, none⟩) hg b').setCell (p := ⟨k, 2, none⟩) hg c').setCell (p := ⟨k, 3, none⟩) hg d').setCell (p := ⟨k, 4, none⟩) hg e'
theorem textStart_yes (tag n : Int) (hn : 0 ≤ n) (w : World) :
  Calls Try.prog 55 #[.int .i64 tag, .int .i64 n] w fun e w' => e = .returned (.tuple #[.agg #[.int .i64 tag, .int .i64 n, .int .i64 0, .int .u8 0, .int .u8 0], .bool true]) ∧ Below w.heap.size w w' := by
 go_enter Try.func55, Try.ntmps55
 go_wp2
 exact bodyPost_ret (txResults_one Try.results55 _ (ad := ⟨w.heap.size, 0, none⟩) rfl rfl (st_load (Row.new w 118 (tC5 tag n 0 0 0)))) rfl ⟨rfl, by go_grown⟩
set_option maxHeartbeats 4000000 in
theorem textPush_other (tag left n lo hi b : Int) (ht : tag ≠ 12) (hl : 1 ≤ left ∧ left ≤ 9223372036854775807) (hb : 0 ≤ b ∧ b ≤ 255) (hx : plT tag b) (w : World) :
  Calls Try.prog 100 #[.agg #[.int .i64 tag, .int .i64 left, .int .i64 n, .int .u8 lo, .int .u8 hi], .int .u8 b] w fun e w' => e = .returned (.tuple #[.agg #[.int .i64 tag, .int .i64 (left - 1), .int .i64 n, .int .u8 lo, .int .u8 hi], .bool true]) ∧ Below w.heap.size w w' := by
 obtain ⟨l0, l1⟩ := hl
 by_cases h19 : tag = 19
 ·subst h19
  have HP := Lib.hid (isPrintable_any b hb)
  rw [decide_eq_true hx] at HP
  obtain ⟨b0, b1⟩ := hb
  clear hx ht
  go_enter Try.func100, Try.ntmps100
  go_wp2_with fail
  refine (HP.out _).mono ?_
  rintro e w1 ⟨rfl, rfl⟩
  go_wp2
  exact bodyPost_ret (txResults_one Try.results100 _ (ad := ⟨w.heap.size + 1, 0, none⟩) rfl rfl (st_load (txRow_new2 w _ 118 (tC5 19 (left - 1) n lo hi)))) rfl ⟨rfl, by go_grown⟩
 ·have e19 : (tag == 19) = false := by simpa using h19
  by_cases h22 : tag = 22
  ·subst h22
   have hlt : b ≤ 127 := by have := hx.1 rfl; omega
   obtain ⟨b0, b1⟩ := hb
   clear hx ht h19 e19
   go_enter Try.func100, Try.ntmps100
   go_wp2
   exact bodyPost_ret (txResults_one Try.results100 _ (ad := ⟨w.heap.size + 1, 0, none⟩) rfl rfl (st_load (txRow_new2 w _ 118 (tC5 22 (left - 1) n lo hi)))) rfl ⟨rfl, by go_grown⟩
  ·have e22 : (tag == 22) = false := by simpa using h22
   have e12 : (tag == 12) = false := by simpa using ht
   obtain ⟨b0, b1⟩ := hb
   clear hx ht h19 h22
   go_enter Try.func100, Try.ntmps100
   go_wp2
   exact bodyPost_ret (txResults_one Try.results100 _ (ad := ⟨w.heap.size + 1, 0, none⟩) rfl rfl (st_load (txRow_new2 w _ 118 (tC5 tag (left - 1) n lo hi)))) rfl ⟨rfl, by go_grown⟩
set_option maxHeartbeats 4000000 in
theorem textPush_wrong (tag left n lo hi b : Int) (ht : tag ≠ 12) (hl : 1 ≤ left ∧ left ≤ 9223372036854775807) (hb : 0 ≤ b ∧ b ≤ 255) (hx : ¬ plT tag b) (w : World) :
  Calls Try.prog 100 #[.agg #[.int .i64 tag, .int .i64 left, .int .i64 n, .int .u8 lo, .int .u8 hi], .int .u8 b] w fun e w' => e = .returned (.tuple #[.agg #[.int .i64 0, .int .i64 0, .int .i64 0, .int .u8 0, .int .u8 0], .bool false]) ∧ Below w.heap.size w w' := by
 obtain ⟨l0, l1⟩ := hl
 by_cases h19 : tag = 19
 ·subst h19
  have HP := Lib.hid (isPrintable_any b hb)
  rw [decide_eq_false hx] at HP
  obtain ⟨b0, b1⟩ := hb
  clear hx ht
  go_enter Try.func100, Try.ntmps100
  go_wp2_with fail
  refine (HP.out _).mono ?_
  rintro e w1 ⟨rfl, rfl⟩
  go_wp2
  exact bodyPost_ret (txResults_one Try.results100 _ (ad := ⟨w.heap.size + 1, 0, none⟩) rfl rfl (st_load (txRow_new2 w _ 118 (tC5 0 0 0 0 0)))) rfl ⟨rfl, by go_grown⟩
 ·by_cases h22 : tag = 22
  ·subst h22
   have hlt : ¬ b ≤ 127 := fun h => hx ⟨fun _ => by omega, fun e => absurd e (by decide)⟩
   obtain ⟨b0, b1⟩ := hb
   clear hx ht h19
   go_enter Try.func100, Try.ntmps100
   go_wp2
   exact bodyPost_ret (txResults_one Try.results100 _ (ad := ⟨w.heap.size + 1, 0, none⟩) rfl rfl (st_load (txRow_new2 w _ 118 (tC5 0 0 0 0 0)))) rfl ⟨rfl, by go_grown⟩
  ·exact absurd ⟨fun e => absurd e h22, fun e => absurd e h19⟩ hx
set_option maxHeartbeats 8000000 in
theorem textPush_utf8 (left n lo hi b : Int) (ht : TL.Ok ⟨n, lo, hi⟩) (hl : 1 ≤ left ∧ left ≤ 9223372036854775807) (hb : 0 ≤ b ∧ b ≤ 255) {m k j : Int} (hx : tBehind ⟨n, lo, hi⟩ b = (⟨m, k, j⟩, true)) (hm : m ≤ left - 1) (w : World) :
  Calls Try.prog 100 #[.agg #[.int .i64 12, .int .i64 left, .int .i64 n, .int .u8 lo, .int .u8 hi], .int .u8 b] w fun e w' => e = .returned (.tuple #[.agg #[.int .i64 12, .int .i64 (left - 1), .int .i64 m, .int .u8 k, .int .u8 j], .bool true]) ∧ Below w.heap.size w w' := by
 have HBe := Lib.hid (txBehind_any n lo hi ht b hb)
 rw [hx] at HBe
 simp only at HBe
 obtain ⟨b0, b1⟩ := hb
 obtain ⟨l0, l1⟩ := hl
 clear hx ht
 go_enter Try.func100, Try.ntmps100
 go_wp2_with fail
 refine (HBe.out _).mono ?_
 rintro e w1 ⟨rfl, hb1⟩
 have HR := Lib.hid (((Row.new w 118 (tC5 12 (left - 1) n lo hi)).alloc (.cells #[.int .i64 0, .int .i64 0, .int .i64 0, .int .u8 0, .int .u8 0] 118)).below hb1 (by simp; omega))
 have HV := Lib.hid ((txRow_new2 w (.cells #[.int .i64 12, .int .i64 (left - 1), .int .i64 n, .int .u8 lo, .int .u8 hi] 118) 118 (tC5 0 0 0 0 0)).below hb1 (by simp))
 have HB := Lib.hid ((((Below.refl w.heap.size w).alloc (Nat.le_refl _) (.cells #[.int .i64 12, .int .i64 (left - 1), .int .i64 n, .int .u8 lo, .int .u8 hi] 118)).alloc (by simp) (.cells #[.int .i64 0, .int .i64 0, .int .i64 0, .int .u8 0, .int .u8 0] 118)).trans (hb1.mono (by simp; omega)))
 clear hb1
 have c0 : w1.cell? ⟨w.heap.size, 0, none⟩ = some (.int .i64 12) := HR.out.cell 0
 have c1 : w1.cell? ⟨w.heap.size, 1, none⟩ = some (.int .i64 (left - 1)) := HR.out.cell 1
 have c2 : w1.cell? ⟨w.heap.size, 2, none⟩ = some (.int .i64 n) := HR.out.cell 2
 have c3 : w1.cell? ⟨w.heap.size, 3, none⟩ = some (.int .u8 lo) := HR.out.cell 3
 have c4 : w1.cell? ⟨w.heap.size, 4, none⟩ = some (.int .u8 hi) := HR.out.cell 4
 have f0 := HR.out.frozen 0
 have f1 := HR.out.frozen 1
 have f2 := HR.out.frozen 2
 have f3 := HR.out.frozen 3
 have f4 := HR.out.frozen 4
 have d0 : w1.cell? ⟨w.heap.size + 1, 0, none⟩ = some (.int .i64 0) := HV.out.cell 0
 have d1 : w1.cell? ⟨w.heap.size + 1, 1, none⟩ = some (.int .i64 0) := HV.out.cell 1
 have d2 : w1.cell? ⟨w.heap.size + 1, 2, none⟩ = some (.int .i64 0) := HV.out.cell 2
 have d3 : w1.cell? ⟨w.heap.size + 1, 3, none⟩ = some (.int .u8 0) := HV.out.cell 3
 have d4 : w1.cell? ⟨w.heap.size + 1, 4, none⟩ = some (.int .u8 0) := HV.out.cell 4
 have e0 := HV.out.frozen 0
 have e1 := HV.out.frozen 1
 have e2 := HV.out.frozen 2
 have e3 := HV.out.frozen 3
 have e4 := HV.out.frozen 4
 have hls := HV.out.lt
 go_wp2
 exact bodyPost_ret (txResults_one Try.results100 _ (ad := ⟨w.heap.size + 1, 0, none⟩) rfl rfl (st_load (row5t (((HV.out.far (p := ⟨w.heap.size, 2, none⟩) (by simp) _).far (p := ⟨w.heap.size, 3, none⟩) (by simp) _).far (p := ⟨w.heap.size, 4, none⟩) (by simp) _) (.int .i64 12) (.int .i64 (left - 1)) (.int .i64 m) (.int .u8 k) (.int .u8 j)))) rfl ⟨rfl, below5t (below3 (o := 2) HB.out (Nat.le_refl _) _ _ _) (by omega) _ _ _ _ _⟩
set_option maxHeartbeats 8000000 in
theorem textPush_utf8no (left n lo hi b : Int) (ht : TL.Ok ⟨n, lo, hi⟩) (hl : 1 ≤ left ∧ left ≤ 9223372036854775807) (hb : 0 ≤ b ∧ b ≤ 255) {m k j : Int} {ok : Bool} (hx : tBehind ⟨n, lo, hi⟩ b = (⟨m, k, j⟩, ok)) (hm : ok = true → ¬ m ≤ left - 1) (w : World) :
  Calls Try.prog 100 #[.agg #[.int .i64 12, .int .i64 left, .int .i64 n, .int .u8 lo, .int .u8 hi], .int .u8 b] w fun e w' => e = .returned (.tuple #[.agg #[.int .i64 0, .int .i64 0, .int .i64 0, .int .u8 0, .int .u8 0], .bool false]) ∧ Below w.heap.size w w' := by
 have HBe := Lib.hid (txBehind_any n lo hi ht b hb)
 rw [hx] at HBe
 simp only at HBe
 obtain ⟨b0, b1⟩ := hb
 obtain ⟨l0, l1⟩ := hl
 clear hx ht
 cases ok
 ·clear hm
  go_enter Try.func100, Try.ntmps100
  go_wp2_with fail
  refine (HBe.out _).mono ?_
  rintro e w1 ⟨rfl, hb1⟩
  have HR := Lib.hid (((Row.new w 118 (tC5 12 (left - 1) n lo hi)).alloc (.cells #[.int .i64 0, .int .i64 0, .int .i64 0, .int .u8 0, .int .u8 0] 118)).below hb1 (by simp; omega))
  have HV := Lib.hid ((txRow_new2 w (.cells #[.int .i64 12, .int .i64 (left - 1), .int .i64 n, .int .u8 lo, .int .u8 hi] 118) 118 (tC5 0 0 0 0 0)).below hb1 (by simp))
  have HB := Lib.hid ((((Below.refl w.heap.size w).alloc (Nat.le_refl _) (.cells #[.int .i64 12, .int .i64 (left - 1), .int .i64 n, .int .u8 lo, .int .u8 hi] 118)).alloc (by simp) (.cells #[.int .i64 0, .int .i64 0, .int .i64 0, .int .u8 0, .int .u8 0] 118)).trans (hb1.mono (by simp; omega)))
  clear hb1
  have c0 : w1.cell? ⟨w.heap.size, 0, none⟩ = some (.int .i64 12) := HR.out.cell 0
  have c1 : w1.cell? ⟨w.heap.size, 1, none⟩ = some (.int .i64 (left - 1)) := HR.out.cell 1
  have c2 : w1.cell? ⟨w.heap.size, 2, none⟩ = some (.int .i64 n) := HR.out.cell 2
  have c3 : w1.cell? ⟨w.heap.size, 3, none⟩ = some (.int .u8 lo) := HR.out.cell 3
  have c4 : w1.cell? ⟨w.heap.size, 4, none⟩ = some (.int .u8 hi) := HR.out.cell 4
  have f0 := HR.out.frozen 0
  have f1 := HR.out.frozen 1
  have f2 := HR.out.frozen 2
  have f3 := HR.out.frozen 3
  have f4 := HR.out.frozen 4
  have d0 : w1.cell? ⟨w.heap.size + 1, 0, none⟩ = some (.int .i64 0) := HV.out.cell 0
  have d1 : w1.cell? ⟨w.heap.size + 1, 1, none⟩ = some (.int .i64 0) := HV.out.cell 1
  have d2 : w1.cell? ⟨w.heap.size + 1, 2, none⟩ = some (.int .i64 0) := HV.out.cell 2
  have d3 : w1.cell? ⟨w.heap.size + 1, 3, none⟩ = some (.int .u8 0) := HV.out.cell 3
  have d4 : w1.cell? ⟨w.heap.size + 1, 4, none⟩ = some (.int .u8 0) := HV.out.cell 4
  have e0 := HV.out.frozen 0
  have e1 := HV.out.frozen 1
  have e2 := HV.out.frozen 2
  have e3 := HV.out.frozen 3
  have e4 := HV.out.frozen 4
  have hls := HV.out.lt
  go_wp2
  exact bodyPost_ret (txResults_one Try.results100 _ (ad := ⟨w.heap.size + 1, 0, none⟩) rfl rfl (st_load (row5t (((HV.out.far (p := ⟨w.heap.size, 2, none⟩) (by simp) _).far (p := ⟨w.heap.size, 3, none⟩) (by simp) _).far (p := ⟨w.heap.size, 4, none⟩) (by simp) _) (.int .i64 0) (.int .i64 0) (.int .i64 0) (.int .u8 0) (.int .u8 0)))) rfl ⟨rfl, below5t (below3 (o := 2) HB.out (Nat.le_refl _) _ _ _) (by omega) _ _ _ _ _⟩
 ·have hm2 : decide (m ≤ left - 1) = false := decide_eq_false (hm rfl)
  clear hm
  go_enter Try.func100, Try.ntmps100
  go_wp2_with fail
  refine (HBe.out _).mono ?_
  rintro e w1 ⟨rfl, hb1⟩
  have HR := Lib.hid (((Row.new w 118 (tC5 12 (left - 1) n lo hi)).alloc (.cells #[.int .i64 0, .int .i64 0, .int .i64 0, .int .u8 0, .int .u8 0] 118)).below hb1 (by simp; omega))
  have HV := Lib.hid ((txRow_new2 w (.cells #[.int .i64 12, .int .i64 (left - 1), .int .i64 n, .int .u8 lo, .int .u8 hi] 118) 118 (tC5 0 0 0 0 0)).below hb1 (by simp))
  have HB := Lib.hid ((((Below.refl w.heap.size w).alloc (Nat.le_refl _) (.cells #[.int .i64 12, .int .i64 (left - 1), .int .i64 n, .int .u8 lo, .int .u8 hi] 118)).alloc (by simp) (.cells #[.int .i64 0, .int .i64 0, .int .i64 0, .int .u8 0, .int .u8 0] 118)).trans (hb1.mono (by simp; omega)))
  clear hb1
  have c0 : w1.cell? ⟨w.heap.size, 0, none⟩ = some (.int .i64 12) := HR.out.cell 0
  have c1 : w1.cell? ⟨w.heap.size, 1, none⟩ = some (.int .i64 (left - 1)) := HR.out.cell 1
  have c2 : w1.cell? ⟨w.heap.size, 2, none⟩ = some (.int .i64 n) := HR.out.cell 2
  have c3 : w1.cell? ⟨w.heap.size, 3, none⟩ = some (.int .u8 lo) := HR.out.cell 3
  have c4 : w1.cell? ⟨w.heap.size, 4, none⟩ = some (.int .u8 hi) := HR.out.cell 4
  have f0 := HR.out.frozen 0
  have f1 := HR.out.frozen 1
  have f2 := HR.out.frozen 2
  have f3 := HR.out.frozen 3
  have f4 := HR.out.frozen 4
  have d0 : w1.cell? ⟨w.heap.size + 1, 0, none⟩ = some (.int .i64 0) := HV.out.cell 0
  have d1 : w1.cell? ⟨w.heap.size + 1, 1, none⟩ = some (.int .i64 0) := HV.out.cell 1
  have d2 : w1.cell? ⟨w.heap.size + 1, 2, none⟩ = some (.int .i64 0) := HV.out.cell 2
  have d3 : w1.cell? ⟨w.heap.size + 1, 3, none⟩ = some (.int .u8 0) := HV.out.cell 3
  have d4 : w1.cell? ⟨w.heap.size + 1, 4, none⟩ = some (.int .u8 0) := HV.out.cell 4
  have e0 := HV.out.frozen 0
  have e1 := HV.out.frozen 1
  have e2 := HV.out.frozen 2
  have e3 := HV.out.frozen 3
  have e4 := HV.out.frozen 4
  have hls := HV.out.lt
  go_wp2
  exact bodyPost_ret (txResults_one Try.results100 _ (ad := ⟨w.heap.size + 1, 0, none⟩) rfl rfl (st_load (row5t (((HV.out.far (p := ⟨w.heap.size, 2, none⟩) (by simp) _).far (p := ⟨w.heap.size, 3, none⟩) (by simp) _).far (p := ⟨w.heap.size, 4, none⟩) (by simp) _) (.int .i64 0) (.int .i64 0) (.int .i64 0) (.int .u8 0) (.int .u8 0)))) rfl ⟨rfl, below5t (below3 (o := 2) HB.out (Nat.le_refl _) _ _ _) (by omega) _ _ _ _ _⟩
end Go.Proofs.Ytiiimhamfibdbaa
/- What text's Check gives, and a State along a content: the landed code's contracts. Of every tag and length, and every text of at most 900000 bytes. -/
namespace Go.Proofs.Ytiiimhamfibdbaa
open Go.RowKit Go.PlainAid
set_option linter.unusedVariables false
theorem txRow_kept {a W w5 : World} {g : Nat} {t : TypeId} {l : List Value} (hb : Below W.heap.size W w5) (hR : Row a g t l) (hd : W.heap = a.heap) : Row w5 g t l := by
 have h : Row W g t l := by unfold Row; rw [hd]; exact hR
 exact h.below hb h.lt
theorem txTake_more {α : Type} {l : List α} {i : Nat} (h : i < l.length) : l.take (i + 1) = l.take i ++ [l[i]] := by
 rw [List.take_add_one, List.getElem?_eq_getElem h]; rfl
structure TS where
 p : Int
 l : Int
 v : Int
 y : Int
 m : Int
def TS.no : TS := ⟨0, 0, 0, 0, 0⟩
def tSt (tag n : Int) (l : List Int) : TS := ⟨tag, n - l.length, (tlT tag l).n, (tlT tag l).lo, (tlT tag l).hi⟩
def tStep (tag n : Int) (l : List Int) (i : Nat) : TS × Bool := if canT tag n (l.take (i + 1)) then (tSt tag n (l.take (i + 1)), true) else (TS.no, false)
def TAt (tag n : Int) (l : List Int) (i : Nat) (S : TS) (ok : Bool) : Prop := (ok = true ∧ ¬ (0 ≤ txW tag n l ∧ txW tag n l ≤ i) ∧ S = tSt tag n (l.take i)) ∨ (ok = false ∧ (0 ≤ txW tag n l ∧ txW tag n l ≤ i) ∧ S = TS.no)
theorem tAt_start {tag n : Int} {l : List Int} (hn : 0 ≤ n) : TAt tag n l 0 ⟨tag, n, 0, 0, 0⟩ true := by
 refine .inl ⟨rfl, ?_, ?_⟩
 ·intro h
  have := (tx_zero tag n l).1 (by have h1 := h.1; have h2 := h.2; omega)
  omega
 ·rw [List.take_zero]
  unfold tSt
  rw [tlT_nil]
  simp
theorem tPush_is {tag n : Int} {l : List Int} {i : Nat} {p q v y m : Int} (h : TAt tag n l i ⟨p, q, v, y, m⟩ true) (hi : i < l.length) (hn : (l.length : Int) ≤ n) (hn9 : n ≤ 9223372036854775807) (hb : 0 ≤ l[i] ∧ l[i] ≤ 255)
  {p' q' v' y' m' : Int} {ok : Bool} (hS : tStep tag n l i = (⟨p', q', v', y', m'⟩, ok)) (w : World) :
  Calls Try.prog 100 #[.agg #[.int .i64 p, .int .i64 q, .int .i64 v, .int .u8 y, .int .u8 m], .int .u8 l[i]] w fun e w' => e = .returned (.tuple #[.agg #[.int .i64 p', .int .i64 q', .int .i64 v', .int .u8 y', .int .u8 m'], .bool ok]) ∧ Below w.heap.size w w' := by
 rcases h with ⟨_, h, hs⟩ | ⟨h, _⟩
 ·have hc := tx_can tag n l i (by omega) h
  have hlen : (l.take i).length = i := by rw [List.length_take]; omega
  have hp := x_push (x := l[i]) hc (by rw [hlen]; omega)
  rw [← txTake_more hi, hlen] at hp
  obtain ⟨hp1, hp2⟩ := hp
  have hOk := tlT_ok tag (l.take i)
  have e1 : p = tag ∧ q = n - (i : Int) ∧ v = (tlT tag (l.take i)).n ∧ y = (tlT tag (l.take i)).lo ∧ m = (tlT tag (l.take i)).hi := by
   unfold tSt at hs
   rw [hlen] at hs
   cases hs
   exact ⟨rfl, rfl, rfl, rfl, rfl⟩
  obtain ⟨rfl, rfl, rfl, rfl, rfl⟩ := e1
  clear hs
  obtain ⟨⟨v, y, m⟩, ht⟩ : ∃ t : TL, tlT p (l.take i) = t := ⟨_, rfl⟩
  rw [ht] at hp1 hp2 hOk
  rw [ht]
  unfold tStep at hS
  have hq : 1 ≤ n - (i : Int) ∧ n - (i : Int) ≤ 9223372036854775807 := by omega
  unfold xOk at hp1
  unfold xTail at hp2
  by_cases h12 : p = 12
  ·subst h12
   rw [if_pos rfl] at hp1 hp2
   obtain ⟨⟨a, b, c⟩, d, hbe⟩ : ∃ (t : TL) (d : Bool), tBehind ⟨v, y, m⟩ l[i] = (t, d) := ⟨_, _, rfl⟩
   rw [hbe] at hp1 hp2
   have hp1' : (d && decide (a ≤ n - (i : Int) - 1)) = decide (canT 12 n (l.take (i + 1))) := hp1
   by_cases hcn : canT 12 n (l.take (i + 1))
   ·rw [decide_eq_true hcn] at hp1'
    have ht2 : (⟨a, b, c⟩ : TL) = tlT 12 (l.take (i + 1)) := hp2 hcn
    rw [if_pos hcn] at hS
    have hlen2 : (l.take (i + 1)).length = i + 1 := by rw [List.length_take]; omega
    unfold tSt at hS
    rw [← ht2, hlen2] at hS
    cases hS
    have hd := Bool.and_eq_true_iff.1 hp1'
    have hbe2 : tBehind ⟨v, y, m⟩ l[i] = (⟨a, b, c⟩, true) := by rw [hbe, hd.1]
    have := textPush_utf8 (n - (i : Int)) v y m l[i] hOk hq hb hbe2 (of_decide_eq_true hd.2) w
    rw [show n - (i : Int) - 1 = n - ((i + 1 : Nat) : Int) by omega] at this
    exact this
   ·rw [decide_eq_false hcn] at hp1'
    rw [if_neg hcn] at hS
    cases hS
    exact textPush_utf8no (n - (i : Int)) v y m l[i] hOk hq hb hbe (fun e hh => by rw [e, decide_eq_true hh] at hp1'; cases hp1') w
  ·rw [if_neg h12] at hp1 hp2
   by_cases hcn : canT p n (l.take (i + 1))
   ·rw [decide_eq_true hcn] at hp1
    have ht2 := hp2 hcn
    rw [if_pos hcn] at hS
    have hlen2 : (l.take (i + 1)).length = i + 1 := by rw [List.length_take]; omega
    unfold tSt at hS
    rw [← ht2, hlen2] at hS
    cases hS
    have := textPush_other p (n - (i : Int)) v y m l[i] h12 hq hb (of_decide_eq_true hp1) w
    rw [show n - (i : Int) - 1 = n - ((i + 1 : Nat) : Int) by omega] at this
    exact this
   ·rw [decide_eq_false hcn] at hp1
    rw [if_neg hcn] at hS
    cases hS
    exact textPush_wrong p (n - (i : Int)) v y m l[i] h12 hq hb (of_decide_eq_false hp1) w
 ·cases h
end Go.Proofs.Ytiiimhamfibdbaa
