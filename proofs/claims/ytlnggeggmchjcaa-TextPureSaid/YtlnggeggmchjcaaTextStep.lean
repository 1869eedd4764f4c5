/- What text's tailOf, begin, behind, isPrintable, Start and Push give: the landed code's contracts. Of every state that a content can leave, and every byte. -/
import Derived.Test.YtlnggeggmchjcaaShelf
import Derived.Test.YtlnggeggmchjcaaTextState
import Derived.Test.YtlnggeggmchjcaaByteSl
import Derived.Test.YtlnggeggmchjcaaMem2
import Derived.Handy
namespace Go.Proofs.Ytlnggeggmchjcaa
open Go.RowKit Go.PlainAid
set_option linter.unusedVariables false
def tC3 (n lo hi : Int) : List Value := [.int .i64 n, .int .u8 lo, .int .u8 hi]
theorem tC3_one (n lo hi : Int) : ∀ u ∈ tC3 n lo hi, u.oneCell' = true := by intro u hu; simp [tC3] at hu; rcases hu with rfl | rfl | rfl <;> rfl
theorem infoTl : (Try.prog.info? 25).map (·.size) = some 3 := by kernel_rfl
theorem tl_load {W : World} {g : Nat} {n lo hi : Int} (h : Row W g 25 (tC3 n lo hi)) : (loadVar 25 ⟨g, 0, none⟩).run Try.prog W = .ok (.agg #[.int .i64 n, .int .u8 lo, .int .u8 hi]) W :=
  run_loadVar_mid _ _ 0 _ (tC3 n lo hi) _ h.whole Try.underlying25 rfl infoTl
theorem txRow_new2 (w : World) (o : Obj) (t : TypeId) (l : List Value) : Row ((w.alloc o).alloc (.cells l.toArray t)) (w.heap.size + 1) t l := by
  have := Row.new (w.alloc o) t l
  simpa using this
/-- A result that lies in memory, and one that doesn't. -/
theorem txResults_one {P : Program} {fn : Func} {p q : Tmp} {ty : TypeId} (h : fn.results = #[.cell p ty, .tmp q]) (tmps : Array Value) {ad : Addr} (hp : tmps.getD p undef = .pointer (some ad)) {v u : Value} {w : World}
    (hq : tmps.getD q undef = u) (hl : (loadVar ty ad).run P w = .ok v w) : (results fn tmps).run P w = .ok (.tuple #[v, u]) w := by
  rw [Array.getD_eq_getD_getElem?] at hp hq
  simp only [results, h]
  simp [hp, hq, asAddr, hl]
theorem tailOf_any (n : Int) (hn : 0 ≤ n ∧ n ≤ 3) (w : World) :
    Calls Try.prog 23 #[.int .i64 n] w fun e w' => e = .returned (.agg #[.int .i64 (tlN n).n, .int .u8 (tlN n).lo, .int .u8 (tlN n).hi]) ∧ Below w.heap.size w w' := by
  obtain ⟨n0, n1⟩ := hn
  by_cases h : n = 0
  · subst h
    go_enter Try.func23, Try.ntmps23
    go_wp2
    exact bodyPost_ret (results_cell Try.results23 _ (ad := ⟨w.heap.size, 0, none⟩) rfl (tl_load (Row.new w 25 (tC3 0 0 0)))) rfl ⟨rfl, by go_grown⟩
  · have hb : (n == 0) = false := by simpa using h
    have HO : Hid (tlN n = ⟨n, 128, 191⟩) := Lib.hid (if_neg h)
    clear h
    go_enter Try.func23, Try.ntmps23
    go_wp2
    exact bodyPost_ret (results_cell Try.results23 _ (ad := ⟨w.heap.size, 0, none⟩) rfl (tl_load (Row.new w 25 (tC3 n 128 191)))) rfl ⟨by rw [HO.out], by go_grown⟩
theorem tailOf_is (n : Int) (hn : 1 ≤ n ∧ n ≤ 3) (w : World) :
    Calls Try.prog 23 #[.int .i64 n] w fun e w' => e = .returned (.agg #[.int .i64 n, .int .u8 128, .int .u8 191]) ∧ Below w.heap.size w w' := by
  have := tailOf_any n ⟨by omega, hn.2⟩ w
  rw [show tlN n = ⟨n, 128, 191⟩ from if_neg (by omega)] at this
  exact this
theorem row3 {w : World} {g : Nat} {t : TypeId} {a b c : Value} (h : Row w g t [a, b, c]) (a' b' c' : Value) :
    Row (((w.setCell ⟨g, 0, none⟩ a').setCell ⟨g, 1, none⟩ b').setCell ⟨g, 2, none⟩ c') g t [a', b', c'] := ((h.set 0 a').set 1 b').set 2 c'
theorem below3 {a w : World} {B k o : Nat} (h : Below B a w) (hg : B ≤ k) (a' b' c' : Value) :
    Below B a (((w.setCell ⟨k, o, none⟩ a').setCell ⟨k, o + 1, none⟩ b').setCell ⟨k, o + 2, none⟩ c') :=
  ((h.setCell (p := ⟨k, o, none⟩) hg a').setCell (p := ⟨k, o + 1, none⟩) hg b').setCell (p := ⟨k, o + 2, none⟩) hg c'
set_option maxHeartbeats 4000000 in
theorem begin_any (b : Int) (hb : 0 ≤ b ∧ b ≤ 255) (w : World) :
    Calls Try.prog 22 #[.int .u8 b] w fun e w' => e = .returned (.tuple #[.agg #[.int .i64 (tBegin b).1.n, .int .u8 (tBegin b).1.lo, .int .u8 (tBegin b).1.hi], .bool (tBegin b).2]) ∧ Below w.heap.size w w' := by
  obtain ⟨b0, b1⟩ := hb
  obtain ⟨R, hR⟩ : ∃ R, tBegin b = R := ⟨_, rfl⟩
  rw [hR]
  have HO := Lib.hid hR
  unfold tBegin at HO
  clear hR
  have H1 := Lib.hid (tailOf_is 1 (by decide))
  have H2 := Lib.hid (tailOf_is 2 (by decide))
  have H3 := Lib.hid (tailOf_is 3 (by decide))
  by_cases c0 : b < 128
  · rw [if_pos c0] at HO
    clear H1 H2 H3
    go_enter Try.func22, Try.ntmps22
    go_wp2
    exact bodyPost_ret (txResults_one Try.results22 _ (ad := ⟨w.heap.size, 0, none⟩) rfl rfl (tl_load (Row.new w 25 (tC3 0 0 0)))) rfl ⟨by rw [← HO.out]; rfl, by go_grown⟩
  · rw [if_neg c0] at HO
    by_cases c1 : b < 194
    · rw [if_pos c1] at HO
      clear H1 H2 H3
      go_enter Try.func22, Try.ntmps22
      go_wp2
      exact bodyPost_ret (txResults_one Try.results22 _ (ad := ⟨w.heap.size, 0, none⟩) rfl rfl (tl_load (Row.new w 25 (tC3 0 0 0)))) rfl ⟨by rw [← HO.out]; rfl, by go_grown⟩
    · rw [if_neg c1] at HO
      by_cases c2 : b < 224
      · rw [if_pos c2] at HO
        clear H2 H3
        go_enter Try.func22, Try.ntmps22
        go_wp2_with fail
        refine (H1.out _).mono ?_
        rintro e w1 ⟨rfl, hb1⟩
        have HR := (Row.new w 25 (tC3 0 0 0)).below hb1 (by simp)
        have HB := ((Below.refl w.heap.size w).alloc (Nat.le_refl _) (.cells #[.int .i64 0, .int .u8 0, .int .u8 0] 25)).trans (hb1.mono (by simp))
        have d0 : w1.cell? ⟨w.heap.size, 0, none⟩ = some (.int .i64 0) := HR.cell 0
        have d1 : w1.cell? ⟨w.heap.size, 1, none⟩ = some (.int .u8 0) := HR.cell 1
        have d2 : w1.cell? ⟨w.heap.size, 2, none⟩ = some (.int .u8 0) := HR.cell 2
        have f0 := HR.frozen 0
        have f1 := HR.frozen 1
        have f2 := HR.frozen 2
        have hls := HR.lt
        have HRh := Lib.hid HR
        have HBh := Lib.hid HB
        clear HR HB hb1
        go_wp2
        exact bodyPost_ret (txResults_one Try.results22 _ (ad := ⟨w.heap.size, 0, none⟩) rfl rfl (tl_load (row3 HRh.out (.int .i64 1) (.int .u8 128) (.int .u8 191)))) rfl ⟨by rw [← HO.out]; rfl, below3 (o := 0) HBh.out (Nat.le_refl _) _ _ _⟩
      · rw [if_neg c2] at HO
        by_cases c3 : b = 224
        · rw [if_pos c3] at HO
          clear H1 H2 H3
          subst c3
          go_enter Try.func22, Try.ntmps22
          go_wp2
          exact bodyPost_ret (txResults_one Try.results22 _ (ad := ⟨w.heap.size, 0, none⟩) rfl rfl (tl_load (Row.new w 25 (tC3 2 160 191)))) rfl ⟨by rw [← HO.out]; rfl, by go_grown⟩
        · rw [if_neg c3] at HO
          by_cases c4 : b = 237
          · rw [if_pos c4] at HO
            clear H1 H2 H3
            subst c4
            go_enter Try.func22, Try.ntmps22
            go_wp2
            exact bodyPost_ret (txResults_one Try.results22 _ (ad := ⟨w.heap.size, 0, none⟩) rfl rfl (tl_load (Row.new w 25 (tC3 2 128 159)))) rfl ⟨by rw [← HO.out]; rfl, by go_grown⟩
          · rw [if_neg c4] at HO
            by_cases c5 : b < 240
            · rw [if_pos c5] at HO
              clear H1 H3
              have e3 : (b == 224) = false := by simp; omega
              have e4 : (b == 237) = false := by simp; omega
              go_enter Try.func22, Try.ntmps22
              go_wp2_with fail
              refine (H2.out _).mono ?_
              rintro e w1 ⟨rfl, hb1⟩
              have HR := (Row.new w 25 (tC3 0 0 0)).below hb1 (by simp)
              have HB := ((Below.refl w.heap.size w).alloc (Nat.le_refl _) (.cells #[.int .i64 0, .int .u8 0, .int .u8 0] 25)).trans (hb1.mono (by simp))
              have d0 : w1.cell? ⟨w.heap.size, 0, none⟩ = some (.int .i64 0) := HR.cell 0
              have d1 : w1.cell? ⟨w.heap.size, 1, none⟩ = some (.int .u8 0) := HR.cell 1
              have d2 : w1.cell? ⟨w.heap.size, 2, none⟩ = some (.int .u8 0) := HR.cell 2
              have f0 := HR.frozen 0
              have f1 := HR.frozen 1
              have f2 := HR.frozen 2
              have hls := HR.lt
              have HRh := Lib.hid HR
              have HBh := Lib.hid HB
              clear HR HB hb1
              go_wp2
              exact bodyPost_ret (txResults_one Try.results22 _ (ad := ⟨w.heap.size, 0, none⟩) rfl rfl (tl_load (row3 HRh.out (.int .i64 2) (.int .u8 128) (.int .u8 191)))) rfl ⟨by rw [← HO.out]; rfl, below3 (o := 0) HBh.out (Nat.le_refl _) _ _ _⟩
            · rw [if_neg c5] at HO
              by_cases c6 : b = 240
              · rw [if_pos c6] at HO
                clear H1 H2 H3
                subst c6
                go_enter Try.func22, Try.ntmps22
                go_wp2
                exact bodyPost_ret (txResults_one Try.results22 _ (ad := ⟨w.heap.size, 0, none⟩) rfl rfl (tl_load (Row.new w 25 (tC3 3 144 191)))) rfl ⟨by rw [← HO.out]; rfl, by go_grown⟩
              · rw [if_neg c6] at HO
                by_cases c7 : b < 244
                · rw [if_pos c7] at HO
                  clear H1 H2
                  have e3 : (b == 224) = false := by simp; omega
                  have e4 : (b == 237) = false := by simp; omega
                  have e6 : (b == 240) = false := by simp; omega
                  go_enter Try.func22, Try.ntmps22
                  go_wp2_with fail
                  refine (H3.out _).mono ?_
                  rintro e w1 ⟨rfl, hb1⟩
                  have HR := (Row.new w 25 (tC3 0 0 0)).below hb1 (by simp)
                  have HB := ((Below.refl w.heap.size w).alloc (Nat.le_refl _) (.cells #[.int .i64 0, .int .u8 0, .int .u8 0] 25)).trans (hb1.mono (by simp))
                  have d0 : w1.cell? ⟨w.heap.size, 0, none⟩ = some (.int .i64 0) := HR.cell 0
                  have d1 : w1.cell? ⟨w.heap.size, 1, none⟩ = some (.int .u8 0) := HR.cell 1
                  have d2 : w1.cell? ⟨w.heap.size, 2, none⟩ = some (.int .u8 0) := HR.cell 2
                  have f0 := HR.frozen 0
                  have f1 := HR.frozen 1
                  have f2 := HR.frozen 2
                  have hls := HR.lt
                  have HRh := Lib.hid HR
                  have HBh := Lib.hid HB
                  clear HR HB hb1
                  go_wp2
                  exact bodyPost_ret (txResults_one Try.results22 _ (ad := ⟨w.heap.size, 0, none⟩) rfl rfl (tl_load (row3 HRh.out (.int .i64 3) (.int .u8 128) (.int .u8 191)))) rfl ⟨by rw [← HO.out]; rfl, below3 (o := 0) HBh.out (Nat.le_refl _) _ _ _⟩
                · rw [if_neg c7] at HO
                  by_cases c8 : b = 244
                  · rw [if_pos c8] at HO
                    clear H1 H2 H3
                    subst c8
                    go_enter Try.func22, Try.ntmps22
                    go_wp2
                    exact bodyPost_ret (txResults_one Try.results22 _ (ad := ⟨w.heap.size, 0, none⟩) rfl rfl (tl_load (Row.new w 25 (tC3 3 128 143)))) rfl ⟨by rw [← HO.out]; rfl, by go_grown⟩
                  · rw [if_neg c8] at HO
                    have e3 : (b == 224) = false := by simp; omega
                    have e4 : (b == 237) = false := by simp; omega
                    have e6 : (b == 240) = false := by simp; omega
                    have e8 : (b == 244) = false := by simp; omega
                    clear H1 H2 H3
                    go_enter Try.func22, Try.ntmps22
                    go_wp2
                    exact bodyPost_ret (txResults_one Try.results22 _ (ad := ⟨w.heap.size, 0, none⟩) rfl rfl (tl_load (Row.new w 25 (tC3 0 0 0)))) rfl ⟨by rw [← HO.out]; rfl, by go_grown⟩
set_option maxHeartbeats 4000000 in
theorem behind_any (n lo hi : Int) (ht : TL.Ok ⟨n, lo, hi⟩) (b : Int) (hb : 0 ≤ b ∧ b ≤ 255) (w : World) :
    Calls Try.prog 16 #[.agg #[.int .i64 n, .int .u8 lo, .int .u8 hi], .int .u8 b] w fun e w' => e = .returned (.tuple #[.agg #[.int .i64 (tBehind ⟨n, lo, hi⟩ b).1.n, .int .u8 (tBehind ⟨n, lo, hi⟩ b).1.lo, .int .u8 (tBehind ⟨n, lo, hi⟩ b).1.hi], .bool (tBehind ⟨n, lo, hi⟩ b).2]) ∧ Below w.heap.size w w' := by
  obtain ⟨n0, n1, l0, l1, h0, h1⟩ := ht
  simp only at n0 n1 l0 l1 h0 h1
  have HBe := Lib.hid (begin_any b hb)
  obtain ⟨b0, b1⟩ := hb
  obtain ⟨R, hR⟩ : ∃ R, tBehind ⟨n, lo, hi⟩ b = R := ⟨_, rfl⟩
  rw [hR]
  have HO := Lib.hid hR
  unfold tBehind at HO
  simp only at HO
  clear hR
  by_cases hn : n = 0
  · rw [if_pos hn] at HO
    subst hn
    obtain ⟨S, hS⟩ : ∃ S, tBegin b = S := ⟨_, rfl⟩
    rw [hS] at HBe HO
    clear hS
    go_enter Try.func16, Try.ntmps16
    go_wp2_with fail
    refine (HBe.out _).mono ?_
    rintro e w1 ⟨rfl, hb1⟩
    have HR := (txRow_new2 w (.cells #[.int .i64 0, .int .u8 lo, .int .u8 hi] 25) 25 (tC3 0 0 0)).below hb1 (by simp)
    have HB := (((Below.refl w.heap.size w).alloc (Nat.le_refl _) (.cells #[.int .i64 0, .int .u8 lo, .int .u8 hi] 25)).alloc (by simp) (.cells #[.int .i64 0, .int .u8 0, .int .u8 0] 25)).trans (hb1.mono (by simp; omega))
    have d0 : w1.cell? ⟨w.heap.size + 1, 0, none⟩ = some (.int .i64 0) := HR.cell 0
    have d1 : w1.cell? ⟨w.heap.size + 1, 1, none⟩ = some (.int .u8 0) := HR.cell 1
    have d2 : w1.cell? ⟨w.heap.size + 1, 2, none⟩ = some (.int .u8 0) := HR.cell 2
    have f0 := HR.frozen 0
    have f1 := HR.frozen 1
    have f2 := HR.frozen 2
    have hls := HR.lt
    have HRh := Lib.hid HR
    have HBh := Lib.hid HB
    clear HR HB hb1
    go_wp2
    exact bodyPost_ret (txResults_one Try.results16 _ (ad := ⟨w.heap.size + 1, 0, none⟩) rfl rfl (tl_load (row3 HRh.out (.int .i64 S.1.n) (.int .u8 S.1.lo) (.int .u8 S.1.hi)))) rfl ⟨by rw [← HO.out]; rfl, below3 (o := 0) HBh.out (by omega) _ _ _⟩
  · rw [if_neg hn] at HO
    have hnb : (n == 0) = false := by simpa using hn
    clear HBe
    by_cases hl : b < lo
    · rw [if_pos (.inl hl)] at HO
      clear hn
      go_enter Try.func16, Try.ntmps16
      go_wp2
      exact bodyPost_ret (txResults_one Try.results16 _ (ad := ⟨w.heap.size + 1, 0, none⟩) rfl rfl (tl_load (txRow_new2 w _ 25 (tC3 0 0 0)))) rfl ⟨by rw [← HO.out]; rfl, by go_grown⟩
    · by_cases hh : hi < b
      · rw [if_pos (.inr hh)] at HO
        clear hn
        go_enter Try.func16, Try.ntmps16
        go_wp2
        exact bodyPost_ret (txResults_one Try.results16 _ (ad := ⟨w.heap.size + 1, 0, none⟩) rfl rfl (tl_load (txRow_new2 w _ 25 (tC3 0 0 0)))) rfl ⟨by rw [← HO.out]; rfl, by go_grown⟩
      · rw [if_neg (by omega)] at HO
        have HT := Lib.hid (tailOf_any (n - 1) (by omega))
        obtain ⟨S, hS⟩ : ∃ S, tlN (n - 1) = S := ⟨_, rfl⟩
        rw [hS] at HT HO
        clear hS hn
        go_enter Try.func16, Try.ntmps16
        go_wp2_with fail
        refine (HT.out _).mono ?_
        rintro e w1 ⟨rfl, hb1⟩
        have HR := (txRow_new2 w (.cells #[.int .i64 n, .int .u8 lo, .int .u8 hi] 25) 25 (tC3 0 0 0)).below hb1 (by simp)
        have HB := (((Below.refl w.heap.size w).alloc (Nat.le_refl _) (.cells #[.int .i64 n, .int .u8 lo, .int .u8 hi] 25)).alloc (by simp) (.cells #[.int .i64 0, .int .u8 0, .int .u8 0] 25)).trans (hb1.mono (by simp; omega))
        have d0 : w1.cell? ⟨w.heap.size + 1, 0, none⟩ = some (.int .i64 0) := HR.cell 0
        have d1 : w1.cell? ⟨w.heap.size + 1, 1, none⟩ = some (.int .u8 0) := HR.cell 1
        have d2 : w1.cell? ⟨w.heap.size + 1, 2, none⟩ = some (.int .u8 0) := HR.cell 2
        have f0 := HR.frozen 0
        have f1 := HR.frozen 1
        have f2 := HR.frozen 2
        have hls := HR.lt
        have HRh := Lib.hid HR
        have HBh := Lib.hid HB
        clear HR HB hb1
        go_wp2
        exact bodyPost_ret (txResults_one Try.results16 _ (ad := ⟨w.heap.size + 1, 0, none⟩) rfl rfl (tl_load (row3 HRh.out (.int .i64 S.n) (.int .u8 S.lo) (.int .u8 S.hi)))) rfl ⟨by rw [← HO.out]; rfl, below3 (o := 0) HBh.out (by omega) _ _ _⟩
theorem oth_index : ∀ x : Fin 256, decide (0 ≤ Lib.indexByte [32, 39, 40, 41, 43, 44, 45, 46, 47, 58, 61, 63] ((x.val : Int).toNat.toUInt8)) = decide ((x.val : Int) = 32 ∨ (39 ≤ (x.val : Int) ∧ (x.val : Int) ≤ 41) ∨ (43 ≤ (x.val : Int) ∧ (x.val : Int) ≤ 47) ∨ (x.val : Int) = 58 ∨ (x.val : Int) = 61 ∨ (x.val : Int) = 63) := by decide +kernel
set_option maxHeartbeats 4000000 in
theorem isPrintable_any (x : Int) (hx : 0 ≤ x ∧ x ≤ 255) (w : World) :
    Calls Try.prog 15 #[.int .u8 x] w fun e w' => e = .returned (.bool (decide (plT 19 x))) ∧ w' = w := by
  obtain ⟨x0, x1⟩ := hx
  have HF : Hid (decide (plT 19 x) = decide ((65 ≤ x ∧ x ≤ 90) ∨ (97 ≤ x ∧ x ≤ 122) ∨ (48 ≤ x ∧ x ≤ 57) ∨ x = 32 ∨ (39 ≤ x ∧ x ≤ 41) ∨ (43 ≤ x ∧ x ≤ 47) ∨ x = 58 ∨ x = 61 ∨ x = 63)) := Lib.hid (decide_eq_decide.2 ⟨fun h => h.2 rfl, fun h => ⟨fun e => absurd e (by decide), fun _ => h⟩⟩)
  generalize decide (plT 19 x) = R at *
  by_cases c1 : 65 ≤ x ∧ x ≤ 90
  · obtain ⟨p, q⟩ := c1
    have HR : Hid (true = R) := Lib.hid (by rw [HF.out, decide_eq_true (.inl ⟨p, q⟩)])
    clear HF
    go_enter Try.func15, Try.ntmps15
    go_wp2
    go_returns
    exact ⟨rets1 (congrArg Value.bool HR.out), rfl⟩
  · by_cases c2 : 97 ≤ x ∧ x ≤ 122
    · obtain ⟨p, q⟩ := c2
      have HR : Hid (true = R) := Lib.hid (by rw [HF.out, decide_eq_true (.inr (.inl ⟨p, q⟩))])
      have n1 : ¬ x ≤ 90 := by omega
      clear HF c1
      go_enter Try.func15, Try.ntmps15
      go_wp2
      go_returns
      exact ⟨rets1 (congrArg Value.bool HR.out), rfl⟩
    · by_cases c3 : 48 ≤ x ∧ x ≤ 57
      · obtain ⟨p, q⟩ := c3
        have HR : Hid (true = R) := Lib.hid (by rw [HF.out, decide_eq_true (.inr (.inr (.inl ⟨p, q⟩)))])
        have n1 : ¬ 65 ≤ x := by omega
        have n2 : ¬ 97 ≤ x := by omega
        clear HF c1 c2
        go_enter Try.func15, Try.ntmps15
        go_wp2
        go_returns
        exact ⟨rets1 (congrArg Value.bool HR.out), rfl⟩
      · have HIB := Lib.hid (Try.strings_IndexByte (⟨#[32, 39, 40, 41, 43, 44, 45, 46, 47, 58, 61, 63]⟩ : ByteArray) x)
        obtain ⟨I, hI⟩ : ∃ I, Lib.indexByte (⟨#[32, 39, 40, 41, 43, 44, 45, 46, 47, 58, 61, 63]⟩ : ByteArray).data.toList x.toNat.toUInt8 = I := ⟨_, rfl⟩
        have ho := oth_index ⟨x.toNat, by omega⟩
        rw [show ((⟨x.toNat, by omega⟩ : Fin 256).val : Int) = x from Int.toNat_of_nonneg x0] at ho
        have hI' : Lib.indexByte [32, 39, 40, 41, 43, 44, 45, 46, 47, 58, 61, 63] x.toNat.toUInt8 = I := hI
        rw [hI'] at ho
        rw [hI] at HIB
        have HR : Hid (decide (0 ≤ I) = R) := Lib.hid (by
          rw [HF.out, ho]
          exact decide_eq_decide.2 ⟨fun h => .inr (.inr (.inr h)), fun h => by rcases h with h | h | h | h; exact absurd h c1; exact absurd h c2; exact absurd h c3; exact h⟩)
        clear HF ho hI hI'
        rcases (by omega : x < 48 ∨ (57 < x ∧ x < 65) ∨ (90 < x ∧ x < 97) ∨ 122 < x) with hx | hx | hx | hx
        · have n1 : ¬ 65 ≤ x := by omega
          have n2 : ¬ 97 ≤ x := by omega
          have n3 : ¬ 48 ≤ x := by omega
          clear hx c1 c2 c3
          go_enter Try.func15, Try.ntmps15
          go_wp2_with fail
          refine (HIB.out _).mono ?_
          rintro e w1 ⟨rfl, rfl⟩
          go_wp2
          go_returns
          exact ⟨rets1 (congrArg Value.bool HR.out), rfl⟩
        · have n1 : ¬ 65 ≤ x := by omega
          have n2 : ¬ 97 ≤ x := by omega
          have n3 : 48 ≤ x := by omega
          have n4 : ¬ x ≤ 57 := by omega
          clear hx c1 c2 c3
          go_enter Try.func15, Try.ntmps15
          go_wp2_with fail
          refine (HIB.out _).mono ?_
          rintro e w1 ⟨rfl, rfl⟩
          go_wp2
          go_returns
          exact ⟨rets1 (congrArg Value.bool HR.out), rfl⟩
        · have n1 : 65 ≤ x := by omega
          have n5 : ¬ x ≤ 90 := by omega
          have n2 : ¬ 97 ≤ x := by omega
          have n3 : 48 ≤ x := by omega
          have n4 : ¬ x ≤ 57 := by omega
          clear hx c1 c2 c3
          go_enter Try.func15, Try.ntmps15
          go_wp2_with fail
          refine (HIB.out _).mono ?_
          rintro e w1 ⟨rfl, rfl⟩
          go_wp2
          go_returns
          exact ⟨rets1 (congrArg Value.bool HR.out), rfl⟩
        · have n1 : 65 ≤ x := by omega
          have n5 : ¬ x ≤ 90 := by omega
          have n2 : 97 ≤ x := by omega
          have n6 : ¬ x ≤ 122 := by omega
          have n3 : 48 ≤ x := by omega
          have n4 : ¬ x ≤ 57 := by omega
          clear hx c1 c2 c3
          go_enter Try.func15, Try.ntmps15
          go_wp2_with fail
          refine (HIB.out _).mono ?_
          rintro e w1 ⟨rfl, rfl⟩
          go_wp2
          go_returns
          exact ⟨rets1 (congrArg Value.bool HR.out), rfl⟩
end Go.Proofs.Ytlnggeggmchjcaa
