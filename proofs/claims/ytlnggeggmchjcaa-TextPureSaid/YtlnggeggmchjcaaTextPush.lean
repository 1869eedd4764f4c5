/- What text's Start and Push give: the landed code's contracts. Of every tag and length, every state that a content can leave, and every byte. -/
import Derived.Test.YtlnggeggmchjcaaTextStep
namespace Go.Proofs.Ytlnggeggmchjcaa
open Go.RowKit Go.PlainAid
set_option linter.unusedVariables false
def tC5 (tag left n lo hi : Int) : List Value := [.int .i64 tag, .int .i64 left, .int .i64 n, .int .u8 lo, .int .u8 hi]
theorem tC5_one (tag left n lo hi : Int) : ∀ u ∈ tC5 tag left n lo hi, u.oneCell' = true := by intro u hu; simp [tC5] at hu; rcases hu with rfl | rfl | rfl | rfl | rfl <;> rfl
theorem infoTst : (Try.prog.info? 27).map (·.size) = some 5 := by kernel_rfl
theorem st_load {W : World} {g : Nat} {tag left n lo hi : Int} (h : Row W g 27 (tC5 tag left n lo hi)) : (loadVar 27 ⟨g, 0, none⟩).run Try.prog W = .ok (.agg #[.int .i64 tag, .int .i64 left, .int .i64 n, .int .u8 lo, .int .u8 hi]) W :=
  run_loadVar_mid _ _ 0 _ (tC5 tag left n lo hi) _ h.whole Try.underlying27 rfl infoTst
theorem row5t {w : World} {g : Nat} {t : TypeId} {a b c d e : Value} (h : Row w g t [a, b, c, d, e]) (a' b' c' d' e' : Value) :
    Row (((((w.setCell ⟨g, 0, none⟩ a').setCell ⟨g, 1, none⟩ b').setCell ⟨g, 2, none⟩ c').setCell ⟨g, 3, none⟩ d').setCell ⟨g, 4, none⟩ e') g t [a', b', c', d', e'] :=
  ((((h.set 0 a').set 1 b').set 2 c').set 3 d').set 4 e'
theorem below5t {a w : World} {B k : Nat} (h : Below B a w) (hg : B ≤ k) (a' b' c' d' e' : Value) :
    Below B a (((((w.setCell ⟨k, 0, none⟩ a').setCell ⟨k, 1, none⟩ b').setCell ⟨k, 2, none⟩ c').setCell ⟨k, 3, none⟩ d').setCell ⟨k, 4, none⟩ e') :=
  ((((h.setCell (p := ⟨k, 0, none⟩) hg a').setCell (p := ⟨k, 1, none⟩) hg b').setCell (p := ⟨k, 2, none⟩) hg c').setCell (p := ⟨k, 3, none⟩) hg d').setCell (p := ⟨k, 4, none⟩) hg e'
theorem textStart_yes (tag n : Int) (hn : 0 ≤ n) (w : World) :
    Calls Try.prog 10 #[.int .i64 tag, .int .i64 n] w fun e w' => e = .returned (.tuple #[.agg #[.int .i64 tag, .int .i64 n, .int .i64 0, .int .u8 0, .int .u8 0], .bool true]) ∧ Below w.heap.size w w' := by
  go_enter Try.func10, Try.ntmps10
  go_wp2
  exact bodyPost_ret (txResults_one Try.results10 _ (ad := ⟨w.heap.size, 0, none⟩) rfl rfl (st_load (Row.new w 27 (tC5 tag n 0 0 0)))) rfl ⟨rfl, by go_grown⟩
theorem textStart_no (tag n : Int) (hn : n < 0) (w : World) :
    Calls Try.prog 10 #[.int .i64 tag, .int .i64 n] w fun e w' => e = .returned (.tuple #[.agg #[.int .i64 0, .int .i64 0, .int .i64 0, .int .u8 0, .int .u8 0], .bool false]) ∧ Below w.heap.size w w' := by
  go_enter Try.func10, Try.ntmps10
  go_wp2
  exact bodyPost_ret (txResults_one Try.results10 _ (ad := ⟨w.heap.size, 0, none⟩) rfl rfl (st_load (Row.new w 27 (tC5 0 0 0 0 0)))) rfl ⟨rfl, by go_grown⟩
set_option maxHeartbeats 4000000 in
theorem textPush_other (tag left n lo hi b : Int) (ht : tag ≠ 12) (hl : 1 ≤ left ∧ left ≤ 9223372036854775807) (hb : 0 ≤ b ∧ b ≤ 255) (hx : plT tag b) (w : World) :
    Calls Try.prog 11 #[.agg #[.int .i64 tag, .int .i64 left, .int .i64 n, .int .u8 lo, .int .u8 hi], .int .u8 b] w fun e w' => e = .returned (.tuple #[.agg #[.int .i64 tag, .int .i64 (left - 1), .int .i64 n, .int .u8 lo, .int .u8 hi], .bool true]) ∧ Below w.heap.size w w' := by
  obtain ⟨l0, l1⟩ := hl
  by_cases h19 : tag = 19
  · subst h19
    have HP := Lib.hid (isPrintable_any b hb)
    rw [decide_eq_true hx] at HP
    obtain ⟨b0, b1⟩ := hb
    clear hx ht
    go_enter Try.func11, Try.ntmps11
    go_wp2_with fail
    refine (HP.out _).mono ?_
    rintro e w1 ⟨rfl, rfl⟩
    go_wp2
    exact bodyPost_ret (txResults_one Try.results11 _ (ad := ⟨w.heap.size + 1, 0, none⟩) rfl rfl (st_load (txRow_new2 w _ 27 (tC5 19 (left - 1) n lo hi)))) rfl ⟨rfl, by go_grown⟩
  · have e19 : (tag == 19) = false := by simpa using h19
    by_cases h22 : tag = 22
    · subst h22
      have hlt : b ≤ 127 := by have := hx.1 rfl; omega
      obtain ⟨b0, b1⟩ := hb
      clear hx ht h19 e19
      go_enter Try.func11, Try.ntmps11
      go_wp2
      exact bodyPost_ret (txResults_one Try.results11 _ (ad := ⟨w.heap.size + 1, 0, none⟩) rfl rfl (st_load (txRow_new2 w _ 27 (tC5 22 (left - 1) n lo hi)))) rfl ⟨rfl, by go_grown⟩
    · have e22 : (tag == 22) = false := by simpa using h22
      have e12 : (tag == 12) = false := by simpa using ht
      obtain ⟨b0, b1⟩ := hb
      clear hx ht h19 h22
      go_enter Try.func11, Try.ntmps11
      go_wp2
      exact bodyPost_ret (txResults_one Try.results11 _ (ad := ⟨w.heap.size + 1, 0, none⟩) rfl rfl (st_load (txRow_new2 w _ 27 (tC5 tag (left - 1) n lo hi)))) rfl ⟨rfl, by go_grown⟩
set_option maxHeartbeats 4000000 in
theorem textPush_wrong (tag left n lo hi b : Int) (ht : tag ≠ 12) (hl : 1 ≤ left ∧ left ≤ 9223372036854775807) (hb : 0 ≤ b ∧ b ≤ 255) (hx : ¬ plT tag b) (w : World) :
    Calls Try.prog 11 #[.agg #[.int .i64 tag, .int .i64 left, .int .i64 n, .int .u8 lo, .int .u8 hi], .int .u8 b] w fun e w' => e = .returned (.tuple #[.agg #[.int .i64 0, .int .i64 0, .int .i64 0, .int .u8 0, .int .u8 0], .bool false]) ∧ Below w.heap.size w w' := by
  obtain ⟨l0, l1⟩ := hl
  by_cases h19 : tag = 19
  · subst h19
    have HP := Lib.hid (isPrintable_any b hb)
    rw [decide_eq_false hx] at HP
    obtain ⟨b0, b1⟩ := hb
    clear hx ht
    go_enter Try.func11, Try.ntmps11
    go_wp2_with fail
    refine (HP.out _).mono ?_
    rintro e w1 ⟨rfl, rfl⟩
    go_wp2
    exact bodyPost_ret (txResults_one Try.results11 _ (ad := ⟨w.heap.size + 1, 0, none⟩) rfl rfl (st_load (txRow_new2 w _ 27 (tC5 0 0 0 0 0)))) rfl ⟨rfl, by go_grown⟩
  · by_cases h22 : tag = 22
    · subst h22
      have hlt : ¬ b ≤ 127 := fun h => hx ⟨fun _ => by omega, fun e => absurd e (by decide)⟩
      obtain ⟨b0, b1⟩ := hb
      clear hx ht h19
      go_enter Try.func11, Try.ntmps11
      go_wp2
      exact bodyPost_ret (txResults_one Try.results11 _ (ad := ⟨w.heap.size + 1, 0, none⟩) rfl rfl (st_load (txRow_new2 w _ 27 (tC5 0 0 0 0 0)))) rfl ⟨rfl, by go_grown⟩
    · exact absurd ⟨fun e => absurd e h22, fun e => absurd e h19⟩ hx
set_option maxHeartbeats 8000000 in
theorem textPush_utf8 (left n lo hi b : Int) (ht : TL.Ok ⟨n, lo, hi⟩) (hl : 1 ≤ left ∧ left ≤ 9223372036854775807) (hb : 0 ≤ b ∧ b ≤ 255) {m k j : Int} (hx : tBehind ⟨n, lo, hi⟩ b = (⟨m, k, j⟩, true)) (hm : m ≤ left - 1) (w : World) :
    Calls Try.prog 11 #[.agg #[.int .i64 12, .int .i64 left, .int .i64 n, .int .u8 lo, .int .u8 hi], .int .u8 b] w fun e w' => e = .returned (.tuple #[.agg #[.int .i64 12, .int .i64 (left - 1), .int .i64 m, .int .u8 k, .int .u8 j], .bool true]) ∧ Below w.heap.size w w' := by
  have HBe := Lib.hid (behind_any n lo hi ht b hb)
  rw [hx] at HBe
  simp only at HBe
  obtain ⟨b0, b1⟩ := hb
  obtain ⟨l0, l1⟩ := hl
  clear hx ht
  go_enter Try.func11, Try.ntmps11
  go_wp2_with fail
  refine (HBe.out _).mono ?_
  rintro e w1 ⟨rfl, hb1⟩
  have HR := Lib.hid (((Row.new w 27 (tC5 12 (left - 1) n lo hi)).alloc (.cells #[.int .i64 0, .int .i64 0, .int .i64 0, .int .u8 0, .int .u8 0] 27)).below hb1 (by simp; omega))
  have HV := Lib.hid ((txRow_new2 w (.cells #[.int .i64 12, .int .i64 (left - 1), .int .i64 n, .int .u8 lo, .int .u8 hi] 27) 27 (tC5 0 0 0 0 0)).below hb1 (by simp))
  have HB := Lib.hid ((((Below.refl w.heap.size w).alloc (Nat.le_refl _) (.cells #[.int .i64 12, .int .i64 (left - 1), .int .i64 n, .int .u8 lo, .int .u8 hi] 27)).alloc (by simp) (.cells #[.int .i64 0, .int .i64 0, .int .i64 0, .int .u8 0, .int .u8 0] 27)).trans (hb1.mono (by simp; omega)))
  clear hb1
  have c0 : w1.cell? ⟨w.heap.size, 0, none⟩ = some (.int .i64 12) := HR.out.cell 0
  have c1 : w1.cell? ⟨w.heap.size, 1, none⟩ = some (.int .i64 (left - 1)) := HR.out.cell 1
  have c2 : w1.cell? ⟨w.heap.size, 2, none⟩ = some (.int .i64 n) := HR.out.cell 2
  have c3 : w1.cell? ⟨w.heap.size, 3, none⟩ = some (.int .u8 lo) := HR.out.cell 3
  have c4 : w1.cell? ⟨w.heap.size, 4, none⟩ = some (.int .u8 hi) := HR.out.cell 4
  have f0 := HR.out.frozen 0
  have f1 := HR.out.frozen 1
  have f2 := HR.out.frozen 2
  have f3 := HR.out.frozen 3
  have f4 := HR.out.frozen 4
  have d0 : w1.cell? ⟨w.heap.size + 1, 0, none⟩ = some (.int .i64 0) := HV.out.cell 0
  have d1 : w1.cell? ⟨w.heap.size + 1, 1, none⟩ = some (.int .i64 0) := HV.out.cell 1
  have d2 : w1.cell? ⟨w.heap.size + 1, 2, none⟩ = some (.int .i64 0) := HV.out.cell 2
  have d3 : w1.cell? ⟨w.heap.size + 1, 3, none⟩ = some (.int .u8 0) := HV.out.cell 3
  have d4 : w1.cell? ⟨w.heap.size + 1, 4, none⟩ = some (.int .u8 0) := HV.out.cell 4
  have e0 := HV.out.frozen 0
  have e1 := HV.out.frozen 1
  have e2 := HV.out.frozen 2
  have e3 := HV.out.frozen 3
  have e4 := HV.out.frozen 4
  have hls := HV.out.lt
  go_wp2
  exact bodyPost_ret (txResults_one Try.results11 _ (ad := ⟨w.heap.size + 1, 0, none⟩) rfl rfl (st_load (row5t (((HV.out.far (p := ⟨w.heap.size, 2, none⟩) (by simp) _).far (p := ⟨w.heap.size, 3, none⟩) (by simp) _).far (p := ⟨w.heap.size, 4, none⟩) (by simp) _) (.int .i64 12) (.int .i64 (left - 1)) (.int .i64 m) (.int .u8 k) (.int .u8 j)))) rfl ⟨rfl, below5t (below3 (o := 2) HB.out (Nat.le_refl _) _ _ _) (by omega) _ _ _ _ _⟩
set_option maxHeartbeats 8000000 in
theorem textPush_utf8no (left n lo hi b : Int) (ht : TL.Ok ⟨n, lo, hi⟩) (hl : 1 ≤ left ∧ left ≤ 9223372036854775807) (hb : 0 ≤ b ∧ b ≤ 255) {m k j : Int} {ok : Bool} (hx : tBehind ⟨n, lo, hi⟩ b = (⟨m, k, j⟩, ok)) (hm : ok = true → ¬ m ≤ left - 1) (w : World) :
    Calls Try.prog 11 #[.agg #[.int .i64 12, .int .i64 left, .int .i64 n, .int .u8 lo, .int .u8 hi], .int .u8 b] w fun e w' => e = .returned (.tuple #[.agg #[.int .i64 0, .int .i64 0, .int .i64 0, .int .u8 0, .int .u8 0], .bool false]) ∧ Below w.heap.size w w' := by
  have HBe := Lib.hid (behind_any n lo hi ht b hb)
  rw [hx] at HBe
  simp only at HBe
  obtain ⟨b0, b1⟩ := hb
  obtain ⟨l0, l1⟩ := hl
  clear hx ht
  cases ok
  · clear hm
    go_enter Try.func11, Try.ntmps11
    go_wp2_with fail
    refine (HBe.out _).mono ?_
    rintro e w1 ⟨rfl, hb1⟩
    have HR := Lib.hid (((Row.new w 27 (tC5 12 (left - 1) n lo hi)).alloc (.cells #[.int .i64 0, .int .i64 0, .int .i64 0, .int .u8 0, .int .u8 0] 27)).below hb1 (by simp; omega))
    have HV := Lib.hid ((txRow_new2 w (.cells #[.int .i64 12, .int .i64 (left - 1), .int .i64 n, .int .u8 lo, .int .u8 hi] 27) 27 (tC5 0 0 0 0 0)).below hb1 (by simp))
    have HB := Lib.hid ((((Below.refl w.heap.size w).alloc (Nat.le_refl _) (.cells #[.int .i64 12, .int .i64 (left - 1), .int .i64 n, .int .u8 lo, .int .u8 hi] 27)).alloc (by simp) (.cells #[.int .i64 0, .int .i64 0, .int .i64 0, .int .u8 0, .int .u8 0] 27)).trans (hb1.mono (by simp; omega)))
    clear hb1
    have c0 : w1.cell? ⟨w.heap.size, 0, none⟩ = some (.int .i64 12) := HR.out.cell 0
    have c1 : w1.cell? ⟨w.heap.size, 1, none⟩ = some (.int .i64 (left - 1)) := HR.out.cell 1
    have c2 : w1.cell? ⟨w.heap.size, 2, none⟩ = some (.int .i64 n) := HR.out.cell 2
    have c3 : w1.cell? ⟨w.heap.size, 3, none⟩ = some (.int .u8 lo) := HR.out.cell 3
    have c4 : w1.cell? ⟨w.heap.size, 4, none⟩ = some (.int .u8 hi) := HR.out.cell 4
    have f0 := HR.out.frozen 0
    have f1 := HR.out.frozen 1
    have f2 := HR.out.frozen 2
    have f3 := HR.out.frozen 3
    have f4 := HR.out.frozen 4
    have d0 : w1.cell? ⟨w.heap.size + 1, 0, none⟩ = some (.int .i64 0) := HV.out.cell 0
    have d1 : w1.cell? ⟨w.heap.size + 1, 1, none⟩ = some (.int .i64 0) := HV.out.cell 1
    have d2 : w1.cell? ⟨w.heap.size + 1, 2, none⟩ = some (.int .i64 0) := HV.out.cell 2
    have d3 : w1.cell? ⟨w.heap.size + 1, 3, none⟩ = some (.int .u8 0) := HV.out.cell 3
    have d4 : w1.cell? ⟨w.heap.size + 1, 4, none⟩ = some (.int .u8 0) := HV.out.cell 4
    have e0 := HV.out.frozen 0
    have e1 := HV.out.frozen 1
    have e2 := HV.out.frozen 2
    have e3 := HV.out.frozen 3
    have e4 := HV.out.frozen 4
    have hls := HV.out.lt
    go_wp2
    exact bodyPost_ret (txResults_one Try.results11 _ (ad := ⟨w.heap.size + 1, 0, none⟩) rfl rfl (st_load (row5t (((HV.out.far (p := ⟨w.heap.size, 2, none⟩) (by simp) _).far (p := ⟨w.heap.size, 3, none⟩) (by simp) _).far (p := ⟨w.heap.size, 4, none⟩) (by simp) _) (.int .i64 0) (.int .i64 0) (.int .i64 0) (.int .u8 0) (.int .u8 0)))) rfl ⟨rfl, below5t (below3 (o := 2) HB.out (Nat.le_refl _) _ _ _) (by omega) _ _ _ _ _⟩
  · have hm2 : decide (m ≤ left - 1) = false := decide_eq_false (hm rfl)
    clear hm
    go_enter Try.func11, Try.ntmps11
    go_wp2_with fail
    refine (HBe.out _).mono ?_
    rintro e w1 ⟨rfl, hb1⟩
    have HR := Lib.hid (((Row.new w 27 (tC5 12 (left - 1) n lo hi)).alloc (.cells #[.int .i64 0, .int .i64 0, .int .i64 0, .int .u8 0, .int .u8 0] 27)).below hb1 (by simp; omega))
    have HV := Lib.hid ((txRow_new2 w (.cells #[.int .i64 12, .int .i64 (left - 1), .int .i64 n, .int .u8 lo, .int .u8 hi] 27) 27 (tC5 0 0 0 0 0)).below hb1 (by simp))
    have HB := Lib.hid ((((Below.refl w.heap.size w).alloc (Nat.le_refl _) (.cells #[.int .i64 12, .int .i64 (left - 1), .int .i64 n, .int .u8 lo, .int .u8 hi] 27)).alloc (by simp) (.cells #[.int .i64 0, .int .i64 0, .int .i64 0, .int .u8 0, .int .u8 0] 27)).trans (hb1.mono (by simp; omega)))
    clear hb1
    have c0 : w1.cell? ⟨w.heap.size, 0, none⟩ = some (.int .i64 12) := HR.out.cell 0
    have c1 : w1.cell? ⟨w.heap.size, 1, none⟩ = some (.int .i64 (left - 1)) := HR.out.cell 1
    have c2 : w1.cell? ⟨w.heap.size, 2, none⟩ = some (.int .i64 n) := HR.out.cell 2
    have c3 : w1.cell? ⟨w.heap.size, 3, none⟩ = some (.int .u8 lo) := HR.out.cell 3
    have c4 : w1.cell? ⟨w.heap.size, 4, none⟩ = some (.int .u8 hi) := HR.out.cell 4
    have f0 := HR.out.frozen 0
    have f1 := HR.out.frozen 1
    have f2 := HR.out.frozen 2
    have f3 := HR.out.frozen 3
    have f4 := HR.out.frozen 4
    have d0 : w1.cell? ⟨w.heap.size + 1, 0, none⟩ = some (.int .i64 0) := HV.out.cell 0
    have d1 : w1.cell? ⟨w.heap.size + 1, 1, none⟩ = some (.int .i64 0) := HV.out.cell 1
    have d2 : w1.cell? ⟨w.heap.size + 1, 2, none⟩ = some (.int .i64 0) := HV.out.cell 2
    have d3 : w1.cell? ⟨w.heap.size + 1, 3, none⟩ = some (.int .u8 0) := HV.out.cell 3
    have d4 : w1.cell? ⟨w.heap.size + 1, 4, none⟩ = some (.int .u8 0) := HV.out.cell 4
    have e0 := HV.out.frozen 0
    have e1 := HV.out.frozen 1
    have e2 := HV.out.frozen 2
    have e3 := HV.out.frozen 3
    have e4 := HV.out.frozen 4
    have hls := HV.out.lt
    go_wp2
    exact bodyPost_ret (txResults_one Try.results11 _ (ad := ⟨w.heap.size + 1, 0, none⟩) rfl rfl (st_load (row5t (((HV.out.far (p := ⟨w.heap.size, 2, none⟩) (by simp) _).far (p := ⟨w.heap.size, 3, none⟩) (by simp) _).far (p := ⟨w.heap.size, 4, none⟩) (by simp) _) (.int .i64 0) (.int .i64 0) (.int .i64 0) (.int .u8 0) (.int .u8 0)))) rfl ⟨rfl, below5t (below3 (o := 2) HB.out (Nat.le_refl _) _ _ _) (by omega) _ _ _ _ _⟩
end Go.Proofs.Ytlnggeggmchjcaa
