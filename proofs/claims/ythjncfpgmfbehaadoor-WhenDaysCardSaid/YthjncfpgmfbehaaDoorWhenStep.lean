/- What when's bounds, canBe, fullYear, behindPart, Start and Push give: the landed code's contracts. Of every state that a content can leave, and every byte. -/
import Derived.Test.YthjncfpgmfbehaaDoorWhenDay
import Derived.Test.YthjncfpgmfbehaaDoorWhenState
import Derived.Test.YthjncfpgmfbehaaDoorMem2
import Derived.Handy
namespace Go.Proofs.YthjncfpgmfbehaaDoor
open Go.RowKit Go.PlainAid
set_option linter.unusedVariables false
set_option maxHeartbeats 1600000 in
theorem bounds_any (p l v y m : Int) (hp : 0 ≤ p ∧ p ≤ 8) (hy : -9223372036854775808 ≤ y ∧ y ≤ 9223372036854775807) (w : World) :
    Calls Tryd.prog 30 #[.agg #[.int .u8 p, .int .i64 l, .int .i64 v, .int .i64 y, .int .i64 m]] w fun e w' => e = .returned (.tuple #[.int .i64 (wLo p), .int .i64 (wHi p y m)]) ∧ Below w.heap.size w w' := by
  have HD := Lib.hid (whenDays_q y m hy)
  have HF : Hid (wHi 4 y m = dysI y m) := Lib.hid rfl
  obtain ⟨p0, p1⟩ := hp
  rcases (by omega : p = 4 ∨ p = 1 ∨ p = 2 ∨ p = 3 ∨ p = 5 ∨ p = 6 ∨ p = 7 ∨ p = 8 ∨ p = 0) with rfl | rfl | rfl | rfl | rfl | rfl | rfl | rfl | rfl
  · generalize dysI y m = D at *
    go_enter Tryd.func30, Tryd.ntmps30
    go_wp2_with fail
    refine (HD.out _).mono ?_
    rintro e w1 ⟨rfl, rfl⟩
    go_wp2
    go_returns
    exact ⟨rets2 rfl (congrArg (Value.int .i64) HF.out.symm), by go_grown⟩
  all_goals
    clear HD HF
    go_enter Tryd.func30, Tryd.ntmps30
    go_wp2
    go_returns
    exact ⟨rfl, by go_grown⟩
theorem ten_cases (L : Nat) (h : L ≤ 3) : (L = 0 ∧ ten (L : Int) = 1) ∨ (L = 1 ∧ ten (L : Int) = 10) ∨ (L = 2 ∧ ten (L : Int) = 100) ∨ (L = 3 ∧ ten (L : Int) = 1000) := by
  rcases (by omega : L = 0 ∨ L = 1 ∨ L = 2 ∨ L = 3) with rfl | rfl | rfl | rfl
  · exact .inl ⟨rfl, rfl⟩
  · exact .inr (.inl ⟨rfl, rfl⟩)
  · exact .inr (.inr (.inl ⟨rfl, rfl⟩))
  · exact .inr (.inr (.inr ⟨rfl, rfl⟩))
theorem wBounds (p y m : Int) : 0 ≤ wLo p ∧ wLo p ≤ 2050 ∧ 0 ≤ wHi p y m ∧ wHi p y m ≤ 9999 := by
  have := dys_range y m
  unfold wLo wHi
  refine ⟨?_, ?_, ?_, ?_⟩
  all_goals
    repeat' split
    all_goals omega
set_option maxHeartbeats 4000000 in
theorem canBe_any (p : Int) (L : Nat) (v y m : Int) (hp : 0 ≤ p ∧ p ≤ 8) (hL : L ≤ 3) (hv : 0 ≤ v ∧ v ≤ 9999) (hy : -9223372036854775808 ≤ y ∧ y ≤ 9223372036854775807) (w : World) :
    Calls Tryd.prog 21 #[.agg #[.int .u8 p, .int .i64 (L : Int), .int .i64 v, .int .i64 y, .int .i64 m]] w fun e w' => e = .returned (.bool (wCan p L v y m)) ∧ Below w.heap.size w w' := by
  have HB := Lib.hid (bounds_any p L v y m hp hy)
  have HF : Hid (wCan p L v y m = decide (v * ten L ≤ wHi p y m ∧ wLo p < v * ten L + ten L)) := Lib.hid rfl
  obtain ⟨l0, l1, h0, h1⟩ := wBounds p y m
  generalize wLo p = lo at *
  generalize wHi p y m = hi at *
  generalize wCan p L v y m = R at *
  go_enter Tryd.func21, Tryd.ntmps21
  go_wp2_with fail
  refine (HB.out _).mono ?_
  rintro e w1 ⟨rfl, hb⟩
  have HR := Lib.hid ((Row.new w 26 [.int .u8 p, .int .i64 (L : Int), .int .i64 v, .int .i64 y, .int .i64 m]).below hb (by simp))
  have HW := Lib.hid (((Below.refl w.heap.size w).alloc (Nat.le_refl _) (.cells #[.int .u8 p, .int .i64 (L : Int), .int .i64 v, .int .i64 y, .int .i64 m] 26)).trans (hb.mono (by simp)))
  have c1 : w1.cell? ⟨w.heap.size, 1, none⟩ = some (.int .i64 (L : Int)) := HR.out.cell 1
  have c2 : w1.cell? ⟨w.heap.size, 2, none⟩ = some (.int .i64 v) := HR.out.cell 2
  clear HB hb HR
  go_wp2
  have HT := Lib.hid (ten_cases)
  have hT0 : ten ((0 : Nat) : Int) = 1 := rfl
  go_loopw [5, 6, 16] (fun lv nv iv wr => ∃ (k : Nat) (q t : Int), lv = .int .i64 q ∧ nv = .int .i64 t ∧ iv = .int .i64 (k : Int) ∧ k ≤ L ∧ wr = w1 ∧ Hid (q = v * ten (k : Int) ∧ t = ten (k : Int))) (fun _ _ iv _ => L - (intOf iv).toNat)
  case atStart => exact ⟨0, v, 1, rfl, rfl, rfl, by omega, rfl, Lib.hid ⟨by rw [hT0]; omega, hT0.symm⟩⟩
  case round =>
    obtain ⟨k, q, t, rfl, rfl, rfl, hk, rfl, HQ⟩ := hrel
    obtain ⟨e1, e2⟩ := HQ.out
    by_cases hlt : k < L
    · have HQ2 : Hid (q * 10 = v * ten ((k + 1 : Nat) : Int) ∧ t * 10 = ten ((k + 1 : Nat) : Int)) := Lib.hid (by
        rw [e1, e2]
        rcases (by omega : k = 0 ∨ k = 1 ∨ k = 2) with rfl | rfl | rfl
        · exact ⟨by show v * 1 * 10 = v * 10; omega, rfl⟩
        · exact ⟨by show v * 10 * 10 = v * 100; omega, rfl⟩
        · exact ⟨by show v * 100 * 10 = v * 1000; omega, rfl⟩)
      have hb : 0 ≤ q ∧ q ≤ 999900 ∧ 0 ≤ t ∧ t ≤ 100 := by
        rw [e1, e2]
        rcases HT.out k (by omega) with ⟨rfl, h⟩ | ⟨rfl, h⟩ | ⟨rfl, h⟩ | ⟨rfl, h⟩
        all_goals rw [h]; omega
      obtain ⟨b0, b1, b2, b3⟩ := hb
      have hlti : (k : Int) < (L : Int) := by omega
      clear e1 e2 HQ
      go_wp2
      go_roundw
      case rel => exact ⟨k + 1, q * 10, t * 10, rfl, rfl, by simp, by omega, trivial, HQ2⟩
      case measure => simp [intOf]; omega
    · obtain rfl : k = L := by omega
      have hb : 0 ≤ q ∧ q ≤ 9999000 ∧ 0 ≤ t ∧ t ≤ 1000 := by
        rw [e1, e2]
        rcases HT.out k (by omega) with ⟨rfl, h⟩ | ⟨rfl, h⟩ | ⟨rfl, h⟩ | ⟨rfl, h⟩
        all_goals rw [h]; omega
      obtain ⟨b0, b1, b2, b3⟩ := hb
      have HF2 : Hid (R = decide (q ≤ hi ∧ lo < q + t)) := Lib.hid (by rw [HF.out, e1, e2])
      clear e1 e2 HQ HF HT hT0 c1 c2
      by_cases g1 : q ≤ hi
      · by_cases g2 : lo < q + t
        · have HO : Hid (true = R) := Lib.hid (by rw [HF2.out, decide_eq_true ⟨g1, g2⟩])
          clear HF2
          go_wp2
          go_returns
          exact ⟨rets1 (congrArg Value.bool HO.out), HW.out⟩
        · have HO : Hid (false = R) := Lib.hid (by rw [HF2.out, decide_eq_false (fun h => g2 h.2)])
          clear HF2
          go_wp2
          go_returns
          exact ⟨rets1 (congrArg Value.bool HO.out), HW.out⟩
      · have HO : Hid (false = R) := Lib.hid (by rw [HF2.out, decide_eq_false (fun h => g1 h.1)])
        clear HF2
        go_wp2
        go_returns
        exact ⟨rets1 (congrArg Value.bool HO.out), HW.out⟩
theorem fullYear_any (v : Int) (hv : 0 ≤ v ∧ v ≤ 9999) (w : World) :
    Calls Tryd.prog 31 #[.int .i64 v] w fun e w' => e = .returned (.int .i64 (wYear v)) ∧ w' = w := by
  by_cases h : v < 50
  · have HF : Hid (2000 + v = wYear v) := Lib.hid (by unfold wYear; rw [if_pos h])
    go_enter Tryd.func31, Tryd.ntmps31
    go_wp2
    go_returns
    exact ⟨rets1 (congrArg (Value.int .i64) HF.out), rfl⟩
  · have HF : Hid (1900 + v = wYear v) := Lib.hid (by unfold wYear; rw [if_neg h])
    go_enter Tryd.func31, Tryd.ntmps31
    go_wp2
    go_returns
    exact ⟨rets1 (congrArg (Value.int .i64) HF.out), rfl⟩
/-- The cells of a state. -/
def wC5 (p l v y m : Int) : List Value := [.int .u8 p, .int .i64 l, .int .i64 v, .int .i64 y, .int .i64 m]
theorem wC5_one (p l v y m : Int) : ∀ u ∈ wC5 p l v y m, u.oneCell' = true := by intro u hu; simp [wC5] at hu; rcases hu with rfl | rfl | rfl | rfl | rfl <;> rfl
theorem infoWst : (Tryd.prog.info? 26).map (·.size) = some 5 := by kernel_rfl
theorem wst_load {W : World} {g : Nat} {p l v y m : Int} (h : Row W g 26 (wC5 p l v y m)) : (loadVar 26 ⟨g, 0, none⟩).run Tryd.prog W = .ok (.agg #[.int .u8 p, .int .i64 l, .int .i64 v, .int .i64 y, .int .i64 m]) W :=
  run_loadVar_mid _ _ 0 _ (wC5 p l v y m) _ h.whole Tryd.underlying26 rfl infoWst
theorem row_new2 (w : World) (o : Obj) (t : TypeId) (l : List Value) : Row ((w.alloc o).alloc (.cells l.toArray t)) (w.heap.size + 1) t l := by
  have := Row.new (w.alloc o) t l
  simpa using this
set_option maxHeartbeats 4000000 in
theorem behind_any (p v y m : Int) (hp : 1 ≤ p ∧ p ≤ 7) (hv : 0 ≤ v ∧ v ≤ 9999) (w : World) :
    Calls Tryd.prog 22 #[.agg #[.int .u8 p, .int .i64 0, .int .i64 v, .int .i64 y, .int .i64 m]] w fun e w' => e = .returned (.agg #[.int .u8 (wNext p v y m).p, .int .i64 (wNext p v y m).l, .int .i64 (wNext p v y m).v, .int .i64 (wNext p v y m).y, .int .i64 (wNext p v y m).m]) ∧ Below w.heap.size w w' := by
  have HY := Lib.hid (fullYear_any v hv)
  obtain ⟨p0, p1⟩ := hp
  rcases (by omega : p = 1 ∨ p = 2 ∨ p = 3 ∨ p = 4 ∨ p = 5 ∨ p = 6 ∨ p = 7) with rfl | rfl | rfl | rfl | rfl | rfl | rfl
  · go_enter Tryd.func22, Tryd.ntmps22
    go_wp2_with fail
    refine (HY.out _).mono ?_
    rintro e w1 ⟨rfl, rfl⟩
    go_wp2
    exact bodyPost_ret (results_cell Tryd.results22 _ (ad := ⟨w.heap.size + 1, 0, none⟩) rfl (wst_load (row_new2 w _ 26 (wC5 3 2 0 (wYear v) m)))) rfl ⟨rfl, by go_grown⟩
  · clear HY
    go_enter Tryd.func22, Tryd.ntmps22
    go_wp2
    exact bodyPost_ret (results_cell Tryd.results22 _ (ad := ⟨w.heap.size + 1, 0, none⟩) rfl (wst_load (row_new2 w _ 26 (wC5 3 2 0 v m)))) rfl ⟨rfl, by go_grown⟩
  · clear HY
    go_enter Tryd.func22, Tryd.ntmps22
    go_wp2
    exact bodyPost_ret (results_cell Tryd.results22 _ (ad := ⟨w.heap.size + 1, 0, none⟩) rfl (wst_load (row_new2 w _ 26 (wC5 4 2 0 y v)))) rfl ⟨rfl, by go_grown⟩
  · clear HY
    go_enter Tryd.func22, Tryd.ntmps22
    go_wp2
    exact bodyPost_ret (results_cell Tryd.results22 _ (ad := ⟨w.heap.size + 1, 0, none⟩) rfl (wst_load (row_new2 w _ 26 (wC5 5 2 0 y m)))) rfl ⟨rfl, by go_grown⟩
  · clear HY
    go_enter Tryd.func22, Tryd.ntmps22
    go_wp2
    exact bodyPost_ret (results_cell Tryd.results22 _ (ad := ⟨w.heap.size + 1, 0, none⟩) rfl (wst_load (row_new2 w _ 26 (wC5 6 2 0 y m)))) rfl ⟨rfl, by go_grown⟩
  · clear HY
    go_enter Tryd.func22, Tryd.ntmps22
    go_wp2
    exact bodyPost_ret (results_cell Tryd.results22 _ (ad := ⟨w.heap.size + 1, 0, none⟩) rfl (wst_load (row_new2 w _ 26 (wC5 7 2 0 y m)))) rfl ⟨rfl, by go_grown⟩
  · clear HY
    go_enter Tryd.func22, Tryd.ntmps22
    go_wp2
    exact bodyPost_ret (results_cell Tryd.results22 _ (ad := ⟨w.heap.size + 1, 0, none⟩) rfl (wst_load (row_new2 w _ 26 (wC5 8 0 0 y m)))) rfl ⟨rfl, by go_grown⟩
/-- A result that lies in memory, and one that doesn't. -/
theorem results_cell_one {P : Program} {fn : Func} {p q : Tmp} {ty : TypeId} (h : fn.results = #[.cell p ty, .tmp q]) (tmps : Array Value) {ad : Addr} (hp : tmps.getD p undef = .pointer (some ad)) {v u : Value} {w : World}
    (hq : tmps.getD q undef = u) (hl : (loadVar ty ad).run P w = .ok v w) : (results fn tmps).run P w = .ok (.tuple #[v, u]) w := by
  rw [Array.getD_eq_getD_getElem?] at hp hq
  simp only [results, h]
  simp [hp, hq, asAddr, hl]
theorem row5 {w : World} {g : Nat} {t : TypeId} {a b c d e : Value} (h : Row w g t [a, b, c, d, e]) (a' b' c' d' e' : Value) :
    Row (((((w.setCell ⟨g, 0, none⟩ a').setCell ⟨g, 1, none⟩ b').setCell ⟨g, 2, none⟩ c').setCell ⟨g, 3, none⟩ d').setCell ⟨g, 4, none⟩ e') g t [a', b', c', d', e'] :=
  ((((h.set 0 a').set 1 b').set 2 c').set 3 d').set 4 e'
theorem row5_far {w : World} {g k : Nat} {t : TypeId} {l : List Value} (h : Row w g t l) (hg : g ≠ k) (a' b' c' d' e' : Value) :
    Row (((((w.setCell ⟨k, 0, none⟩ a').setCell ⟨k, 1, none⟩ b').setCell ⟨k, 2, none⟩ c').setCell ⟨k, 3, none⟩ d').setCell ⟨k, 4, none⟩ e') g t l :=
  ((((h.far (p := ⟨k, 0, none⟩) hg a').far (p := ⟨k, 1, none⟩) hg b').far (p := ⟨k, 2, none⟩) hg c').far (p := ⟨k, 3, none⟩) hg d').far (p := ⟨k, 4, none⟩) hg e'
theorem below5 {a w : World} {B k : Nat} (h : Below B a w) (hg : B ≤ k) (a' b' c' d' e' : Value) :
    Below B a (((((w.setCell ⟨k, 0, none⟩ a').setCell ⟨k, 1, none⟩ b').setCell ⟨k, 2, none⟩ c').setCell ⟨k, 3, none⟩ d').setCell ⟨k, 4, none⟩ e') :=
  ((((h.setCell (p := ⟨k, 0, none⟩) hg a').setCell (p := ⟨k, 1, none⟩) hg b').setCell (p := ⟨k, 2, none⟩) hg c').setCell (p := ⟨k, 3, none⟩) hg d').setCell (p := ⟨k, 4, none⟩) hg e'
/-- A state that a content can leave. -/
structure WS.Ok (s : WS) : Prop where
  p0 : 0 ≤ s.p
  p1 : s.p ≤ 8
  l0 : 0 ≤ s.l
  l1 : s.l ≤ 4
  v0 : 0 ≤ s.v
  v1 : s.v ≤ 999
  y0 : 0 ≤ s.y
  y1 : s.y ≤ 9999
  m0 : 0 ≤ s.m
  m1 : s.m ≤ 99
  lp : 1 ≤ s.l → 1 ≤ s.p ∧ s.p ≤ 7
theorem wStart_any (tag n : Int) (w : World) :
    Calls Tryd.prog 11 #[.int .i64 tag, .int .i64 n] w fun e w' => e = .returned (.tuple #[.agg #[.int .u8 (wStart tag n).1.p, .int .i64 (wStart tag n).1.l, .int .i64 (wStart tag n).1.v, .int .i64 (wStart tag n).1.y, .int .i64 (wStart tag n).1.m], .bool (wStart tag n).2]) ∧ Below w.heap.size w w' := by
  by_cases h1 : tag = 23 ∧ n = 13
  · obtain ⟨rfl, rfl⟩ := h1
    go_enter Tryd.func11, Tryd.ntmps11
    go_wp2
    exact bodyPost_ret (results_cell_one Tryd.results11 _ (ad := ⟨w.heap.size, 0, none⟩) rfl rfl (wst_load (Row.new w 26 (wC5 1 2 0 0 0)))) rfl ⟨rfl, by go_grown⟩
  · by_cases h2 : tag = 24 ∧ n = 15
    · obtain ⟨rfl, rfl⟩ := h2
      clear h1
      go_enter Tryd.func11, Tryd.ntmps11
      go_wp2
      exact bodyPost_ret (results_cell_one Tryd.results11 _ (ad := ⟨w.heap.size, 0, none⟩) rfl rfl (wst_load (Row.new w 26 (wC5 2 4 0 0 0)))) rfl ⟨rfl, by go_grown⟩
    · have HO : Hid (wStart tag n = (WS.no, false)) := Lib.hid (by unfold wStart; rw [if_neg h1, if_neg h2])
      by_cases t3 : tag = 23
      · subst t3
        have hn : (n == 13) = false := by simpa using h1
        clear h1 h2
        go_enter Tryd.func11, Tryd.ntmps11
        go_wp2
        exact bodyPost_ret (results_cell_one Tryd.results11 _ (ad := ⟨w.heap.size, 0, none⟩) rfl rfl (wst_load (Row.new w 26 (wC5 0 0 0 0 0)))) rfl ⟨by rw [HO.out]; rfl, by go_grown⟩
      · have ht3 : (tag == 23) = false := by simpa using t3
        by_cases t4 : tag = 24
        · subst t4
          have hn : (n == 15) = false := by simpa using h2
          clear h1 h2 t3
          go_enter Tryd.func11, Tryd.ntmps11
          go_wp2
          exact bodyPost_ret (results_cell_one Tryd.results11 _ (ad := ⟨w.heap.size, 0, none⟩) rfl rfl (wst_load (Row.new w 26 (wC5 0 0 0 0 0)))) rfl ⟨by rw [HO.out]; rfl, by go_grown⟩
        · have ht4 : (tag == 24) = false := by simpa using t4
          clear h1 h2 t3 t4
          go_enter Tryd.func11, Tryd.ntmps11
          go_wp2
          exact bodyPost_ret (results_cell_one Tryd.results11 _ (ad := ⟨w.heap.size, 0, none⟩) rfl rfl (wst_load (Row.new w 26 (wC5 0 0 0 0 0)))) rfl ⟨by rw [HO.out]; rfl, by go_grown⟩
theorem n2_range {F : List Int} {i : Nat} (h : isD (g F i)) (h2 : isD (g F (i + 1))) : 0 ≤ n2 F i ∧ n2 F i ≤ 99 := by
  unfold isD at h h2
  unfold n2
  omega
theorem wF_ok {tag : Int} {F : List Int} (h15 : F.length ≤ 15) (hd : ∀ i, i < F.length → i < 14 → isD (g F i)) : WS.Ok (wF tag F) := by
  unfold wF
  by_cases h4 : 4 ≤ F.length
  · rw [if_pos h4]
    have hy := yr_range (L := F) (fun i hi => hd i (by omega) (by omega))
    have hm : 6 ≤ F.length → 0 ≤ n2 F 4 ∧ n2 F 4 ≤ 99 := fun h => n2_range (hd 4 (by omega) (by omega)) (hd 5 (by omega) (by omega))
    have hv : F.length < 14 → 0 ≤ g F (F.length - 1) - 48 ∧ g F (F.length - 1) - 48 ≤ 9 := fun h => by
      have := hd (F.length - 1) (by omega) (by omega)
      unfold isD at this
      omega
    refine ⟨?_, ?_, ?_, ?_, ?_, ?_, hy.1, hy.2, ?_, ?_, ?_⟩
    · show 0 ≤ if F.length = 15 then (0 : Int) else (F.length : Int) / 2 + 1
      split <;> omega
    · show (if F.length = 15 then (0 : Int) else (F.length : Int) / 2 + 1) ≤ 8
      split <;> omega
    · show 0 ≤ if F.length < 14 then 2 - (F.length : Int) % 2 else (0 : Int)
      split <;> omega
    · show (if F.length < 14 then 2 - (F.length : Int) % 2 else (0 : Int)) ≤ 4
      split <;> omega
    · show 0 ≤ if F.length < 14 ∧ F.length % 2 = 1 then g F (F.length - 1) - 48 else 0
      split
      · rename_i h; exact (hv h.1).1
      · omega
    · show (if F.length < 14 ∧ F.length % 2 = 1 then g F (F.length - 1) - 48 else 0) ≤ 999
      split
      · rename_i h; have := (hv h.1).2; omega
      · omega
    · show 0 ≤ if 6 ≤ F.length then n2 F 4 else 0
      split
      · rename_i h; exact (hm h).1
      · omega
    · show (if 6 ≤ F.length then n2 F 4 else 0) ≤ 99
      split
      · rename_i h; exact (hm h).2
      · omega
    · show 1 ≤ (if F.length < 14 then 2 - (F.length : Int) % 2 else (0 : Int)) → 1 ≤ (if F.length = 15 then (0 : Int) else (F.length : Int) / 2 + 1) ∧ (if F.length = 15 then (0 : Int) else (F.length : Int) / 2 + 1) ≤ 7
      intro hh
      by_cases h14 : F.length < 14
      · rw [if_neg (by omega)]; omega
      · rw [if_neg h14] at hh; omega
  · rw [if_neg h4]
    have e01 : g F (0 + 1) = g F 1 := rfl
    have h0 : 1 ≤ F.length → 0 ≤ g F 0 - 48 ∧ g F 0 - 48 ≤ 9 := fun h => by have := hd 0 (by omega) (by omega); unfold isD at this; omega
    have h1 : 2 ≤ F.length → 0 ≤ g F 1 - 48 ∧ g F 1 - 48 ≤ 9 := fun h => by have := hd 1 (by omega) (by omega); unfold isD at this; omega
    have h2 : 3 ≤ F.length → 0 ≤ g F 2 - 48 ∧ g F 2 - 48 ≤ 9 := fun h => by have := hd 2 (by omega) (by omega); unfold isD at this; omega
    by_cases ht : tag = 24
    · rw [if_pos ht]
      refine ⟨show (0 : Int) ≤ 2 by decide, show (2 : Int) ≤ 8 by decide, show 0 ≤ 4 - (F.length : Int) by omega, show 4 - (F.length : Int) ≤ 4 by omega, ?_, ?_, show (0 : Int) ≤ 0 by decide, show (0 : Int) ≤ 9999 by decide, show (0 : Int) ≤ 0 by decide, show (0 : Int) ≤ 99 by decide, fun _ => ⟨show (1 : Int) ≤ 2 by decide, show (2 : Int) ≤ 7 by decide⟩⟩
      · show 0 ≤ if F.length = 0 then (0 : Int) else if F.length = 1 then g F 0 - 48 else if F.length = 2 then n2 F 0 else n2 F 0 * 10 + (g F 2 - 48)
        unfold n2
        repeat' split
        all_goals omega
      · show (if F.length = 0 then (0 : Int) else if F.length = 1 then g F 0 - 48 else if F.length = 2 then n2 F 0 else n2 F 0 * 10 + (g F 2 - 48)) ≤ 999
        unfold n2
        repeat' split
        all_goals omega
    · rw [if_neg ht]
      refine ⟨show (0 : Int) ≤ 1 by decide, show (1 : Int) ≤ 8 by decide, show 0 ≤ 4 - (F.length : Int) by omega, show 4 - (F.length : Int) ≤ 4 by omega, ?_, ?_, show (0 : Int) ≤ 0 by decide, show (0 : Int) ≤ 9999 by decide, show (0 : Int) ≤ 0 by decide, show (0 : Int) ≤ 99 by decide, fun _ => ⟨show (1 : Int) ≤ 1 by decide, show (1 : Int) ≤ 7 by decide⟩⟩
      · show 0 ≤ if F.length ≤ 2 then (0 : Int) else g F 2 - 48
        split <;> omega
      · show (if F.length ≤ 2 then (0 : Int) else g F 2 - 48) ≤ 999
        split <;> omega
theorem wSt_ok {tag n : Int} {l : List Int} (hc : canP tag n l) : WS.Ok (wSt tag l) := by
  have ho := typ_off hc.1
  have hL := fullP_length tag l
  have h2 := hc.2.1
  refine wF_ok (by omega) (fun i hi h14 => ?_)
  by_cases hn : (l.length : Int) < n
  · exact (full_ok hc hn i hi).1
  · -- behind the last byte: that of its front
    by_cases hi2 : i < offT tag
    · have ht : ¬ tag = 24 := by intro e; unfold offT at hi2; rw [if_pos e] at hi2; omega
      have hi3 : i < 2 := by unfold offT at hi2; rw [if_neg ht] at hi2; exact hi2
      unfold fullP; rw [if_neg ht, g_left (by rw [cent_length]; exact hi3)]; exact cent_isD _ _ hi3
    · have := ((hc.2.2 (i - offT tag) (by omega)).2 (by omega)).1.1
      rwa [show i - offT tag + offT tag = i by omega] at this
end Go.Proofs.YthjncfpgmfbehaaDoor
