/- What a source's Read gives. -/
import Derived.Test.YtlaeoacaihooiaaSrcNew
import Derived.Test.YtlaeoacaihooiaaGrown
import Derived.Test.YtlaeoacaihooiaaMem2
namespace Go.Proofs.Ytlaeoacaihooiaa
open Go.RowKit Go.PlainAid
set_option linter.unusedVariables false
theorem infoStep2 : (Try.prog.info? 39).map (·.size) = some 2 := by kernel_rfl
def nsN (rest : ByteArray) (l : List (Int × Int)) : Int := match l with | s :: _ => s.1 | [] => (rest.size : Int)
def nsK (rest : ByteArray) (l : List (Int × Int)) : Int := match l with | s :: _ => s.2 | [] => if rest.size = 0 then 1 else 0
def outK (rest : ByteArray) (k : Int) : Int := if k = 2 then 2 else if k = 1 ∧ rest.size = 0 then 1 else 0
theorem empty_of {s : ByteArray} (h : s.size = 0) : s = ⟨#[]⟩ := ByteArray.ext (Array.eq_empty_of_size_eq_zero h)
theorem not_empty {s : ByteArray} (h : ¬ s.size = 0) : s.toList.isEmpty = false := by
  cases hl : s.toList with
  | nil => exact absurd (by rw [Lib.toList_data] at hl; rw [Lib.size_eq, hl]; rfl) h
  | cons _ _ => rfl
theorem outcome_any (g : Nat) (rest : ByteArray) (oa : Option Addr) (n cap : Nat) (over : Int) (at_ calls : Nat) (k : Int) (w : World) (h : Row w g 52 (srcCells rest oa n cap over at_ calls)) :
    Calls Try.prog 34 #[.pointer (some ⟨g, 0, none⟩), .int .i64 k] w fun e w' => e = .returned (.int .i64 (outK rest k)) ∧ w = w' := by
  have h0 : w.cell? ⟨g, 0, none⟩ = some (.string rest) := h.cell 0
  clear h
  by_cases h2 : k = 2
  · subst h2
    have HO : Hid (outK rest 2 = 2) := Lib.hid rfl
    go_enter Try.func34, Try.ntmps34
    go_wp2
    go_ret
    exact ⟨ret_int HO.out.symm, rfl⟩
  · have b2 : (k == 2) = false := by simpa using h2
    by_cases h1 : k = 1
    · subst h1
      clear b2
      by_cases hr : rest.size = 0
      · have HO : Hid (outK rest 1 = 1) := Lib.hid (by simp [outK, hr])
        obtain rfl := empty_of hr
        go_enter Try.func34, Try.ntmps34
        go_wp2
        go_ret
        exact ⟨ret_int HO.out.symm, rfl⟩
      · have HO : Hid (outK rest 1 = 0) := Lib.hid (by simp [outK, hr])
        have hne := not_empty hr
        go_enter Try.func34, Try.ntmps34
        go_wp2
        go_ret
        exact ⟨ret_int HO.out.symm, rfl⟩
    · have b1 : (k == 1) = false := by simpa using h1
      have HO : Hid (outK rest k = 0) := Lib.hid (by simp [outK, h1, h2])
      clear h1 h2
      go_enter Try.func34, Try.ntmps34
      go_wp2
      go_ret
      exact ⟨ret_int HO.out.symm, rfl⟩
set_option maxHeartbeats 1000000 in
theorem take_any (g : Nat) (rest : ByteArray) (oa : Option Addr) (n cap : Nat) (over : Int) (at_ calls : Nat) (m : Int) (w : World) (h : Row w g 52 (srcCells rest oa n cap over at_ calls)) (hm : InI m) (hr : rest.size ≤ 100000000) (ha : at_ ≤ 100000000) :
    Calls Try.prog 33 #[.pointer (some ⟨g, 0, none⟩), .int .i64 m] w fun e w' => e = .returned (.string (rest.extract 0 (min m rest.size).toNat)) ∧ Row w' g 52 (srcCells (rest.extract (min m rest.size).toNat rest.size) oa n cap over (at_ + (min m rest.size).toNat) calls) ∧ w.grownBy w' (some g) := by
  obtain ⟨hm0, hm1⟩ := hm
  obtain ⟨k, hk⟩ : ∃ k : Nat, max 0 (min m (rest.size : Int)) = (k : Int) := ⟨(max 0 (min m (rest.size : Int))).toNat, by omega⟩
  have hk2 : (min m (rest.size : Int)).toNat = k := by omega
  have hks : k ≤ rest.size := by omega
  rw [hk2]
  have HK := Lib.hid hk
  have h0 : w.cell? ⟨g, 0, none⟩ = some (.string rest) := h.cell 0
  have HR := Lib.hid h
  have HS := Lib.hid (fun w => strClone_any (rest.extract 0 k) (by rw [ByteArray.size_extract]; omega) w)
  clear h hk hk2
  go_enter Try.func33, Try.ntmps33
  go_wp2_with fail
  rw [HK.out, Int.toNat_natCast]
  refine (HS.out _).mono ?_
  rintro e w1 ⟨rfl, hB1⟩
  have HR1 := Lib.hid (HR.out.below hB1 HR.out.lt)
  clear h0
  have h0 : w1.cell? ⟨g, 0, none⟩ = some (.string rest) := HR1.out.cell 0
  have h3 : w1.cell? ⟨g, 3, none⟩ = some (.int .i64 (at_ : Int)) := HR1.out.cell 3
  have f0 : w1.frozen? ⟨g, 0, none⟩ = false := HR1.out.frozen 0
  have f3 : w1.frozen? ⟨g, 3, none⟩ = false := HR1.out.frozen 3
  have hgr := grown_below hB1 g
  have HS0 := Lib.hid ((HR1.out.set 0 (.string (rest.extract k rest.size))).set 3 (.int .i64 ((at_ : Int) + (k : Int))))
  clear HS HK
  go_wp2
  go_ret
  exact ⟨rfl, HS0.out, grown_set (grown_set hgr _ _) _ _⟩
theorem size_set (w : World) (a : Addr) (v : Value) : (w.setCell a v).heap.size = w.heap.size := by simp [World.setCell]
theorem row_behind_set (w : World) (a : Addr) (v : Value) (t : TypeId) (l : List Value) (o : Obj) : Row (((w.setCell a v).alloc (.cells l.toArray t)).alloc o) w.heap.size t l := by
  have h := (Row.new (w.setCell a v) t l).alloc o
  rwa [size_set] at h
set_option maxHeartbeats 1000000 in
theorem nextStep_any (g : Nat) (rest : ByteArray) (oa : Option Addr) (n cap : Nat) (over : Int) (at_ calls : Nat) (l : List (Int × Int)) (w : World) (h : Row w g 52 (srcCells rest oa n cap over at_ calls)) (hs : StepsAt w g oa n cap l) (hr : rest.size ≤ 100000000) (hn : n ≤ 1000000) :
    Calls Try.prog 32 #[.pointer (some ⟨g, 0, none⟩)] w fun e w' => e = .returned (.agg #[.int .i64 (nsN rest l), .int .i64 (nsK rest l)]) ∧ (∃ ob m cb, Row w' g 52 (srcCells rest ob m cb over at_ calls) ∧ StepsAt w' g ob m cb l.tail) ∧ w.grownBy w' (some g) := by
  have h0 : w.cell? ⟨g, 0, none⟩ = some (.string rest) := h.cell 0
  have h1 : w.cell? ⟨g, 1, none⟩ = some (.slice oa n cap) := h.cell 1
  have f1 : w.frozen? ⟨g, 1, none⟩ = false := h.frozen 1
  have hlt := h.lt
  have HR := Lib.hid h
  have HSS := Lib.hid hs
  obtain ⟨hl, hnc, hcm, hd⟩ := hs
  have Hcm := Lib.hid hcm
  clear h hcm
  cases l with
  | nil =>
    obtain rfl : n = 0 := by simpa using hl.symm
    clear hl hd
    by_cases hz : rest.size = 0
    · obtain rfl := empty_of hz
      go_enter Try.func32, Try.ntmps32
      go_wp2
      exact bodyPost_ret (v := .agg #[.int .i64 0, .int .i64 1]) (results_cell Try.results32 _ (ad := ⟨w.heap.size, 0, none⟩) rfl (run_loadVar_mid _ _ 0 _ [.int .i64 0, .int .i64 1] _ (Row.new w _ _).whole Try.underlying39 rfl infoStep2)) rfl
        ⟨rfl, ⟨oa, 0, cap, HR.out.alloc _, HSS.out.below ((Below.refl _ _).alloc (Nat.le_refl _) _)⟩, grown_alloc (grown_refl _ _) _⟩
    · have hne := not_empty hz
      have hne2 : (!rest.toList.isEmpty) = true := by rw [hne]; rfl
      have HK : Hid (nsK rest [] = 0) := Lib.hid (by simp [nsK, hz])
      clear hz
      go_enter Try.func32, Try.ntmps32
      go_wp2
      exact bodyPost_ret (v := .agg #[.int .i64 (rest.size : Int), .int .i64 0]) (results_cell Try.results32 _ (ad := ⟨w.heap.size, 0, none⟩) rfl (run_loadVar_mid _ _ 0 _ [.int .i64 (rest.size : Int), .int .i64 0] _ (Row.new w _ _).whole Try.underlying39 rfl infoStep2)) rfl
        ⟨by rw [HK.out]; rfl, ⟨oa, 0, cap, HR.out.alloc _, HSS.out.below ((Below.refl _ _).alloc (Nat.le_refl _) _)⟩, grown_alloc (grown_refl _ _) _⟩
  | cons s r =>
    obtain ⟨x, y⟩ := s
    obtain rfl : n = r.length + 1 := by simpa using hl.symm
    rcases hd with hd | ⟨gs, off, L, rfl, hgs, hrow, hcell⟩
    · omega
    have c0 : w.cell? ⟨gs, off, none⟩ = some (.int .i64 x) := by rw [hrow.cell]; exact hcell 0 _ rfl
    have c1 : w.cell? ⟨gs, off + 1, none⟩ = some (.int .i64 y) := by rw [hrow.cell]; exact hcell 1 _ rfl
    have HC := Lib.hid hcell
    have HROW := Lib.hid hrow
    have hgl := hrow.lt
    clear hl hcell hrow
    have hneg : gs ≠ g := by omega
    have hcm := Hcm.out
    unfold maxLen at hcm
    generalize hrl : r.length = m at *
    have HRL := Lib.hid hrl
    clear hrl
    by_cases hc1 : cap = 1
    · subst hc1
      obtain rfl : m = 0 := by omega
      have HRS := Lib.hid (((HR.out.set 1 (.slice (some ⟨gs, off, none⟩) 0 0)).alloc (.cells #[.int .i64 x, .int .i64 y] 39)).alloc (.cells #[.int .i64 x, .int .i64 y] 39))
      have HST : Hid (StepsAt (((w.setCell ⟨g, 1, none⟩ (.slice (some ⟨gs, off, none⟩) 0 0)).alloc (.cells #[.int .i64 x, .int .i64 y] 39)).alloc (.cells #[.int .i64 x, .int .i64 y] 39)) g (some ⟨gs, off, none⟩) 0 0 r) := Lib.hid ⟨HRL.out, Nat.le_refl _, Nat.zero_le _, .inl rfl⟩
      go_enter Try.func32, Try.ntmps32
      go_wp2
      exact bodyPost_ret (v := .agg #[.int .i64 x, .int .i64 y]) (results_cell Try.results32 _ (ad := ⟨w.heap.size, 0, none⟩) rfl (run_loadVar_mid _ _ 0 _ [.int .i64 x, .int .i64 y] _ (row_behind_set w _ _ _ _ _).whole Try.underlying39 rfl infoStep2)) rfl
        ⟨rfl, ⟨some ⟨gs, off, none⟩, 0, 0, HRS.out, HST.out⟩, grown_alloc (grown_alloc (grown_set (grown_refl _ _) _ _) _) _⟩
    · have HRS := Lib.hid (((HR.out.set 1 (.slice (some ⟨gs, off + 2, none⟩) m (cap - 1))).alloc (.cells #[.int .i64 x, .int .i64 y] 39)).alloc (.cells #[.int .i64 x, .int .i64 y] 39))
      have HST : Hid (StepsAt (((w.setCell ⟨g, 1, none⟩ (.slice (some ⟨gs, off + 2, none⟩) m (cap - 1))).alloc (.cells #[.int .i64 x, .int .i64 y] 39)).alloc (.cells #[.int .i64 x, .int .i64 y] 39)) g (some ⟨gs, off + 2, none⟩) m (cap - 1) r) := Lib.hid
        ⟨HRL.out, by omega, by have := Hcm.out; omega, .inr ⟨gs, off + 2, L, rfl, hgs, ((HROW.out.far (by simpa using hneg) _).alloc _).alloc _, fun j u hj => by
          have := HC.out (j + 2) u (by exact hj)
          rwa [show off + (j + 2) = off + 2 + j by omega] at this⟩⟩
      go_enter Try.func32, Try.ntmps32
      go_wp2
      exact bodyPost_ret (v := .agg #[.int .i64 x, .int .i64 y]) (results_cell Try.results32 _ (ad := ⟨w.heap.size, 0, none⟩) rfl (run_loadVar_mid _ _ 0 _ [.int .i64 x, .int .i64 y] _ (row_behind_set w _ _ _ _ _).whole Try.underlying39 rfl infoStep2)) rfl
        ⟨rfl, ⟨some ⟨gs, off + 2, none⟩, m, cap - 1, HRS.out, HST.out⟩, grown_alloc (grown_alloc (grown_set (grown_refl _ _) _ _) _) _⟩
end Go.Proofs.Ytlaeoacaihooiaa
