/- Package query's (*serial).push and serialOf: what a serial number's cells are behind each byte. -/
import Derived.Test.YtpdflpobhmpbpaaQryCell
import Derived.Test.YtpdflpobhmpbpaaQrySpec
import Derived.Test.YtpdflpobhmpbpaaNumCode
import Derived.Test.YtpdflpobhmpbpaaMem2
import Derived.Deep.MidRow
import Derived.Deep.QuietTactic
import Derived.BigQuiet
import Derived.Deep.LoopGhost
import Derived.Handy
namespace Go.Proofs.Ytpdflpobhmpbpaa
open Go.RowKit Go.PlainAid
set_option linter.unusedVariables false
theorem row_sc {w : World} {g : Nat} {t : TypeId} {pre : List Value} {B : List Int} {x : Value} (hR : Row w g t (pre ++ (u8s B ++ [x]))) (hB : B.length = 20) :
    w.cell? ⟨g, pre.length + 20, none⟩ = some x ∧ ∀ n (h : n < 20), w.cell? ⟨g, pre.length + n, none⟩ = some (.int .u8 (B[n]'(by omega))) := by
  have hl := u8s_length B
  refine ⟨?_, fun n h => ?_⟩
  · rw [hR.cell, List.getElem?_append_right (by omega), List.getElem?_append_right (by omega), show pre.length + 20 - pre.length - (u8s B).length = 0 by omega]; rfl
  · rw [hR.cell, List.getElem?_append_right (by omega), List.getElem?_append_left (by omega), show pre.length + n - pre.length = n by omega, u8s_at (by omega)]
theorem set_sc (pre : List Value) (B : List Int) (x : Value) (hB : B.length = 20) :
    (∀ y, (pre ++ (u8s B ++ [x])).set (pre.length + 20) y = pre ++ (u8s B ++ [y])) ∧ ∀ n (h : n < 20) b, (pre ++ (u8s B ++ [x])).set (pre.length + n) (.int .u8 b) = pre ++ (u8s (B.set n b) ++ [x]) := by
  have hl := u8s_length B
  refine ⟨fun y => ?_, fun n h b => ?_⟩
  · rw [List.set_append_right _ _ (by omega), List.set_append_right _ _ (by omega), show pre.length + 20 - pre.length - (u8s B).length = 0 by omega]; rfl
  · rw [List.set_append_right _ _ (by omega), List.set_append_left _ _ (by omega), show pre.length + n - pre.length = n by omega]
    unfold u8s
    rw [List.map_set]
set_option maxRecDepth 100000 in
set_option maxHeartbeats 4000000 in
/-- A byte more. -/
theorem sePush_any {w : World} {g : Nat} {t : TypeId} {pre : List Value} {B : List Int} {n : Nat} (hR : Row w g t (pre ++ (u8s B ++ [.int .i64 (n : Int)]))) (hB : B.length = 20) (hn : n ≤ 21) (b : Int) :
    Calls Try.prog 23 #[.pointer (some ⟨g, pre.length, none⟩), .int .u8 b] w fun r w' => r = .returned (.tuple #[]) ∧ Row w' g t (pre ++ (u8s (if n < 20 then B.set n b else B) ++ [.int .i64 ((min (n + 1) 21 : Nat) : Int)])) ∧ Chg (fun i => i = g) w w' := by
  obtain ⟨q20, qn⟩ := row_sc hR hB
  have f20 := hR.frozen (pre.length + 20)
  have hc : ∀ X, Chg (fun i => i = g) w X → ∀ p (u : Value), Chg (fun i => i = g) w (X.setCell ⟨g, p, none⟩ u) := fun X h p u =>
    ⟨h.os, h.tape, h.output, by simpa using h.size, fun j hj hn => (Below.heap_setCell X _ u j (by show j ≠ g; exact hn)).trans (h.block j hj hn)⟩
  have h0 : Chg (fun i => i = g) w w := ⟨rfl, rfl, rfl, Nat.le_refl _, fun _ _ _ => rfl⟩
  obtain ⟨L, hL⟩ : ∃ L, pre ++ (u8s (if n < 20 then B.set n b else B) ++ [.int .i64 ((min (n + 1) 21 : Nat) : Int)]) = L := ⟨_, rfl⟩
  rw [hL]
  by_cases h : n < 20
  · have qn := qn n h
    have fn := hR.frozen (pre.length + n)
    have hS := (set_sc pre B (.int .i64 (n : Int)) hB).2 n h b
    have hR1 := hR.set (pre.length + n) (.int .u8 b)
    rw [hS] at hR1
    have hS2 := (set_sc pre (B.set n b) (.int .i64 (n : Int)) (by rw [List.length_set]; exact hB)).1 (.int .i64 ((n : Int) + 1))
    have hR2 := hR1.set (pre.length + 20) (.int .i64 ((n : Int) + 1))
    rw [hS2] at hR2
    rw [if_pos h, show min (n + 1) 21 = n + 1 by omega] at hL
    have hL' : pre ++ (u8s (B.set n b) ++ [.int .i64 ((n : Int) + 1)]) = L := hL
    rw [hL'] at hR2
    have HF : Hid (Row ((w.setCell ⟨g, pre.length + n, none⟩ (.int .u8 b)).setCell ⟨g, pre.length + 20, none⟩ (.int .i64 ((n : Int) + 1))) g t L ∧ Chg (fun i => i = g) w ((w.setCell ⟨g, pre.length + n, none⟩ (.int .u8 b)).setCell ⟨g, pre.length + 20, none⟩ (.int .i64 ((n : Int) + 1)))) := Lib.hid ⟨hR2, hc _ (hc _ h0 _ _) _ _⟩
    clear hR hS hR1 hS2 hR2 hc h0 hL hL'
    have h' : (n : Int) < 20 := by omega
    have hm : min ((n : Int) + 1) 21 = (n : Int) + 1 := by omega
    have hm1 : (n : Int) + 1 ≤ 21 := by omega
    have hx : ¬ pre.length + n = pre.length + 20 := by omega
    have hx2 : ¬ pre.length + 20 = pre.length + n := by omega
    go_enter Try.func23, Try.ntmps23
    go_wp2
    go_region
    go_wp2
    first | go_end0 | go_returns
    exact ⟨rfl, HF.out.1, ⟨HF.out.2.os, HF.out.2.tape, HF.out.2.output, HF.out.2.size, HF.out.2.block⟩⟩
  · have hS2 := (set_sc pre B (.int .i64 (n : Int)) hB).1 (.int .i64 21)
    have hR2 := hR.set (pre.length + 20) (.int .i64 21)
    rw [hS2] at hR2
    rw [if_neg h, show min (n + 1) 21 = 21 by omega] at hL
    have hL' : pre ++ (u8s B ++ [.int .i64 21]) = L := hL
    rw [hL'] at hR2
    have HF : Hid (Row (w.setCell ⟨g, pre.length + 20, none⟩ (.int .i64 21)) g t L ∧ Chg (fun i => i = g) w (w.setCell ⟨g, pre.length + 20, none⟩ (.int .i64 21))) := Lib.hid ⟨hR2, hc _ h0 _ _⟩
    clear hR hS2 hR2 hc h0 hL hL' qn
    have hn' : n = 20 ∨ n = 21 := by omega
    clear h hn
    rcases hn' with rfl | rfl
    all_goals
      go_enter Try.func23, Try.ntmps23
      go_wp2
      first | go_end0 | go_returns
      exact ⟨rfl, HF.out.1, HF.out.2⟩
/-- The zero serial number. -/
theorem infoSerial : (Try.prog.info? 51).map (·.size) = some 21 := by kernel_rfl
theorem se_one (B : List Int) (x : Int) : ∀ u ∈ u8s B ++ [.int .i64 x], u.oneCell' = true := by
  intro u hu
  rcases List.mem_append.1 hu with h | h
  · exact u8s_one B u h
  · simp at h; subst h; rfl
theorem se_load {W : World} {g : Nat} {t : TypeId} {pre C post : List Value} (h : Row W g t (pre ++ (C ++ post))) (hC : C.length = 21) : (loadVar 51 ⟨g, pre.length, none⟩).run Try.prog W = .ok (.agg C.toArray) W :=
  run_loadVar_mid _ _ _ _ C _ (by
    have := h.range pre.length 21
    rwa [List.drop_left, ← hC, List.take_left] at this) Try.underlying51 rfl (by rw [hC]; exact infoSerial)
set_option maxRecDepth 100000 in
set_option maxHeartbeats 4000000 in
/-- A text's serial number. -/
theorem serialOf_any (s : ByteArray) (hs : s.size ≤ 20) (w : World) :
    Calls Try.prog 21 #[.string s] w fun e w' => e = .returned (.agg (seC (bl s)).toArray) ∧ Below w.heap.size w w' := by
  have hbl := bl_length s
  have hb9 : (s.size : Int) ≤ 9223372036854775807 := by omega
  have HI : Hid ((Try.prog.info? 51).map (·.size) = some (seC (bl s)).length) := Lib.hid (by rw [seC_length]; exact infoSerial)
  have HI2 : Hid ((Try.prog.info? 51).map (·.size) = some (seC (bl s)).toArray.size) := Lib.hid (by rw [List.size_toArray, seC_length]; exact infoSerial)
  have H1 := Lib.hid (se_one (seB (bl s)) (seN (bl s)))
  have hZ : (#[Value.int IntKind.u8 0, Value.int IntKind.u8 0, Value.int IntKind.u8 0, Value.int IntKind.u8 0,
          Value.int IntKind.u8 0, Value.int IntKind.u8 0, Value.int IntKind.u8 0, Value.int IntKind.u8 0,
          Value.int IntKind.u8 0, Value.int IntKind.u8 0, Value.int IntKind.u8 0, Value.int IntKind.u8 0,
          Value.int IntKind.u8 0, Value.int IntKind.u8 0, Value.int IntKind.u8 0, Value.int IntKind.u8 0,
          Value.int IntKind.u8 0, Value.int IntKind.u8 0, Value.int IntKind.u8 0, Value.int IntKind.u8 0,
          Value.int IntKind.i64 0] : Array Value) = (seC []).toArray := rfl
  go_enter Try.func21, Try.ntmps21
  go_wp2_with fail
  have hr0 := (Row.new w 51 (seC [])).alloc (.cells (seC []).toArray 51)
  have hr1 : Row ((w.alloc (.cells (seC []).toArray 51)).alloc (.cells (seC []).toArray 51)) (w.heap.size + 1) 51 (seC []) := row_new2 w _ _ _
  have hb0 : Below w.heap.size w ((w.alloc (.cells (seC []).toArray 51)).alloc (.cells (seC []).toArray 51)) := ((Below.refl _ _).alloc (Nat.le_refl _) _).alloc (by simp) _
  generalize (w.alloc (.cells (seC []).toArray 51)).alloc (.cells (seC []).toArray 51) = w2 at *
  clear hZ
  go_loopg [7] s.size (fun gk iv wr => ∃ i : Nat, iv = .int .i64 (i : Int) ∧ i ≤ s.size ∧ s.size - i ≤ gk ∧ Hid (Row wr w.heap.size 51 (seC [])) ∧ Hid (Row wr (w.heap.size + 1) 51 (seC ((bl s).take i))) ∧ Hid (Below w.heap.size w wr))
  case atStart => exact ⟨0, rfl, by omega, by omega, Lib.hid hr0, Lib.hid hr1, Lib.hid hb0⟩
  case round =>
    clear hr0 hr1 hb0
    obtain ⟨i, rfl, hi, hgk, HR0, HR1, HB⟩ := hrel
    by_cases hlt : i < s.size
    · have hlt2 : (i : Int) < (s.size : Int) := by omega
      have gj := get_bt s i hlt
      have hlen : ((bl s).take i).length = i := by rw [List.length_take]; omega
      have HP : Hid (∀ b : Int, b = bt s i → Calls Try.prog 23 #[.pointer (some ⟨w.heap.size + 1, 0, none⟩), .int .u8 b] wr fun r w' => r = .returned (.tuple #[]) ∧ Row w' (w.heap.size + 1) 51 (seC ((bl s).take (i + 1))) ∧ Chg (fun j => j = w.heap.size + 1) wr w') := Lib.hid (by
        rintro b rfl
        have h := sePush_any (pre := []) (B := seB ((bl s).take i)) (n := seN ((bl s).take i)) (g := w.heap.size + 1) (w := wr) (t := 51) HR1.out (seB_length _) (seN_le _) (bt s i)
        have e : seC ((bl s).take (i + 1)) = u8s (if seN ((bl s).take i) < 20 then (seB ((bl s).take i)).set (seN ((bl s).take i)) (bt s i) else seB ((bl s).take i)) ++ [.int .i64 ((min (seN ((bl s).take i) + 1) 21 : Nat) : Int)] := by
          have e1 : seN ((bl s).take i) = i := by unfold seN; omega
          have e2 : (seB ((bl s).take i)).set i (bt s i) = seB ((bl s).take i ++ [bt s i]) := by
            have := seB_push (l := (bl s).take i) (by omega) (bt s i)
            rwa [hlen] at this
          have e3 : min (i + 1) 21 = seN ((bl s).take i ++ [bt s i]) := by unfold seN; rw [List.length_append, hlen]; rfl
          rw [e1, if_pos (by omega), e2, e3, List.take_add_one, bl_at s i hlt]
          rfl
        rw [e]; exact h)
      generalize bt s i = x at *
      clear hbl hlen
      go_wp2_with fail
      refine (HP.out _ rfl).mono ?_
      rintro r w5 ⟨rfl, h1, h2⟩
      have HR5 := Lib.hid (HR0.out.chg h2 (by omega))
      have HR6 := Lib.hid h1
      have HB5 := Lib.hid (Chg.to_below HB.out h2 (fun j hj => by omega))
      clear h1 h2 HR0 HR1 HB HP
      go_wp2_with fail
      go_roundg (s.size - (i + 1))
      case measure => omega
      case rel => exact ⟨i + 1, by simp, by omega, by omega, HR5, HR6, HB5⟩
    · have hlt2 : ¬ (i : Int) < (s.size : Int) := by omega
      obtain rfl : i = s.size := by omega
      have HR2 : Hid (Row wr (w.heap.size + 1) 51 (seC (bl s))) := Lib.hid (by have := HR1.out; rwa [List.take_of_length_le (by omega)] at this)
      have HT : Hid (World.there wr w.heap.size 0 (seC (bl s)).toArray.size) := Lib.hid (HR0.out.there (by simp [seC_length]))
      have HF : Hid (Row (wr.setCells w.heap.size 0 (seC (bl s))) w.heap.size 51 (seC (bl s))) := Lib.hid (HR0.out.setAll (by rw [seC_length, seC_length]))
      have HBF : Hid (Below w.heap.size w (wr.setCells w.heap.size 0 (seC (bl s)))) := Lib.hid (below_setCells _ _ HB.out (Nat.le_refl _))
      have HLEN := Lib.hid (seC_length (bl s))
      replace H1 : Hid (∀ u ∈ seC (bl s), u.oneCell' = true) := H1
      clear HR0 HR1 HB hbl
      generalize hC : seC (bl s) = C at *
      have HC := Lib.hid hC
      clear hC
      go_wp2_with (first
        | refine wpList_load_mid rfl 51 (.tmp 3) rfl (w.heap.size + 1) 0 rfl C _ HR2.out.whole Try.underlying51 rfl HI.out ?_
        | refine wpList_store_mid rfl 51 (.tmp 2) (.tmp 15) rfl w.heap.size 0 C.toArray rfl rfl HT.out HI2.out (all_oneCell_toArray H1.out) ?_)
      exact bodyPost_ret (results_cell Try.results21 _ (ad := ⟨w.heap.size, 0, none⟩) rfl (se_load (pre := []) (C := C) (post := []) (by rw [List.append_nil]; exact HF.out) HLEN.out)) rfl ⟨rets1 (by rw [HC.out]), HBF.out⟩
end Go.Proofs.Ytpdflpobhmpbpaa
