/- What takes a content's next byte: a closure over the layer's State. Of every tag of the layer, every length that can be, every content that isn't wrong, and every byte. -/
import Derived.Test.YtoklcnfpeipalaaValSpec
import Derived.Test.YtoklcnfpeipalaaValState
import Derived.Deep.RegionWith
import Derived.Deep.Cut
import Derived.Laws.EntriesVeiled
namespace Go.Proofs.Ytoklcnfpeipalaa
open Go.RowKit Go.PlainAid
set_option linter.unusedVariables false
/-- A closure over one variable. -/
abbrev fnPtr (K : FuncId) (kb : Nat) : Value := .func (.func K) #[] #[.pointer (some ⟨kb, 0, none⟩)]
/-- What takes any byte. -/
abbrev anyFn : Value := .func (.func 16) #[] #[]
theorem any_any (b : Int) (w : World) :
    Calls Try.prog 16 #[.int .u8 b] w fun e w' => e = .returned (.tuple #[anyFn, .bool true]) ∧ w' = w := by
  go_enter Try.func16, Try.ntmps16
  go_wp2
  go_returns
  exact ⟨rfl, rfl⟩
theorem numBe_any (a0 : Int) (ok : Bool) (w : World) :
    Calls Try.prog 41 #[.agg #[.int .u8 a0], .bool ok] w fun e w' => ∃ v, e = .returned (.tuple #[v, .bool ok]) ∧ (ok = true → ∃ kb, v = fnPtr 62 kb ∧ w.heap.size ≤ kb ∧ Row w' kb 76 [.int .u8 a0]) ∧ (ok = false → v = .nilFunc) ∧ Below w.heap.size w w' := by
  have hmf : ∀ (fn : Fn) (first cap : Array Value) (w : World), (Instr.makeFunc fn first cap).run Try.prog w = .ok (.func fn first cap) w := fun _ _ _ _ => rfl
  cases ok
  all_goals
    go_enter Try.func41, Try.ntmps41
    go_wp2
    go_returns
  · exact ⟨_, rfl, (fun h => by cases h), (fun _ => rfl), (Below.refl _ _).alloc (Nat.le_refl _) _⟩
  · exact ⟨_, rfl, (fun _ => ⟨_, rfl, Nat.le_refl _, Row.new w 76 [.int .u8 a0]⟩), (fun h => by cases h), (Below.refl _ _).alloc (Nat.le_refl _) _⟩
set_option maxRecDepth 100000 in
theorem numFn_any {t n : Int} {l : List Int} (h : isNum t) (hv : vOk t n l = true) (hl : (l.length : Int) < n) (hn9 : n ≤ 9223372036854775807) (b : Int) (hb : 0 ≤ b ∧ b ≤ 255) {kb : Nat} {w : World} (hR : Row w kb 76 [.int .u8 (nS t l)]) :
    Calls Try.prog 62 #[.int .u8 b, .pointer (some ⟨kb, 0, none⟩)] w fun e w' => ∃ v, e = .returned (.tuple #[v, .bool (vOk t n (l ++ [b]))]) ∧ (vOk t n (l ++ [b]) = true → ∃ k2, v = fnPtr 62 k2 ∧ w.heap.size ≤ k2 ∧ Row w' k2 76 [.int .u8 (nS t (l ++ [b]))]) ∧ (vOk t n (l ++ [b]) = false → v = .nilFunc) ∧ Below w.heap.size w w' := by
  have HP := Lib.hid (numPush_v h hv hl b hb)
  have HO := Lib.hid numBe_any
  clear hv
  generalize hg0 : nS t l = a0 at *
  have k0 : w.cell? ⟨kb, 0, none⟩ = some (.int .u8 a0) := hR.cell 0
  generalize vOk t n (l ++ [b]) = B at *
  clear hR
  go_enter Try.func62, Try.ntmps62
  go_wp2_with fail
  refine (HP.out _).mono ?_
  rintro e w1 ⟨s1, rfl, hs1, hb1⟩
  have hz := hb1.size
  go_wp2_with fail
  refine (HO.out _ _ _).mono ?_
  rintro e w2 ⟨v, rfl, hk2, hn2, hb2⟩
  have hbf : Below w.heap.size w w2 := hb1.trans (hb2.mono hz)
  have hRf : B = true → ∃ k2, v = fnPtr 62 k2 ∧ w.heap.size ≤ k2 ∧ Row w2 k2 76 [.int .u8 (nS t (l ++ [b]))] := fun hB => by
    obtain ⟨k2, e1, e2, hR2⟩ := hk2 hB
    refine ⟨k2, e1, by omega, ?_⟩
    rw [← hs1 hB]; exact hR2
  have HRf := Lib.hid hRf
  have HNf := Lib.hid hn2
  clear hb1 hb2 hk2 hRf hn2 HO HP
  go_wp2
  go_returns
  exact ⟨_, rfl, HRf.out, HNf.out, hbf⟩
theorem oidBe_any (a0 : Int) (a1 : Bool) (ok : Bool) (w : World) :
    Calls Try.prog 43 #[.agg #[.int .i64 a0, .bool a1], .bool ok] w fun e w' => ∃ v, e = .returned (.tuple #[v, .bool ok]) ∧ (ok = true → ∃ kb, v = fnPtr 65 kb ∧ w.heap.size ≤ kb ∧ Row w' kb 81 [.int .i64 a0, .bool a1]) ∧ (ok = false → v = .nilFunc) ∧ Below w.heap.size w w' := by
  have hmf : ∀ (fn : Fn) (first cap : Array Value) (w : World), (Instr.makeFunc fn first cap).run Try.prog w = .ok (.func fn first cap) w := fun _ _ _ _ => rfl
  cases ok
  all_goals
    go_enter Try.func43, Try.ntmps43
    go_wp2
    go_returns
  · exact ⟨_, rfl, (fun h => by cases h), (fun _ => rfl), (Below.refl _ _).alloc (Nat.le_refl _) _⟩
  · exact ⟨_, rfl, (fun _ => ⟨_, rfl, Nat.le_refl _, Row.new w 81 [.int .i64 a0, .bool a1]⟩), (fun h => by cases h), (Below.refl _ _).alloc (Nat.le_refl _) _⟩
set_option maxRecDepth 100000 in
theorem oidFn_any {n : Int} {l : List Int} (hv : vOk 6 n l = true) (hl : (l.length : Int) < n) (hn9 : n ≤ 9223372036854775807) (b : Int) (hb : 0 ≤ b ∧ b ≤ 255) {kb : Nat} {w : World} (hR : Row w kb 81 [.int .i64 (oLeft n l), .bool (oWith l)]) :
    Calls Try.prog 65 #[.int .u8 b, .pointer (some ⟨kb, 0, none⟩)] w fun e w' => ∃ v, e = .returned (.tuple #[v, .bool (vOk 6 n (l ++ [b]))]) ∧ (vOk 6 n (l ++ [b]) = true → ∃ k2, v = fnPtr 65 k2 ∧ w.heap.size ≤ k2 ∧ Row w' k2 81 [.int .i64 (oLeft n (l ++ [b])), .bool (oWith (l ++ [b]))]) ∧ (vOk 6 n (l ++ [b]) = false → v = .nilFunc) ∧ Below w.heap.size w w' := by
  have HP := Lib.hid (oidPush_v hv hl hn9 b hb)
  have HO := Lib.hid oidBe_any
  clear hv
  generalize hg0 : (oLeft n l) = a0 at *
  generalize hg1 : (oWith l) = a1 at *
  have k0 : w.cell? ⟨kb, 0, none⟩ = some (.int .i64 a0) := hR.cell 0
  have k1 : w.cell? ⟨kb, 1, none⟩ = some (.bool a1) := hR.cell 1
  generalize vOk 6 n (l ++ [b]) = B at *
  clear hR
  go_enter Try.func65, Try.ntmps65
  go_wp2_with fail
  refine (HP.out _).mono ?_
  rintro e w1 ⟨x1, y1, rfl, hs1, hb1⟩
  have hz := hb1.size
  go_wp2_with fail
  refine (HO.out _ _ _ _).mono ?_
  rintro e w2 ⟨v, rfl, hk2, hn2, hb2⟩
  have hbf : Below w.heap.size w w2 := hb1.trans (hb2.mono hz)
  have hRf : B = true → ∃ k2, v = fnPtr 65 k2 ∧ w.heap.size ≤ k2 ∧ Row w2 k2 81 [.int .i64 (oLeft n (l ++ [b])), .bool (oWith (l ++ [b]))] := fun hB => by
    obtain ⟨k2, e1, e2, hR2⟩ := hk2 hB
    refine ⟨k2, e1, by omega, ?_⟩
    rw [← (hs1 hB).1, ← (hs1 hB).2]; exact hR2
  have HRf := Lib.hid hRf
  have HNf := Lib.hid hn2
  clear hb1 hb2 hk2 hRf hn2 HO HP
  go_wp2
  go_returns
  exact ⟨_, rfl, HRf.out, HNf.out, hbf⟩
theorem bitsBe_any (a0 : Int) (a1 : Bool) (a2 : Int) (ok : Bool) (w : World) :
    Calls Try.prog 45 #[.agg #[.int .i64 a0, .bool a1, .int .u8 a2], .bool ok] w fun e w' => ∃ v, e = .returned (.tuple #[v, .bool ok]) ∧ (ok = true → ∃ kb, v = fnPtr 66 kb ∧ w.heap.size ≤ kb ∧ Row w' kb 86 [.int .i64 a0, .bool a1, .int .u8 a2]) ∧ (ok = false → v = .nilFunc) ∧ Below w.heap.size w w' := by
  have hmf : ∀ (fn : Fn) (first cap : Array Value) (w : World), (Instr.makeFunc fn first cap).run Try.prog w = .ok (.func fn first cap) w := fun _ _ _ _ => rfl
  cases ok
  all_goals
    go_enter Try.func45, Try.ntmps45
    go_wp2
    go_returns
  · exact ⟨_, rfl, (fun h => by cases h), (fun _ => rfl), (Below.refl _ _).alloc (Nat.le_refl _) _⟩
  · exact ⟨_, rfl, (fun _ => ⟨_, rfl, Nat.le_refl _, Row.new w 86 [.int .i64 a0, .bool a1, .int .u8 a2]⟩), (fun h => by cases h), (Below.refl _ _).alloc (Nat.le_refl _) _⟩
set_option maxRecDepth 100000 in
theorem bitsFn_any {n : Int} {l : List Int} (hB : IsB l) (hv : vOk 3 n l = true) (hl : (l.length : Int) < n) (hn9 : n ≤ 9223372036854775807) (b : Int) (hb : 0 ≤ b ∧ b ≤ 255) {kb : Nat} {w : World} (hR : Row w kb 86 [.int .i64 (oLeft n l), .bool (decide (0 < l.length)), .int .u8 (bU l)]) :
    Calls Try.prog 66 #[.int .u8 b, .pointer (some ⟨kb, 0, none⟩)] w fun e w' => ∃ v, e = .returned (.tuple #[v, .bool (vOk 3 n (l ++ [b]))]) ∧ (vOk 3 n (l ++ [b]) = true → ∃ k2, v = fnPtr 66 k2 ∧ w.heap.size ≤ k2 ∧ Row w' k2 86 [.int .i64 (oLeft n (l ++ [b])), .bool (decide (0 < (l ++ [b]).length)), .int .u8 (bU (l ++ [b]))]) ∧ (vOk 3 n (l ++ [b]) = false → v = .nilFunc) ∧ Below w.heap.size w w' := by
  have HP := Lib.hid (bsPush_v hB hv hl hn9 b hb)
  have HO := Lib.hid bitsBe_any
  clear hv
  generalize hg0 : (oLeft n l) = a0 at *
  generalize hg1 : (decide (0 < l.length)) = a1 at *
  generalize hg2 : (bU l) = a2 at *
  have k0 : w.cell? ⟨kb, 0, none⟩ = some (.int .i64 a0) := hR.cell 0
  have k1 : w.cell? ⟨kb, 1, none⟩ = some (.bool a1) := hR.cell 1
  have k2 : w.cell? ⟨kb, 2, none⟩ = some (.int .u8 a2) := hR.cell 2
  generalize vOk 3 n (l ++ [b]) = B at *
  clear hR
  go_enter Try.func66, Try.ntmps66
  go_wp2_with fail
  refine (HP.out _).mono ?_
  rintro e w1 ⟨x1, y1, z1, rfl, hs1, hb1⟩
  have hz := hb1.size
  go_wp2_with fail
  refine (HO.out _ _ _ _ _).mono ?_
  rintro e w2 ⟨v, rfl, hk2, hn2, hb2⟩
  have hbf : Below w.heap.size w w2 := hb1.trans (hb2.mono hz)
  have hRf : B = true → ∃ k2, v = fnPtr 66 k2 ∧ w.heap.size ≤ k2 ∧ Row w2 k2 86 [.int .i64 (oLeft n (l ++ [b])), .bool (decide (0 < (l ++ [b]).length)), .int .u8 (bU (l ++ [b]))] := fun hB => by
    obtain ⟨k2, e1, e2, hR2⟩ := hk2 hB
    refine ⟨k2, e1, by omega, ?_⟩
    rw [← (hs1 hB).1, ← (hs1 hB).2.1, ← (hs1 hB).2.2]; exact hR2
  have HRf := Lib.hid hRf
  have HNf := Lib.hid hn2
  clear hb1 hb2 hk2 hRf hn2 HO HP
  go_wp2
  go_returns
  exact ⟨_, rfl, HRf.out, HNf.out, hbf⟩
theorem whenBe_any (a0 : Int) (a1 : Int) (a2 : Int) (a3 : Int) (a4 : Int) (ok : Bool) (w : World) :
    Calls Try.prog 47 #[.agg #[.int .u8 a0, .int .i64 a1, .int .i64 a2, .int .i64 a3, .int .i64 a4], .bool ok] w fun e w' => ∃ v, e = .returned (.tuple #[v, .bool ok]) ∧ (ok = true → ∃ kb, v = fnPtr 67 kb ∧ w.heap.size ≤ kb ∧ Row w' kb 92 [.int .u8 a0, .int .i64 a1, .int .i64 a2, .int .i64 a3, .int .i64 a4]) ∧ (ok = false → v = .nilFunc) ∧ Below w.heap.size w w' := by
  have hmf : ∀ (fn : Fn) (first cap : Array Value) (w : World), (Instr.makeFunc fn first cap).run Try.prog w = .ok (.func fn first cap) w := fun _ _ _ _ => rfl
  cases ok
  all_goals
    go_enter Try.func47, Try.ntmps47
    go_wp2
    go_returns
  · exact ⟨_, rfl, (fun h => by cases h), (fun _ => rfl), (Below.refl _ _).alloc (Nat.le_refl _) _⟩
  · exact ⟨_, rfl, (fun _ => ⟨_, rfl, Nat.le_refl _, Row.new w 92 [.int .u8 a0, .int .i64 a1, .int .i64 a2, .int .i64 a3, .int .i64 a4]⟩), (fun h => by cases h), (Below.refl _ _).alloc (Nat.le_refl _) _⟩
set_option maxRecDepth 100000 in
theorem whenFn_any {t n : Int} {l : List Int} (h : isWhen t) (hv : vOk t n l = true) (hl : (l.length : Int) < n) (hn9 : n ≤ 9223372036854775807) (b : Int) (hb : 0 ≤ b ∧ b ≤ 255) {kb : Nat} {w : World} (hR : Row w kb 92 [.int .u8 ((wSt t l).p), .int .i64 ((wSt t l).l), .int .i64 ((wSt t l).v), .int .i64 ((wSt t l).y), .int .i64 ((wSt t l).m)]) :
    Calls Try.prog 67 #[.int .u8 b, .pointer (some ⟨kb, 0, none⟩)] w fun e w' => ∃ v, e = .returned (.tuple #[v, .bool (vOk t n (l ++ [b]))]) ∧ (vOk t n (l ++ [b]) = true → ∃ k2, v = fnPtr 67 k2 ∧ w.heap.size ≤ k2 ∧ Row w' k2 92 [.int .u8 ((wSt t (l ++ [b])).p), .int .i64 ((wSt t (l ++ [b])).l), .int .i64 ((wSt t (l ++ [b])).v), .int .i64 ((wSt t (l ++ [b])).y), .int .i64 ((wSt t (l ++ [b])).m)]) ∧ (vOk t n (l ++ [b]) = false → v = .nilFunc) ∧ Below w.heap.size w w' := by
  have HP := Lib.hid (whenPush_v h hv b hb)
  have HO := Lib.hid whenBe_any
  clear hv
  generalize hg : wSt t l = S at *
  obtain ⟨a0, a1, a2, a3, a4⟩ := S
  have k0 : w.cell? ⟨kb, 0, none⟩ = some (.int .u8 a0) := hR.cell 0
  have k1 : w.cell? ⟨kb, 1, none⟩ = some (.int .i64 a1) := hR.cell 1
  have k2 : w.cell? ⟨kb, 2, none⟩ = some (.int .i64 a2) := hR.cell 2
  have k3 : w.cell? ⟨kb, 3, none⟩ = some (.int .i64 a3) := hR.cell 3
  have k4 : w.cell? ⟨kb, 4, none⟩ = some (.int .i64 a4) := hR.cell 4
  generalize vOk t n (l ++ [b]) = B at *
  clear hR
  go_enter Try.func67, Try.ntmps67
  go_wp2_with fail
  refine (HP.out _).mono ?_
  rintro e w1 ⟨⟨p1, q1, v1, y1, m1⟩, rfl, hs1, hb1⟩
  have hz := hb1.size
  go_wp2_with fail
  refine (HO.out _ _ _ _ _ _ _).mono ?_
  rintro e w2 ⟨v, rfl, hk2, hn2, hb2⟩
  have hbf : Below w.heap.size w w2 := hb1.trans (hb2.mono hz)
  have hRf : B = true → ∃ k2, v = fnPtr 67 k2 ∧ w.heap.size ≤ k2 ∧ Row w2 k2 92 [.int .u8 ((wSt t (l ++ [b])).p), .int .i64 ((wSt t (l ++ [b])).l), .int .i64 ((wSt t (l ++ [b])).v), .int .i64 ((wSt t (l ++ [b])).y), .int .i64 ((wSt t (l ++ [b])).m)] := fun hB => by
    obtain ⟨k2, e1, e2, hR2⟩ := hk2 hB
    refine ⟨k2, e1, by omega, ?_⟩
    rw [← hs1 hB]; exact hR2
  have HRf := Lib.hid hRf
  have HNf := Lib.hid hn2
  clear hb1 hb2 hk2 hRf hn2 HO HP
  go_wp2
  go_returns
  exact ⟨_, rfl, HRf.out, HNf.out, hbf⟩
theorem textBe_any (a0 : Int) (a1 : Int) (a2 : Int) (a3 : Int) (a4 : Int) (ok : Bool) (w : World) :
    Calls Try.prog 49 #[.agg #[.int .i64 a0, .int .i64 a1, .int .i64 a2, .int .u8 a3, .int .u8 a4], .bool ok] w fun e w' => ∃ v, e = .returned (.tuple #[v, .bool ok]) ∧ (ok = true → ∃ kb, v = fnPtr 68 kb ∧ w.heap.size ≤ kb ∧ Row w' kb 99 [.int .i64 a0, .int .i64 a1, .int .i64 a2, .int .u8 a3, .int .u8 a4]) ∧ (ok = false → v = .nilFunc) ∧ Below w.heap.size w w' := by
  have hmf : ∀ (fn : Fn) (first cap : Array Value) (w : World), (Instr.makeFunc fn first cap).run Try.prog w = .ok (.func fn first cap) w := fun _ _ _ _ => rfl
  cases ok
  all_goals
    go_enter Try.func49, Try.ntmps49
    go_wp2
    go_returns
  · exact ⟨_, rfl, (fun h => by cases h), (fun _ => rfl), (Below.refl _ _).alloc (Nat.le_refl _) _⟩
  · exact ⟨_, rfl, (fun _ => ⟨_, rfl, Nat.le_refl _, Row.new w 99 [.int .i64 a0, .int .i64 a1, .int .i64 a2, .int .u8 a3, .int .u8 a4]⟩), (fun h => by cases h), (Below.refl _ _).alloc (Nat.le_refl _) _⟩
set_option maxRecDepth 100000 in
theorem textFn_any {t n : Int} {l : List Int} (h : isText t) (hv : vOk t n l = true) (hl : (l.length : Int) < n) (hn9 : n ≤ 9223372036854775807) (b : Int) (hb : 0 ≤ b ∧ b ≤ 255) {kb : Nat} {w : World} (hR : Row w kb 99 [.int .i64 ((tSt t n l).p), .int .i64 ((tSt t n l).l), .int .i64 ((tSt t n l).v), .int .u8 ((tSt t n l).y), .int .u8 ((tSt t n l).m)]) :
    Calls Try.prog 68 #[.int .u8 b, .pointer (some ⟨kb, 0, none⟩)] w fun e w' => ∃ v, e = .returned (.tuple #[v, .bool (vOk t n (l ++ [b]))]) ∧ (vOk t n (l ++ [b]) = true → ∃ k2, v = fnPtr 68 k2 ∧ w.heap.size ≤ k2 ∧ Row w' k2 99 [.int .i64 ((tSt t n (l ++ [b])).p), .int .i64 ((tSt t n (l ++ [b])).l), .int .i64 ((tSt t n (l ++ [b])).v), .int .u8 ((tSt t n (l ++ [b])).y), .int .u8 ((tSt t n (l ++ [b])).m)]) ∧ (vOk t n (l ++ [b]) = false → v = .nilFunc) ∧ Below w.heap.size w w' := by
  have HP := Lib.hid (textPush_v h hv hl hn9 b hb)
  have HO := Lib.hid textBe_any
  clear hv
  generalize hg : tSt t n l = S at *
  obtain ⟨a0, a1, a2, a3, a4⟩ := S
  have k0 : w.cell? ⟨kb, 0, none⟩ = some (.int .i64 a0) := hR.cell 0
  have k1 : w.cell? ⟨kb, 1, none⟩ = some (.int .i64 a1) := hR.cell 1
  have k2 : w.cell? ⟨kb, 2, none⟩ = some (.int .i64 a2) := hR.cell 2
  have k3 : w.cell? ⟨kb, 3, none⟩ = some (.int .u8 a3) := hR.cell 3
  have k4 : w.cell? ⟨kb, 4, none⟩ = some (.int .u8 a4) := hR.cell 4
  generalize vOk t n (l ++ [b]) = B at *
  clear hR
  go_enter Try.func68, Try.ntmps68
  go_wp2_with fail
  refine (HP.out _).mono ?_
  rintro e w1 ⟨⟨p1, q1, v1, y1, m1⟩, rfl, hs1, hb1⟩
  have hz := hb1.size
  go_wp2_with fail
  refine (HO.out _ _ _ _ _ _ _).mono ?_
  rintro e w2 ⟨v, rfl, hk2, hn2, hb2⟩
  have hbf : Below w.heap.size w w2 := hb1.trans (hb2.mono hz)
  have hRf : B = true → ∃ k2, v = fnPtr 68 k2 ∧ w.heap.size ≤ k2 ∧ Row w2 k2 99 [.int .i64 ((tSt t n (l ++ [b])).p), .int .i64 ((tSt t n (l ++ [b])).l), .int .i64 ((tSt t n (l ++ [b])).v), .int .u8 ((tSt t n (l ++ [b])).y), .int .u8 ((tSt t n (l ++ [b])).m)] := fun hB => by
    obtain ⟨k2, e1, e2, hR2⟩ := hk2 hB
    refine ⟨k2, e1, by omega, ?_⟩
    rw [← hs1 hB]; exact hR2
  have HRf := Lib.hid hRf
  have HNf := Lib.hid hn2
  clear hb1 hb2 hk2 hRf hn2 HO HP
  go_wp2
  go_returns
  exact ⟨_, rfl, HRf.out, HNf.out, hbf⟩
end Go.Proofs.Ytoklcnfpeipalaa
