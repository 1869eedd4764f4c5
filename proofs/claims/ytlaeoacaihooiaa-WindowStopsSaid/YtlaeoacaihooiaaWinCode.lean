/- The landed code's window: what its memory is, and what each of its calls gives. -/
import Derived.Test.YtlaeoacaihooiaaWinSpec
import Derived.Test.YtlaeoacaihooiaaSrcIs
namespace Go.Proofs.Ytlaeoacaihooiaa
open Go.RowKit Go.PlainAid
set_option linter.unusedVariables false
def winCells (fp : Option Addr) (m : Int) (z : Nat) (held : ByteArray) (e : Int) (at_ : Nat) : List Value := [.pointer fp, .int .i64 m, .int .i64 (z : Int), .string held, .int .i64 e, .int .i64 (at_ : Int)]
/-- Block k holds a window over the source at g. -/
def WinAt (w : World) (k g : Nat) (F : Nat → Prop) (D : ByteArray) (S : List (Int × Int)) (m : Int) (z : Nat) (s : WS) : Prop :=
  s.ok D S m z ∧ (1 ≤ m ∧ m ≤ 65536 ∧ z ≤ 1000) ∧ (∀ i, F i ↔ i = k ∨ i = g) ∧ k ≠ g ∧ SrcAt w g D S s.g s.c s.o ∧ ∃ fp, Row w k 54 (winCells fp m z (D.extract s.at_ s.g) s.e s.at_) ∧ (s.e = 0 → fp = some ⟨g, 0, none⟩)
theorem Chg.refl (F : Nat → Prop) (w : World) : Chg F w w := ⟨rfl, rfl, rfl, Nat.le_refl _, fun _ _ _ => rfl⟩
theorem Chg.trans {F : Nat → Prop} {a b c : World} (h : Chg F a b) (h' : Chg F b c) : Chg F a c :=
  ⟨h'.os.trans h.os, h'.tape.trans h.tape, h'.output.trans h.output, Nat.le_trans h.size h'.size, fun i hi hf => (h'.block i (Nat.lt_of_lt_of_le hi h.size) hf).trans (h.block i hi hf)⟩
theorem Chg.of_grown {F : Nat → Prop} {w w' : World} {g : Nat} (h : w.grownBy w' (some g)) (hg : F g) : Chg F w w' :=
  ⟨h.os, h.tape, h.output, h.size, fun i hi hf => h.block i hi (fun e => hf (by cases e; exact hg))⟩
theorem Chg.of_below {F : Nat → Prop} {w w' : World} (h : Below w.heap.size w w') : Chg F w w' :=
  ⟨h.os, h.tape, h.output, h.size, fun i hi _ => h.block i hi⟩
theorem Chg.set {F : Nat → Prop} {a w : World} (h : Chg F a w) {g : Nat} (hg : F g) (o : Nat) (v : Value) : Chg F a (w.setCell ⟨g, o, none⟩ v) :=
  ⟨h.os, h.tape, h.output, by simpa using h.size, fun i hi hf => (Below.heap_setCell w _ v i (fun e => hf (by rw [e]; exact hg))).trans (h.block i hi hf)⟩
theorem Chg.drew {F : Nat → Prop} {a w : World} (h : Chg F a w) : Chg F a w.drew := ⟨h.os, h.tape, h.output, h.size, h.block⟩
theorem nearest_any (n low high : Int) (hl : low ≤ high) (w : World) :
    Calls Try.prog 23 #[.int .i64 n, .int .i64 low, .int .i64 high] w fun e w' => e = .returned (.int .i64 (clampI n low high)) ∧ w = w' := by
  have HC : Hid (max low (min n high) = clampI n low high) := Lib.hid (by unfold clampI; (repeat' split) <;> omega)
  go_enter Try.func23, Try.ntmps23
  go_wp2
  go_ret
  exact ⟨ret_int HC.out, rfl⟩
theorem errorOf_any (o : Int) (w : World) :
    Calls Try.prog 30 #[.int .i64 o] w fun e w' => e = .returned (.int .i64 (wErr o)) ∧ w = w' := by
  by_cases h1 : o = 1
  · subst h1
    go_enter Try.func30, Try.ntmps30
    go_wp2
    go_ret
    exact ⟨rfl, rfl⟩
  · have b1 : (o == 1) = false := by simpa using h1
    by_cases h2 : o = 2
    · subst h2
      clear h1 b1
      go_enter Try.func30, Try.ntmps30
      go_wp2
      go_ret
      exact ⟨rfl, rfl⟩
    · have b2 : (o == 2) = false := by simpa using h2
      have HO : Hid (wErr o = 0) := Lib.hid (by simp [wErr, h1, h2])
      clear h1 h2
      go_enter Try.func30, Try.ntmps30
      go_wp2
      go_ret
      exact ⟨ret_int HO.out.symm, rfl⟩
theorem winAt_at {w : World} {k g : Nat} {F : Nat → Prop} {D : ByteArray} {S : List (Int × Int)} {m : Int} {z : Nat} {s : WS} (h : WinAt w k g F D S m z s) :
    Calls Try.prog 16 #[.pointer (some ⟨k, 0, none⟩)] w fun e w' => e = .returned (.int .i64 (s.at_ : Int)) ∧ w = w' := by
  obtain ⟨_, _, _, _, _, fp, hr, _⟩ := h
  have c5 : w.cell? ⟨k, 5, none⟩ = some (.int .i64 (s.at_ : Int)) := hr.cell 5
  clear hr
  go_enter Try.func16, Try.ntmps16
  go_wp2
  go_ret
  exact ⟨rfl, rfl⟩
theorem winAt_held {w : World} {k g : Nat} {F : Nat → Prop} {D : ByteArray} {S : List (Int × Int)} {m : Int} {z : Nat} {s : WS} (h : WinAt w k g F D S m z s) :
    Calls Try.prog 17 #[.pointer (some ⟨k, 0, none⟩)] w fun e w' => e = .returned (.int .i64 ((s.g - s.at_ : Nat) : Int)) ∧ w = w' := by
  obtain ⟨hok, _, _, _, _, fp, hr, _⟩ := h
  have c3 : w.cell? ⟨k, 3, none⟩ = some (.string (D.extract s.at_ s.g)) := hr.cell 3
  have HS : Hid (((D.extract s.at_ s.g).size : Int) = ((s.g - s.at_ : Nat) : Int)) := Lib.hid (by rw [ByteArray.size_extract, Nat.min_eq_left hok.top])
  clear hr hok
  generalize D.extract s.at_ s.g = d at *
  go_enter Try.func17, Try.ntmps17
  go_wp2
  go_ret
  exact ⟨ret_int HS.out, rfl⟩
theorem winNew_any (size zeros : Int) (g : Nat) (D : ByteArray) (S : List (Int × Int)) (w : World) (h : SrcAt w g D S 0 0 0) (hs : InI size) (hz : InI zeros) :
    Calls Try.prog 12 #[.int .i64 size, .int .i64 zeros, .pointer (some ⟨g, 0, none⟩)] w fun e w' => ∃ k F, e = .returned (.pointer (some ⟨k, 0, none⟩)) ∧ (∀ i, F i → i = g ∨ w.heap.size ≤ i) ∧ WinAt w' k g F D S (clampI size 1 65536) (clampI zeros 0 1000).toNat WS.start ∧ Below w.heap.size w w' := by
  obtain ⟨hm1, hm2⟩ := clampI_in (n := size) (low := 1) (high := 65536) (by decide)
  obtain ⟨hz1, hz2⟩ := clampI_in (n := zeros) (low := 0) (high := 1000) (by decide)
  have HCM := Lib.hid (fun w => nearest_any size 1 65536 (by decide) w)
  have HCZ := Lib.hid (fun w => nearest_any zeros 0 1000 (by decide) w)
  generalize clampI size 1 65536 = m at *
  generalize clampI zeros 0 1000 = zi at *
  obtain ⟨z, rfl⟩ := Int.eq_ofNat_of_zero_le hz1
  have HH := Lib.hid h
  have hlt := h.lt
  have he0 : D.extract 0 0 = (⟨#[]⟩ : ByteArray) := by apply empty_of; rw [ByteArray.size_extract]; omega
  clear h
  go_enter Try.func12, Try.ntmps12
  go_wp2_with fail
  refine (HCM.out _).mono ?_
  rintro e w1 ⟨rfl, rfl⟩
  go_wp2_with fail
  refine (HCZ.out _).mono ?_
  rintro e w1 ⟨rfl, rfl⟩
  go_wp2_with fail
  go_ret
  have hB : Below w.heap.size w (w.alloc (.cells (winCells (some ⟨g, 0, none⟩) m z ⟨#[]⟩ 0 0).toArray 54)) := (Below.refl _ _).alloc (Nat.le_refl _) _
  refine ⟨w.heap.size, fun i => i = w.heap.size ∨ i = g, rfl, fun i hi => by rcases hi with rfl | rfl; exact .inr (Nat.le_refl _); exact .inl rfl, ⟨WS.start_ok hm1, ⟨hm1, hm2, by omega⟩, fun i => Iff.rfl, by omega, HH.out.below hB, some ⟨g, 0, none⟩, ?_, fun _ => rfl⟩, hB⟩
  show Row _ _ _ (winCells (some ⟨g, 0, none⟩) m z (D.extract 0 0) 0 0)
  rw [he0]
  exact Row.new w 54 (winCells (some ⟨g, 0, none⟩) m z ⟨#[]⟩ 0 0)
end Go.Proofs.Ytlaeoacaihooiaa
