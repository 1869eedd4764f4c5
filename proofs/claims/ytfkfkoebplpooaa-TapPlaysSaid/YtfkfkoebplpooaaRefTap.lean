/- The reference's tap: a box of four cells. -/
import Derived.Test.YtfkfkoebplpooaaTapSpec
import Derived.Test.YtfkfkoebplpooaaByteSl
import Derived.Test.YtfkfkoebplpooaaMem2
import Derived.Deep.QuietTactic
import Derived.BigQuiet
import Derived.Handy
namespace Go.Proofs.Ytfkfkoebplpooaa
open Go.RowKit Go.PlainAid
set_option linter.unusedVariables false
def tapC (s : TpS) : List Value := [.string s.head, .string s.part, .bool s.begun, .bool s.on]
def RT (w : World) (g : Nat) (s : TpS) : Prop := Row w g 27 (tapC s)
theorem tset {w X : World} {k : Nat} (h : Chg (fun i => i = k) w X) (i : Nat) (v : Value) : Chg (fun i => i = k) w (X.setCell ⟨k, i, none⟩ v) :=
  ⟨h.os, h.tape, h.output, by simpa using h.size, fun j hj hk => (Below.heap_setCell X ⟨k, i, none⟩ v j hk).trans (h.block j hj hk)⟩
theorem talloc {w X : World} {k : Nat} (h : Chg (fun i => i = k) w X) (o : Obj) : Chg (fun i => i = k) w (X.alloc o) :=
  h.trans (Chg.of_below ((Below.refl _ _).alloc (Nat.le_refl _) o)) (F' := fun _ => False) (fun _ h => h.elim)
theorem drawn_belowT (w : World) (n : Nat) : Below w.heap.size w (w.drewN n) := ⟨rfl, rfl, rfl, Nat.le_refl _, fun _ _ => rfl⟩
set_option maxRecDepth 100000 in
set_option maxHeartbeats 8000000 in
theorem refTap_push {w : World} {g : Nat} {s : TpS} (hR : RT w g s) (b : Int) (hb : 0 ≤ b ∧ b ≤ 255) (hz : s.head.size < 500000 ∧ s.part.size < 500000) :
    Calls Try.prog 10 #[.pointer (some ⟨g, 0, none⟩), .int .u8 b] w fun r w' => r = .returned (.tuple #[]) ∧ RT w' g (s.push b) ∧ Chg (fun i => i = g) w w' := by
  obtain ⟨hd, pt, bg, on⟩ := s
  obtain ⟨z1, z2⟩ := hz
  have z1 : hd.size < 500000 := z1
  have z2 : pt.size < 500000 := z2
  have hR : Row w g 27 [.string hd, .string pt, .bool bg, .bool on] := hR
  have one : (strOfNums [b]).size = 1 := strOfNums_size [b]
  have o1 : ¬ 9223372036854775807 < hd.size + (strOfNums [b]).size := by rw [one]; omega
  have o2 : ¬ 9223372036854775807 < pt.size + (strOfNums [b]).size := by rw [one]; omega
  have p0 : w.cell? ⟨g, 0, none⟩ = some (.string hd) := hR.cell 0
  have f0 := hR.frozen 0
  have a1 : (w.alloc (.cells #[.int .u8 b] 5)).cell? ⟨g, 0, none⟩ = some (.string hd) := (hR.alloc _).cell 0
  have a2 := (hR.alloc (.cells #[.int .u8 b] 5)).frozen 0
  have a3 : (w.alloc (.cells #[.int .u8 b] 5)).cell? ⟨w.heap.size, 0, none⟩ = some (.int .u8 b) := by simp
  have a4 := conv_at b _ _ a3
  have a5 := conv_at b (w.alloc (.cells #[.int .u8 b] 5)).drew w.heap.size a3
  have HX := Lib.hid (And.intro ((hR.alloc (.cells #[.int .u8 b] 5)).set 0 (.string (hd ++ strOfNums [b]))) (tset (talloc (Chg.of_below (Below.refl w.heap.size w) (F := fun i => i = g)) (.cells #[.int .u8 b] 5)) 0 (.string (hd ++ strOfNums [b]))))
  have HY : Hid ((TpS.mk hd pt bg on).push b = ⟨hd ++ strOfNums [b], if on = true then pt ++ strOfNums [b] else pt, bg, on⟩) := Lib.hid rfl
  unfold RT
  rw [HY.out]
  clear HY hR one
  go_enter Try.func10, Try.ntmps10
  go_wp2_with fail
  go_region
  obtain ⟨W, hW⟩ : ∃ W, ((w.alloc (.cells #[.int .u8 b] 5)).setCell ⟨g, 0, none⟩ (.string (hd ++ strOfNums [b]))).drew = W := ⟨_, rfl⟩
  have HC : Hid (Chg (fun i => i = g) w W) := by subst hW; exact Lib.hid ⟨HX.out.2.os, HX.out.2.tape, HX.out.2.output, HX.out.2.size, HX.out.2.block⟩
  have hR : Row W g 27 [.string (hd ++ strOfNums [b]), .string pt, .bool bg, .bool on] := by subst hW; exact HX.out.1
  rw [hW]
  clear hW p0 f0 a1 a2 a3 a4 a5 HX o1
  have p3 : W.cell? ⟨g, 3, none⟩ = some (.bool on) := hR.cell 3
  cases on with
  | false =>
    have HR := Lib.hid hR
    clear hR
    go_wp2
    go_returns
    exact ⟨rfl, HR.out, HC.out⟩
  | true =>
    have p1 : W.cell? ⟨g, 1, none⟩ = some (.string pt) := hR.cell 1
    have f1 := hR.frozen 1
    have a1 : (W.alloc (.cells #[.int .u8 b] 5)).cell? ⟨g, 1, none⟩ = some (.string pt) := (hR.alloc _).cell 1
    have a2 := (hR.alloc (.cells #[.int .u8 b] 5)).frozen 1
    have a3 : (W.alloc (.cells #[.int .u8 b] 5)).cell? ⟨W.heap.size, 0, none⟩ = some (.int .u8 b) := by simp
    have a4 := conv_at b _ _ a3
    have a5 := conv_at b (W.alloc (.cells #[.int .u8 b] 5)).drew W.heap.size a3
    have HX := Lib.hid (And.intro ((hR.alloc (.cells #[.int .u8 b] 5)).set 1 (.string (pt ++ strOfNums [b]))) (tset (talloc HC.out (.cells #[.int .u8 b] 5)) 1 (.string (pt ++ strOfNums [b]))))
    clear hR HC
    go_wp2_with fail
    go_region
    clear a1 a2 a3 a4 a5 p1 f1 p3
    go_wp2
    go_returns
    exact ⟨rfl, HX.out.1, ⟨HX.out.2.os, HX.out.2.tape, HX.out.2.output, HX.out.2.size, HX.out.2.block⟩⟩
theorem refTap_begin {w : World} {g : Nat} {s : TpS} (hR : RT w g s) (h : ByteArray) :
    Calls Try.prog 13 #[.pointer (some ⟨g, 0, none⟩), .string h] w fun r w' => r = .returned (.tuple #[]) ∧ RT w' g (s.start h) ∧ Chg (fun i => i = g) w w' := by
  obtain ⟨hd, pt, bg, on⟩ := s
  have hR : Row w g 27 [.string hd, .string pt, .bool bg, .bool on] := hR
  have f1 := hR.frozen 1
  have f2 := (hR.set 1 (.string h)).frozen 2
  have f3 := ((hR.set 1 (.string h)).set 2 (.bool true)).frozen 3
  have p1 : w.cell? ⟨g, 1, none⟩ = some (.string pt) := hR.cell 1
  have p2 : (w.setCell ⟨g, 1, none⟩ (.string h)).cell? ⟨g, 2, none⟩ = some (.bool bg) := (hR.set 1 (.string h)).cell 2
  have p3 : ((w.setCell ⟨g, 1, none⟩ (.string h)).setCell ⟨g, 2, none⟩ (.bool true)).cell? ⟨g, 3, none⟩ = some (.bool on) := ((hR.set 1 (.string h)).set 2 (.bool true)).cell 3
  have HX := Lib.hid (And.intro (((hR.set 1 (.string h)).set 2 (.bool true)).set 3 (.bool true)) (tset (tset (tset (Chg.of_below (Below.refl w.heap.size w) (F := fun i => i = g)) 1 (.string h)) 2 (.bool true)) 3 (.bool true)))
  clear hR
  go_enter Try.func13, Try.ntmps13
  go_wp2
  go_returns
  exact ⟨rfl, HX.out.1, HX.out.2⟩
end Go.Proofs.Ytfkfkoebplpooaa
