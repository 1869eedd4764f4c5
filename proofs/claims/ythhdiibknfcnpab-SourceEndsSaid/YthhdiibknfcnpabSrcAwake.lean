/- The document's fixed answers of layer 3 hold: 'awake' returns true; what 'great' returns; a copy of steps by append. -/
import Derived.Test.YthhdiibknfcnpabSrcCall
import Derived.Deep.CutRange
import Derived.Deep.QuietTactic
import Derived.BigQuiet
namespace Go.Proofs.Ythhdiibknfcnpab
open Go.RowKit Go.PlainAid
set_option linter.unusedVariables false
theorem Came.row {w : World} {g : Nat} {t : TypeId} {L : List Value} (h : Row w g t L) : Came w (some ⟨g, 0, none⟩) L := by
  intro j u hj
  refine ⟨_, rfl, ?_⟩
  rw [show (⟨g, 0, none⟩ : Addr).add j = ⟨g, j, none⟩ by unfold Addr.add; split <;> simp_all, h.cell]; exact hj
theorem srcRead_is (g : Nat) (D : ByteArray) (S : List (Int × Int)) (at_ calls : Nat) (over n : Int) (k : Nat) (ov : Int) (part : ByteArray) (hk : sTake D S at_ calls over n = k) (ho : sOver D S at_ calls over n = ov) (hp : D.extract at_ (at_ + k) = part) (hn : InI n) (hD : D.size ≤ 100000000) (hS : S.length ≤ 1000000) (hE : ∀ s ∈ S, InI s.1 ∧ InI s.2) (hc : calls ≤ 1000000) (a w : World) (h : SrcAt w g D S at_ calls over) (hg : a.heap.size ≤ g) (hB : Below a.heap.size a w) :
    Calls Try.prog 11 #[.pointer (some ⟨g, 0, none⟩), .int .i64 n] w fun e w' => e = .returned (.tuple #[.string part, .int .i64 ov]) ∧ SrcAt w' g D S (at_ + k) (calls + 1) ov ∧ Below a.heap.size a w' ∧ w.grownBy w' (some g) := by
  subst hk ho hp
  refine (srcRead_any g D S at_ calls over n w h hn hD hS hE hc).mono ?_
  rintro e w' ⟨h1, h2, h3⟩
  exact ⟨h1, h2, grown_to_below hB hg h3, h3⟩
def dA : ByteArray := ⟨#[97, 98, 99]⟩
def sA : List (Int × Int) := [(1, 0), (0, 0), (5, 1)]
theorem sA_in : ∀ s ∈ sA, InI s.1 ∧ InI s.2 := by
  intro s hs
  simp [sA] at hs
  rcases hs with rfl | rfl | rfl <;> (unfold InI; decide)
set_option maxRecDepth 100000 in
set_option maxHeartbeats 4000000 in
theorem awake03_any (w : World) :
    Calls Try.prog 8 #[] w fun e w' => e = .returned (.bool true) ∧ Below w.heap.size w w' := by
  have hr := Row.new w 36 (pvs sA)
  have HN := Lib.hid (srcNew_any dA sA (some ⟨w.heap.size, 0, none⟩) 3 (w.alloc (.cells (pvs sA).toArray 36)) (by decide) (Came.row hr) (by decide))
  have hB0 : Below w.heap.size w (w.alloc (.cells (pvs sA).toArray 36)) := (Below.refl _ _).alloc (Nat.le_refl _) _
  have hA0 : w.heap.size ≤ (w.alloc (.cells (pvs sA).toArray 36)).heap.size := by simp
  have HR1 := Lib.hid (fun g w1 (h : SrcAt w1 g dA sA 0 0 0) (hg : w.heap.size ≤ g) (hB : Below w.heap.size w w1) => srcRead_is g dA sA 0 0 0 9 1 0 ⟨#[97]⟩ (by decide +kernel) (by decide +kernel) (by decide +kernel) (by unfold InI; decide) (by decide) (by decide) sA_in (by decide) w w1 h hg hB)
  have HR2 := Lib.hid (fun g w1 (h : SrcAt w1 g dA sA 1 1 0) (hg : w.heap.size ≤ g) (hB : Below w.heap.size w w1) => srcRead_is g dA sA 1 1 0 9 0 0 ⟨#[]⟩ (by decide +kernel) (by decide +kernel) (by decide +kernel) (by unfold InI; decide) (by decide) (by decide) sA_in (by decide) w w1 h hg hB)
  have HR3 := Lib.hid (fun g w1 (h : SrcAt w1 g dA sA 1 2 0) (hg : w.heap.size ≤ g) (hB : Below w.heap.size w w1) => srcRead_is g dA sA 1 2 0 9 2 1 ⟨#[98, 99]⟩ (by decide +kernel) (by decide +kernel) (by decide +kernel) (by unfold InI; decide) (by decide) (by decide) sA_in (by decide) w w1 h hg hB)
  have HR4 := Lib.hid (fun g w1 (h : SrcAt w1 g dA sA 3 3 1) (hg : w.heap.size ≤ g) (hB : Below w.heap.size w w1) => srcRead_is g dA sA 3 3 1 9 0 1 ⟨#[]⟩ (by decide +kernel) (by decide +kernel) (by decide +kernel) (by unfold InI; decide) (by decide) (by decide) sA_in (by decide) w w1 h hg hB)
  clear hr
  go_enter Try.func8, Try.ntmps8
  go_wp2_with fail
  refine HN.out.mono ?_
  rintro e w1 ⟨g, rfl, hg, hs, hB1⟩
  have hB1 := hB0.trans (hB1.mono (by simp))
  have hg : w.heap.size ≤ g := Nat.le_trans hA0 hg
  have HS := Lib.hid hs
  clear hs HN hB0 hA0
  go_wp2_with fail
  refine (HR1.out g _ HS.out hg hB1).mono ?_
  rintro e w2 ⟨rfl, hs, hB2, _⟩
  have HS2 := Lib.hid hs
  clear hs
  go_wp2_with fail
  refine (HR2.out g _ HS2.out hg hB2).mono ?_
  rintro e w3 ⟨rfl, hs, hB3, _⟩
  have HS3 := Lib.hid hs
  clear hs
  go_wp2_with fail
  refine (HR3.out g _ HS3.out hg hB3).mono ?_
  rintro e w4 ⟨rfl, hs, hB4, _⟩
  have HS4 := Lib.hid hs
  clear hs
  go_wp2_with fail
  refine (HR4.out g _ HS4.out hg hB4).mono ?_
  rintro e w5 ⟨rfl, hs, hB5, _⟩
  have HS5 := Lib.hid hs
  clear hs
  go_wp2_with fail
  refine (calls_any g _ _ _ _ _ _ HS5.out).mono ?_
  rintro e w6 ⟨rfl, rfl⟩
  go_wp2_with fail
  refine (given_any g _ _ _ _ _ _ HS5.out).mono ?_
  rintro e w6 ⟨rfl, rfl⟩
  go_wp2_with fail
  go_ret
  exact ⟨rfl, hB5⟩
theorem great03_all (D : ByteArray) (o1 o2 : Option Addr) (n1 c1 n2 c2 : Nat) (w : World) (hb : D.size ≤ maxLen) (m1 : n1 ≤ maxLen) (m2 : n2 ≤ maxLen) :
    Calls Try.prog 9 #[.string D, .slice o1 n1 c1, .slice o2 n2 c2] w fun e w' => e = .returned (.bool (decide (2000 < (D.size : Int)) || decide (500 < (n1 : Int)) || decide (500 < (n2 : Int)))) ∧ w = w' := by
  unfold maxLen at hb m1 m2
  go_enter Try.func9, Try.ntmps9
  go_wp2
  all_goals (go_ret; exact ⟨rfl, rfl⟩)
def greatB (d n1 n2 : Nat) : Bool := decide (2000 < (d : Int)) || decide (500 < (n1 : Int)) || decide (500 < (n2 : Int))
theorem great03_any (D : ByteArray) (o1 o2 : Option Addr) (n1 c1 n2 c2 : Nat) (w : World) (hb : D.size ≤ maxLen) (m1 : n1 ≤ maxLen) (m2 : n2 ≤ maxLen) (r : Bool) (hr : greatB D.size n1 n2 = r) :
    Calls Try.prog 9 #[.string D, .slice o1 n1 c1, .slice o2 n2 c2] w fun e w' => e = .returned (.bool r) ∧ w = w' := by
  subst hr
  exact great03_all D o1 o2 n1 c1 n2 c2 w hb m1 m2
theorem greatB_no {d n1 n2 : Nat} (h : greatB d n1 n2 = false) : d ≤ 2000 ∧ n1 ≤ 500 ∧ n2 ≤ 500 := by
  simp [greatB] at h; omega
end Go.Proofs.Ythhdiibknfcnpab
