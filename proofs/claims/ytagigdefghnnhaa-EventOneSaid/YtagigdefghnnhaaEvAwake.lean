/- The document's fixed answers of layer 9 hold: 'awake' returns true. Over EvCode, the landed code's contracts. -/
import Derived.Test.YtagigdefghnnhaaEvCode
import Derived.Test.YtagigdefghnnhaaEvLaw
import Derived.Handy
import Derived.Lib.Hide
namespace Go.Proofs.Ytagigdefghnnhaa
open Go.RowKit
set_option linter.unusedVariables false
theorem Evs.lit (w : World) (l : List Ev) (cs : Array Value) (base n : Nat) (h : cs.toList = evCs l) (hn : l.length = n) (hm : n ≤ maxLen) (hb : base ≤ w.heap.size) : Evs (w.alloc (.cells cs 42)) base (.slice (some ⟨w.heap.size, 0, none⟩) n n) l := by
  have := World.ownsRow_lit (base := base) (size := 7) (e := 42) w cs n hb hm (by rw [← Array.length_toList, h, evCs_length, hn])
  unfold Evs
  rw [hn, ← h]; exact this
set_option maxRecDepth 100000 in
set_option maxHeartbeats 4000000 in
theorem awake09_any (w : World) :
    Calls Try.prog 11 #[] w fun e w' => e = .returned (.bool true) ∧ Below w.heap.size w w' := by
  go_enter Try.func11, Try.ntmps11
  go_wp2_with fail
  refine (evSpec.whole_is _ 2 (by decide +kernel) (by decide) ev_k1 _).mono ?_
  rintro r w1 ⟨o1, n1, c1, rfl, he1, hn1, hB1⟩
  have HE1 := Lib.hid he1
  clear he1 hn1
  go_wp2_with fail
  have hBl : Below w1.heap.size w1 (w1.alloc (.cells (evCs [⟨1, 1, 0, 16, true, 3, 0⟩, ⟨2, 3, 0, 2, false, 1, 0⟩, ⟨3, 4, 0, 0, false, 0, 7⟩, ⟨4, 4, 0, 0, false, 0, 0⟩, ⟨5, 4, 0, 0, false, 0, 0⟩]).toArray 42)) := (Below.refl _ _).alloc (Nat.le_refl _) _
  have HL := Lib.hid (Evs.lit w1 [⟨1, 1, 0, 16, true, 3, 0⟩, ⟨2, 3, 0, 2, false, 1, 0⟩, ⟨3, 4, 0, 0, false, 0, 7⟩, ⟨4, 4, 0, 0, false, 0, 0⟩, ⟨5, 4, 0, 0, false, 0, 0⟩] (evCs [⟨1, 1, 0, 16, true, 3, 0⟩, ⟨2, 3, 0, 2, false, 1, 0⟩, ⟨3, 4, 0, 0, false, 0, 7⟩, ⟨4, 4, 0, 0, false, 0, 0⟩, ⟨5, 4, 0, 0, false, 0, 0⟩]).toArray w.heap.size 5 (by simp) rfl (by decide) hB1.size)
  have HE2 := Lib.hid (HE1.out.below hBl)
  have hB2 := hB1.trans (hBl.mono hB1.size)
  have hX : w1.alloc (.cells (evCs [⟨1, 1, 0, 16, true, 3, 0⟩, ⟨2, 3, 0, 2, false, 1, 0⟩, ⟨3, 4, 0, 0, false, 0, 7⟩, ⟨4, 4, 0, 0, false, 0, 0⟩, ⟨5, 4, 0, 0, false, 0, 0⟩]).toArray 42) = w1.alloc (.cells #[.int .i64 1, .int .i64 1, .int .i64 0, .int .i64 16, .bool true, .int .i64 3, .int .u8 0, .int .i64 2, .int .i64 3, .int .i64 0, .int .i64 2, .bool false, .int .i64 1, .int .u8 0, .int .i64 3, .int .i64 4, .int .i64 0, .int .i64 0, .bool false, .int .i64 0, .int .u8 7, .int .i64 4, .int .i64 4, .int .i64 0, .int .i64 0, .bool false, .int .i64 0, .int .u8 0, .int .i64 5, .int .i64 4, .int .i64 0, .int .i64 0, .bool false, .int .i64 0, .int .u8 0] 42) := rfl
  rw [← hX]
  clear hX hBl HE1 hB1
  generalize w1.alloc (.cells (evCs [⟨1, 1, 0, 16, true, 3, 0⟩, ⟨2, 3, 0, 2, false, 1, 0⟩, ⟨3, 4, 0, 0, false, 0, 7⟩, ⟨4, 4, 0, 0, false, 0, 0⟩, ⟨5, 4, 0, 0, false, 0, 0⟩]).toArray 42) = X at *
  generalize w1.heap.size = kl at *
  generalize hLL : ([⟨1, 1, 0, 16, true, 3, 0⟩, ⟨2, 3, 0, 2, false, 1, 0⟩, ⟨3, 4, 0, 0, false, 0, 7⟩, ⟨4, 4, 0, 0, false, 0, 0⟩, ⟨5, 4, 0, 0, false, 0, 0⟩] : List Ev) = LL at HL HE2
  have HLL : Hid (LL.length ≤ 100000000) := Lib.hid (by rw [← hLL]; decide)
  clear hLL
  refine (evSpec.whole_is _ 2 (by decide +kernel) (by decide) ev_k2 _).mono ?_
  rintro r w2 ⟨o2, n2, c2, rfl, hx2, hn2, hb⟩
  clear hx2 hn2
  have HL3 := Lib.hid (HL.out.below hb)
  have HE3 := Lib.hid (HE2.out.below hb)
  have hB3 := hB2.trans (hb.mono hB2.size)
  clear hb hB2 HL HE2
  go_wp2_with fail
  refine (evSpec.whole_is _ 0 (by decide +kernel) (by decide) ev_k3 _).mono ?_
  rintro r w3 ⟨o3, n3, c3, rfl, _, hn3, hb⟩
  obtain rfl : n3 = 0 := hn3
  have HL4 := Lib.hid (HL3.out.below hb)
  have HE4 := Lib.hid (HE3.out.below hb)
  have hB4 := hB3.trans (hb.mono hB3.size)
  clear hb hB3 HL3 HE3
  go_wp2_with fail
  refine (refSame_any HE4.out HL4.out HLL.out).mono ?_
  rintro r w4 ⟨rfl, n4, rfl⟩
  go_wp2
  go_returns
  exact ⟨rfl, hB4.trans (draws_below' _ n4 hB4.size)⟩
end Go.Proofs.Ytagigdefghnnhaa
