/- The document's fixed answers of layer 13 hold: 'awake' returns true. Over the landed code's contracts. -/
import Derived.Test.YthjncfpgmfbehaaDoorWhenGet
import Derived.Test.YthjncfpgmfbehaaDoorRefWhen6
import Derived.Test.YthjncfpgmfbehaaDoorWhenPut
namespace Go.Proofs.YthjncfpgmfbehaaDoor
open Go.RowKit Go.PlainAid
set_option linter.unusedVariables false
theorem below_drawn {B : Nat} {a w : World} (h : Below B a w) (n : Nat) : Below B a (w.drewN n) := ⟨h.os, h.tape, h.output, h.size, h.block⟩
theorem whenPut_is (d : ByteArray) (hd : d.size ≤ 1000000) {t : Int} {c : ByteArray} {ok : Bool} (h : wPutT d = t) (h2 : wPutC d = c) (h3 : wOk d = ok) (w : World) (hTab : Tab w) :
    Calls Tryd.prog 13 #[.string d] w fun e w' => e = .returned (.tuple #[.int .i64 t, .string c, .bool ok]) ∧ Below w.heap.size w w' := by
  have := whenPut_any d hd w hTab
  rw [h, h2, h3] at this
  exact this
theorem whenPut_no {d : ByteArray} (hd : d.size ≤ 1000000) (h : wOk d = false) (w : World) (hTab : Tab w) :
    Calls Tryd.prog 13 #[.string d] w fun e w' => e = .returned (.tuple #[.int .i64 0, .string ⟨#[]⟩, .bool false]) ∧ Below w.heap.size w w' :=
  whenPut_is d hd (by unfold wPutT; rw [h]; rfl) (by unfold wPutC; rw [h]; rfl) h w hTab
theorem whenPut_yes {d : ByteArray} (hd : d.size ≤ 1000000) (h : wOk d = true) (w : World) (hTab : Tab w) :
    Calls Tryd.prog 13 #[.string d] w fun e w' => e = .returned (.tuple #[.int .i64 (wTag d), .string (wC d), .bool true]) ∧ Below w.heap.size w w' :=
  whenPut_is d hd (by unfold wPutT; rw [h]; rfl) (by unfold wPutC; rw [h]; rfl) h w hTab
theorem whenGet_is (tag : Int) (s : ByteArray) (hs : s.size ≤ 1000000) {d : ByteArray} {ok : Bool} (h : wGetS tag s = d) (h2 : wGetB tag s = ok) (w : World) (hTab : Tab w) :
    Calls Tryd.prog 14 #[.int .i64 tag, .string s] w fun e w' => e = .returned (.tuple #[.string d, .bool ok]) ∧ Below w.heap.size w w' := by
  have := whenGet_any tag s hs w hTab
  rw [h, h2] at this
  exact this
theorem whenGet_no {tag : Int} {s : ByteArray} (hs : s.size ≤ 1000000) (h : ¬ rightP tag (bl s)) (w : World) (hTab : Tab w) :
    Calls Tryd.prog 14 #[.int .i64 tag, .string s] w fun e w' => e = .returned (.tuple #[.string ⟨#[]⟩, .bool false]) ∧ Below w.heap.size w w' :=
  whenGet_is tag s hs (by unfold wGetS wGetB; rw [decide_eq_false h]; rfl) (decide_eq_false h) w hTab
theorem whenGet_yes {tag : Int} {s : ByteArray} (hs : s.size ≤ 1000000) (h : rightP tag (bl s)) (w : World) (hTab : Tab w) :
    Calls Tryd.prog 14 #[.int .i64 tag, .string s] w fun e w' => e = .returned (.tuple #[.string (fullS tag s), .bool true]) ∧ Below w.heap.size w w' :=
  whenGet_is tag s hs (by unfold wGetS wGetB; rw [decide_eq_true h]; rfl) (decide_eq_true h) w hTab
theorem whenDays_is (y m : Int) (hy : -9223372036854775808 ≤ y ∧ y ≤ 9223372036854775807) (hm : -9223372036854775808 ≤ m ∧ m ≤ 9223372036854775807) {n : Int} (h : dysI y m = n) (w : World) :
    Calls Tryd.prog 18 #[.int .i64 y, .int .i64 m] w fun e w' => e = .returned (.int .i64 n) ∧ Below w.heap.size w w' := by
  have := whenDays_any y m hy hm w
  rw [h] at this
  exact this
set_option maxRecDepth 100000 in
set_option maxHeartbeats 8000000 in
theorem awake13_any (w : World) (hTab : Tab w) :
    Calls Tryd.prog 9 #[] w fun e w' => e = .returned (.bool true) ∧ Below w.heap.size w w' := by
  have HG1 := Lib.hid (whenGet_is 23 ⟨#[50, 52, 48, 50, 50, 57, 50, 51, 53, 57, 53, 57, 90]⟩ (by decide +kernel) (d := ⟨#[50, 48, 50, 52, 48, 50, 50, 57, 50, 51, 53, 57, 53, 57]⟩) (ok := true) (by decide +kernel) (by decide +kernel))
  have HG2 := Lib.hid (whenGet_is 23 ⟨#[50, 51, 48, 50, 50, 57, 50, 51, 53, 57, 53, 57, 90]⟩ (by decide +kernel) (d := ⟨#[]⟩) (ok := false) (by decide +kernel) (by decide +kernel))
  have HP := Lib.hid (whenPut_is ⟨#[50, 48, 53, 48, 48, 49, 48, 49, 48, 48, 48, 48, 48, 48]⟩ (by decide +kernel) (t := 24) (c := ⟨#[50, 48, 53, 48, 48, 49, 48, 49, 48, 48, 48, 48, 48, 48, 90]⟩) (ok := true) (by decide +kernel) (by decide +kernel) (by decide +kernel))
  have HD1 := Lib.hid (whenDays_is 2000 2 (by decide) (by decide) (n := 29) (by decide))
  have HD2 := Lib.hid (whenDays_is 2100 2 (by decide) (by decide) (n := 28) (by decide))
  have HD3 := Lib.hid (whenDays_is 1 13 (by decide) (by decide) (n := 0) (by decide))
  go_enter Tryd.func9, Tryd.ntmps9
  go_wp2_with fail
  refine (HG1.out _ hTab).mono ?_
  rintro e w1 ⟨rfl, hB1⟩
  go_wp2_with fail
  refine (HG2.out _ (hTab.on hB1)).mono ?_
  rintro e w2 ⟨rfl, hb⟩
  have hB2 := hB1.trans (hb.mono hB1.size)
  clear hb hB1
  go_wp2_with fail
  refine (HP.out _ (hTab.on hB2)).mono ?_
  rintro e w3 ⟨rfl, hb⟩
  have hB3 := hB2.trans (hb.mono hB2.size)
  clear hb hB2
  go_wp2_with fail
  refine (HD1.out _).mono ?_
  rintro e w4 ⟨rfl, hb⟩
  have hB4 := hB3.trans (hb.mono hB3.size)
  clear hb hB3
  go_wp2_with fail
  refine (HD2.out _).mono ?_
  rintro e w5 ⟨rfl, hb⟩
  have hB5 := hB4.trans (hb.mono hB4.size)
  clear hb hB4
  go_wp2_with fail
  refine (HD3.out _).mono ?_
  rintro e w6 ⟨rfl, hb⟩
  have hB6 := hB5.trans (hb.mono hB5.size)
  clear hb hB5
  go_wp2
  go_returns
  exact ⟨rfl, hB6⟩
end Go.Proofs.YthjncfpgmfbehaaDoor
