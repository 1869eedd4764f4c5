/- Package encode in the landed code: an attribute whose tag is a string's. Within the sizes that layer 19's statements name. -/
import Derived.Test.YtiecbagejdcafaaGreatDoorEncAttr
import Derived.Deep.RegionWith
namespace Go.Proofs.YtiecbagejdcafaaGreatDoor
open Go.RowKit Go.PlainAid
set_option linter.unusedVariables false
set_option maxRecDepth 100000 in
set_option maxHeartbeats 80000000 in
theorem encAttr_yes (oo : Option Addr) (co n : Nat) (tag : Int) (txt S6 SE R : ByteArray) (OI OT : Bool) (w : World) (s0 : S6.size ≤ 214) (s1 : SE.size ≤ 120)
  (HI : Hid (∀ W, Below w.heap.size w W → Calls Tryz.prog 49 #[.slice oo n co] W fun e w' => e = .returned (.tuple #[.string S6, .bool OI]) ∧ Below W.heap.size W w'))
  (HL : Hid (∀ W, Calls Tryz.prog 27 #[.int .i64 tag, .string txt] W fun e w' => e = .returned (.string SE) ∧ Below W.heap.size W w'))
  (HS : Hid (∀ W, Calls Tryz.prog 83 #[.int .i64 tag] W fun e w' => e = .returned (.bool true) ∧ Below W.heap.size W w'))
  (HK : Hid (∀ W, Calls Tryz.prog 84 #[.int .i64 tag, .string txt] W fun e w' => e = .returned (.bool OT) ∧ Below W.heap.size W w'))
  (HE : Hid (seqS (!OI || !OT) (S6 ++ SE) = R)) :
  Calls Tryz.prog 59 #[.agg #[.slice oo n co, .int .i64 tag, .string txt]] w fun e w' => e = .returned (.tuple #[.string R, .bool (!(!OI || !OT))]) ∧ Below w.heap.size w w' := by
 obtain ⟨NX, HNX⟩ : ∃ y, Hid ((!(!OI || !OT)) = y) := ⟨_, Lib.hid rfl⟩
 rw [HNX.out]
 have HR1 : Hid (Row ((w.alloc (.cells #[.slice oo n co, .int .i64 tag, .string txt] 46)).alloc (.cells #[.pointer none, .slice none 0 0, .bool false] 87)) w.heap.size 46 [.slice oo n co, .int .i64 tag, .string txt]) := Lib.hid ((Row.new w _ [.slice oo n co, .int .i64 tag, .string txt]).alloc _)
 have HP1 : Hid (PAt ((w.alloc (.cells #[.slice oo n co, .int .i64 tag, .string txt] 46)).alloc (.cells #[.pointer none, .slice none 0 0, .bool false] 87)) (w.heap.size + 1) (w.heap.size + 1) ⟨#[]⟩ false) := Lib.hid (by have := PAt.new (w.alloc (.cells #[.slice oo n co, .int .i64 tag, .string txt] 46)) (Nat.le_refl _); simpa using this)
 have HB1 : Hid (Below w.heap.size w ((w.alloc (.cells #[.slice oo n co, .int .i64 tag, .string txt] 46)).alloc (.cells #[.pointer none, .slice none 0 0, .bool false] 87))) := Lib.hid (((Below.refl _ _).alloc (Nat.le_refl _) _).alloc (by simp) _)
 go_enter Tryz.func59, Tryz.ntmps59
 go_upto_region 2 with (fail)
 generalize (w.alloc (.cells #[.slice oo n co, .int .i64 tag, .string txt] 46)).alloc (.cells #[.pointer none, .slice none 0 0, .bool false] 87) = w1 at *
 have z0 : w1.cell? ⟨w.heap.size, 0, none⟩ = some (.slice oo n co) := HR1.out.cell 0
 go_wp2_with fail
 refine (HI.out _ HB1.out).mono ?_
 rintro e w2 ⟨rfl, hb⟩
 have HB2 := Lib.hid (HB1.out.trans (hb.mono HB1.out.size))
 have HP2 := Lib.hid (HP1.out.keep hb)
 have HR2 := Lib.hid (HR1.out.below hb HR1.out.lt)
 clear hb HB1 HP1 HR1
 clear z0 HI
 go_wp2_with fail
 refine (partsAdd_any (w.heap.size + 1) (w.heap.size + 1) _ _ _ _ w2 HP2.out (by show 0 + _ ≤ _; omega) (Nat.le_of_lt HP2.out.lt)).mono ?_
 rintro e w3 ⟨rfl, hP, hb⟩
 have HB3 := Lib.hid (HB2.out.trans (hb.mono (by omega)))
 have HP3 := Lib.hid hP
 have HR3 := Lib.hid (HR2.out.below hb (by omega))
 clear hP hb HB2 HP2 HR2
 go_upto_region 3 with (fail)
 obtain ⟨w1, hw1⟩ : ∃ x, x = w3 := ⟨_, rfl⟩
 subst hw1
 have HG := Lib.hid (fun W (h : Below w1.heap.size w1 W) => (show W.cell? ⟨w.heap.size, 1, none⟩ = some (.int .i64 tag) ∧ W.cell? ⟨w.heap.size, 2, none⟩ = some (.string txt) from ⟨(HR3.out.below h HR3.out.lt).cell 1, (HR3.out.below h HR3.out.lt).cell 2⟩))
 have HL2 := Lib.hid (fun W (h : Below w1.heap.size w1 W) => (HL.out W).mono (fun e w' ⟨he, hb⟩ => (⟨he, h.trans (hb.mono h.size)⟩ : _ ∧ Below w1.heap.size w1 w')))
 have HS2 := Lib.hid (fun W (h : Below w1.heap.size w1 W) => (HS.out W).mono (fun e w' ⟨he, hb⟩ => (⟨he, h.trans (hb.mono h.size)⟩ : _ ∧ Below w1.heap.size w1 w')))
 have HK2 := Lib.hid (fun W (h : Below w1.heap.size w1 W) => (HK.out W).mono (fun e w' ⟨he, hb⟩ => (⟨he, h.trans (hb.mono h.size)⟩ : _ ∧ Below w1.heap.size w1 w')))
 have hlt1 := HP3.out.lt
 have HA2 := Lib.hid (fun W (h : Below w1.heap.size w1 W) => (partsAdd_any (w.heap.size + 1) (w.heap.size + 1) _ SE _ OT W (HP3.out.keep h) (by rw [ByteArray.size_append]; show 0 + _ + _ ≤ _; omega) (Nat.le_trans (Nat.le_of_lt hlt1) h.size)).mono (fun e w' ⟨he, hp, hb⟩ => (⟨he, hp, (h.mono (Nat.le_of_lt hlt1)).trans hb⟩ : _ ∧ _ ∧ Below (w.heap.size + 1) w1 w')))
 have hd : Below w1.heap.size w1 w1.drew := (Below.refl _ _).drew
 obtain ⟨y1, y2⟩ := HG.out _ hd
 clear HL HS HK HR3
 first | (go_region_with (first
  |(go_at_call 27; with_reducible refine (HL2.out _ (by assumption)).mono ?_; rintro e w5 ⟨rfl, hb5⟩; obtain ⟨y1, y2⟩ := HG.out _ hb5)
  |(go_at_call 83; with_reducible refine (HS2.out _ (by assumption)).mono ?_; rintro e w5 ⟨rfl, hb5⟩; obtain ⟨y1, y2⟩ := HG.out _ hb5)
  |(go_at_call 84; with_reducible refine (HK2.out _ (by assumption)).mono ?_; rintro e w5 ⟨rfl, hb5⟩; obtain ⟨y1, y2⟩ := HG.out _ hb5)
  |(go_at_call 48; with_reducible refine (HA2.out _ (by assumption)).mono ?_; rintro e w5 ⟨rfl, hp5, hb5⟩))) | fail "x"
 all_goals
  have HB5 := Lib.hid (HB3.out.trans (hb5.mono (by omega)))
  have HP5 : Hid (PAt w5 (w.heap.size + 1) (w.heap.size + 1) (S6 ++ SE) (!OI || !OT)) := Lib.hid (hp5.as ⟨by simp only [e_app], by rw [Bool.false_or]⟩)
  have HQ := Lib.hid (encSeq_any (w.heap.size + 1) (w.heap.size + 1) (S6 ++ SE) (!OI || !OT) w5 HP5.out (by rw [ByteArray.size_append]; omega) (Nat.le_of_lt HP5.out.lt))
  rw [HE.out, HNX.out] at HQ
  clear HA2 HL2 HS2 HG hd hp5 hb5 HB3 HP3 HE HNX HP5 s0 s1 hlt1 HK2
  try clear y1 y2
  go_wp2_with fail
  refine HQ.out.mono ?_
  rintro e w9 ⟨rfl, hb⟩
  have HB9 := Lib.hid (HB5.out.trans (hb.mono (by omega)))
  clear hb HQ
  go_wp2
  go_returns
  exact ⟨rfl, HB9.out⟩
end Go.Proofs.YtiecbagejdcafaaGreatDoor
