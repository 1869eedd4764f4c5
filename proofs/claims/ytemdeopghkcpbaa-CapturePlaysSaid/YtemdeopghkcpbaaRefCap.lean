/- The reference's capture in memory: New, Push, Begin. Of every number and byte; of texts of at most 100000 bytes. -/
import Derived.Test.YtemdeopghkcpbaaCapSpec
import Derived.Test.YtemdeopghkcpbaaByteSl
import Derived.Test.YtemdeopghkcpbaaMem2
import Derived.Deep.QuietTactic
import Derived.BigQuiet
import Derived.Handy
namespace Go.Proofs.Ytemdeopghkcpbaa
open Go.RowKit Go.PlainAid
set_option linter.unusedVariables false
/-- Block k holds it, and nothing else does. -/
def RK (w : World) (k : Nat) (c : KM) : Prop := Row w k 36 [.int .i64 c.most, .string (strOfNums c.kept), .bool c.on]
theorem kmost_of {most : Int} : ((KM.new most).most : Int) = if most < 0 then 0 else if 65536 < most then 65536 else most := by
  unfold KM.new
  show (((min (max most 0) 65536).toNat : Nat) : Int) = _
  repeat' split
  all_goals omega
set_option maxHeartbeats 4000000 in
theorem refCap_new (w : World) (most : Int) (hm : InI most) : Calls Try.prog 9 #[.int .i64 most] w fun e w' => ∃ k, e = .returned (.pointer (some ⟨k, 0, none⟩)) ∧ w.heap.size ≤ k ∧ RK w' k (KM.new most) ∧ Below w.heap.size w w' := by
  have hM := kmost_of (most := most)
  have hfin : RK (w.alloc (.cells #[.int .i64 ((KM.new most).most : Int), .string ⟨#[]⟩, .bool false] 36)) w.heap.size (KM.new most) := Row.new w _ [.int .i64 (KM.new most).most, .string ⟨#[]⟩, .bool false]
  have HF := Lib.hid hfin
  clear hfin
  generalize ((KM.new most).most : Int) = M at *
  go_enter Try.func9, Try.ntmps9
  by_cases h1 : most < 0
  · rw [if_pos h1] at hM
    subst hM
    go_wp2
    go_returns
    first
      | exact ⟨rfl, Nat.le_refl _, HF.out, (Below.refl _ _).alloc (Nat.le_refl _) _⟩
      | exact ⟨w.heap.size, rfl, Nat.le_refl _, HF.out, (Below.refl _ _).alloc (Nat.le_refl _) _⟩
  · rw [if_neg h1] at hM
    by_cases h2 : 65536 < most
    · rw [if_pos h2] at hM
      subst hM
      go_wp2
      go_returns
      first
        | exact ⟨rfl, Nat.le_refl _, HF.out, (Below.refl _ _).alloc (Nat.le_refl _) _⟩
        | exact ⟨w.heap.size, rfl, Nat.le_refl _, HF.out, (Below.refl _ _).alloc (Nat.le_refl _) _⟩
    · rw [if_neg h2] at hM
      subst hM
      go_wp2
      go_returns
      first
        | exact ⟨rfl, Nat.le_refl _, HF.out, (Below.refl _ _).alloc (Nat.le_refl _) _⟩
        | exact ⟨w.heap.size, rfl, Nat.le_refl _, HF.out, (Below.refl _ _).alloc (Nat.le_refl _) _⟩
theorem kset {w X : World} {k : Nat} (h : Chg (fun i => i = k) w X) (i : Nat) (v : Value) : Chg (fun i => i = k) w (X.setCell ⟨k, i, none⟩ v) :=
  ⟨h.os, h.tape, h.output, by simpa using h.size, fun j hj hn => (Below.heap_setCell X _ v j hn).trans (h.block j hj hn)⟩
theorem kchg0 (w : World) (k : Nat) : Chg (fun i => i = k) w w := ⟨rfl, rfl, rfl, Nat.le_refl _, fun _ _ _ => rfl⟩
theorem kalloc {w X : World} {k : Nat} (h : Chg (fun i => i = k) w X) (o : Obj) : Chg (fun i => i = k) w (X.alloc o) :=
  ⟨h.os, h.tape, h.output, Nat.le_trans h.size (by simp), fun i hi hn => (Below.heap_alloc X o i (Nat.lt_of_lt_of_le hi h.size)).trans (h.block i hi hn)⟩
theorem drawn_belowK (w : World) (n : Nat) : Below w.heap.size w (w.drewN n) := ⟨rfl, rfl, rfl, Nat.le_refl _, fun _ _ => rfl⟩
set_option maxRecDepth 100000 in
set_option maxHeartbeats 8000000 in
theorem refCap_push {w : World} {k : Nat} {c : KM} (b : Int) (hA : RK w k c) (hOk : c.Ok) (hb : 0 ≤ b ∧ b ≤ 255) :
    Calls Try.prog 13 #[.pointer (some ⟨k, 0, none⟩), .int .u8 b] w fun r w' => r = .returned (.int .i64 c.pushE) ∧ RK w' k (c.push b) ∧ Chg (fun i => i = k) w w' := by
  obtain ⟨most, kept, on⟩ := c
  have hR : Row w k 36 [.int .i64 most, .string (strOfNums kept), .bool on] := hA
  have q0 : w.cell? ⟨k, 0, none⟩ = some (.int .i64 most) := hR.cell 0
  have q1 : w.cell? ⟨k, 1, none⟩ = some (.string (strOfNums kept)) := hR.cell 1
  have q2 : w.cell? ⟨k, 2, none⟩ = some (.bool on) := hR.cell 2
  have f1 := hR.frozen 1
  have f2 := hR.frozen 2
  have hkw := hR.lt
  have hll : kept.length ≤ most := hOk.len
  have hmm : most ≤ 65536 := hOk.most
  have hss : (strOfNums kept).size = kept.length := strOfNums_size kept
  have hs9 : ((strOfNums kept).size : Int) ≤ 9223372036854775807 := by omega
  cases on with
  | false =>
    have HP : Hid ((KM.mk most kept false).push b = ⟨most, kept, false⟩ ∧ (KM.mk most kept false).pushE = 0) := Lib.hid ⟨KM.push_off b rfl, KM.pushE_off rfl⟩
    have HR := Lib.hid hR
    clear hA hR
    go_enter Try.func13, Try.ntmps13
    go_wp2
    go_returns
    rw [HP.out.1, HP.out.2]
    exact ⟨rfl, HR.out, kchg0 w k⟩
  | true =>
    by_cases hq : most ≤ kept.length
    · have HP : Hid ((KM.mk most kept true).push b = ⟨most, kept, false⟩ ∧ (KM.mk most kept true).pushE = 11) := Lib.hid ⟨KM.push_over b rfl hq, KM.pushE_over rfl hq⟩
      have hd : decide ((most : Int) ≤ ((strOfNums kept).size : Int)) = true := decide_eq_true (by omega)
      have hdi : (most : Int) ≤ ((strOfNums kept).size : Int) := by omega
      have HT := Lib.hid (fun q => And.intro ((hR.below (drawn_belowK w q) hkw).set 2 (.bool false)) (kset (Chg.of_below (F := fun i => i = k) (drawn_belowK w q)) 2 (.bool false)))
      clear hA hR hOk
      obtain ⟨s, hs⟩ : ∃ s, strOfNums kept = s := ⟨_, rfl⟩
      have HS := Lib.hid hs
      rw [hs] at q1 hss hs9 hd hdi HT
      clear hs
      go_enter Try.func13, Try.ntmps13
      go_wp2
      go_quiet (fail)
      go_wp2
      go_returns
      rw [HP.out.1, HP.out.2]
      exact ⟨rfl, by unfold RK; rw [show strOfNums (KM.mk most kept false).kept = s from HS.out]; exact (HT.out _).1, (HT.out _).2⟩
    · have HP : Hid ((KM.mk most kept true).push b = ⟨most, kept ++ [b], true⟩ ∧ (KM.mk most kept true).pushE = 0) := Lib.hid ⟨KM.push_on b rfl hq, KM.pushE_on hq⟩
      have hd : decide ((most : Int) ≤ ((strOfNums kept).size : Int)) = false := decide_eq_false (by omega)
      have hdi : ¬ (most : Int) ≤ ((strOfNums kept).size : Int) := by omega
      have hcat : strOfNums (kept ++ [b]) = strOfNums kept ++ strOfNums [b] := by
        have hb1 : IsB [b] := IsB.cons hb.1 hb.2 (fun _ h => by simp at h)
        apply bl_inj
        rw [bl_str (hOk.isB.append hb1), bl_append, bl_str hOk.isB, bl_str hb1]
      have hov : ¬ 9223372036854775807 < (strOfNums kept).size + (strOfNums [b]).size := by
        rw [show (strOfNums [b]).size = 1 from strOfNums_size [b]]; omega
      have HR := Lib.hid hR
      obtain ⟨s, hs⟩ : ∃ s, strOfNums kept = s := ⟨_, rfl⟩
      rw [hs] at q1 hss hs9 hd hdi HR hcat hov
      have HCat := Lib.hid hcat
      clear hA hR hOk hs hcat hb
      go_enter Try.func13, Try.ntmps13
      go_wp2
      go_quiet (fail)
      have HRW := Lib.hid (HR.out.below (drawn_belowK w nq) hkw)
      have HCW : Hid (Chg (fun i => i = k) w (w.drewN nq)) := Lib.hid (Chg.of_below (drawn_belowK w nq))
      clear q0 q1 q2 f1 f2 HR
      generalize w.drewN nq = W at *
      have p1 : W.cell? ⟨k, 1, none⟩ = some (.string s) := HRW.out.cell 1
      have g1 := HRW.out.frozen 1
      have a1 : (W.alloc (.cells #[.int .u8 b] 5)).cell? ⟨k, 1, none⟩ = some (.string s) := (HRW.out.alloc _).cell 1
      have a2 := (HRW.out.alloc (.cells #[.int .u8 b] 5)).frozen 1
      have a3 : (W.alloc (.cells #[.int .u8 b] 5)).cell? ⟨W.heap.size, 0, none⟩ = some (.int .u8 b) := by simp
      have a4 := conv_at b _ _ a3
      have a5 := conv_at b (W.alloc (.cells #[.int .u8 b] 5)).drew W.heap.size a3
      have HX := Lib.hid (And.intro ((HRW.out.alloc (.cells #[.int .u8 b] 5)).set 1 (.string (s ++ strOfNums [b]))) (kset (kalloc HCW.out (.cells #[.int .u8 b] 5)) 1 (.string (s ++ strOfNums [b]))))
      go_wp2_with fail
      go_region
      all_goals
        go_wp2
        go_returns
        rw [HP.out.1, HP.out.2]
        exact ⟨rfl, by unfold RK; rw [show strOfNums (KM.mk most (kept ++ [b]) true).kept = s ++ strOfNums [b] from HCat.out]; exact HX.out.1, ⟨HX.out.2.os, HX.out.2.tape, HX.out.2.output, HX.out.2.size, HX.out.2.block⟩⟩
set_option maxRecDepth 100000 in
set_option maxHeartbeats 8000000 in
theorem refCap_begin {w : World} {k : Nat} {c : KM} (b : ByteArray) (hA : RK w k c) (hOk : c.Ok) (hb : b.size ≤ 100000) :
    Calls Try.prog 11 #[.pointer (some ⟨k, 0, none⟩), .string b] w fun r w' => r = .returned (.int .i64 (c.beginE (bl b))) ∧ RK w' k (c.begin (bl b)) ∧ Chg (fun i => i = k) w w' := by
  obtain ⟨most, kept, on⟩ := c
  have hR : Row w k 36 [.int .i64 most, .string (strOfNums kept), .bool on] := hA
  have hmm : most ≤ 65536 := hOk.most
  have hb9 : (b.size : Int) ≤ 9223372036854775807 := by omega
  have h1 := hR.set 2 (.bool true)
  have q2 : w.cell? ⟨k, 2, none⟩ = some (.bool on) := hR.cell 2
  have f2 := hR.frozen 2
  have p0 : (w.setCell ⟨k, 2, none⟩ (.bool true)).cell? ⟨k, 0, none⟩ = some (.int .i64 most) := h1.cell 0
  have p1 : (w.setCell ⟨k, 2, none⟩ (.bool true)).cell? ⟨k, 1, none⟩ = some (.string (strOfNums kept)) := h1.cell 1
  have g1 := h1.frozen 1
  have hll := bl_length b
  by_cases hq : most < b.size
  · have HP : Hid ((KM.mk most kept on).begin (bl b) = ⟨most, (bl b).take most, false⟩ ∧ (KM.mk most kept on).beginE (bl b) = 11) := Lib.hid ⟨by unfold KM.begin; rw [if_pos (by show most < (bl b).length; omega)], by unfold KM.beginE; rw [if_pos (by show most < (bl b).length; omega)]⟩
    have hqi : (most : Int) < (b.size : Int) := by omega
    have hqn : most ≤ b.size := by omega
    have hex : strOfNums ((bl b).take most) = b.extract 0 most := by
      apply bl_inj
      rw [bl_str (fun x hx => bl_isB b x (List.mem_of_mem_take hx)), bl_extract b 0 most hqn, List.drop_zero, Nat.sub_zero]
    have h2 := h1.set 1 (.string (b.extract 0 most))
    have r2 := h2.cell 2
    have g2 := h2.frozen 2
    have h3 := h2.set 2 (.bool false)
    have HT := Lib.hid (And.intro h3 (kset (kset (kset (kchg0 w k) 2 (.bool true)) 1 (.string (b.extract 0 most))) 2 (.bool false)))
    have HE := Lib.hid hex
    clear hA hR h1 h2 h3 hOk hex
    go_enter Try.func11, Try.ntmps11
    go_wp2
    go_returns
    rw [HP.out.1, HP.out.2]
    exact ⟨rfl, by unfold RK; rw [show strOfNums (KM.mk most ((bl b).take most) false).kept = b.extract 0 most from HE.out]; exact HT.out.1, HT.out.2⟩
  · have HP : Hid ((KM.mk most kept on).begin (bl b) = ⟨most, bl b, true⟩ ∧ (KM.mk most kept on).beginE (bl b) = 0) := Lib.hid ⟨by unfold KM.begin; rw [if_neg (by show ¬ most < (bl b).length; omega)], by unfold KM.beginE; rw [if_neg (by show ¬ most < (bl b).length; omega)]⟩
    have hqi : ¬ (most : Int) < (b.size : Int) := by omega
    have h2 := h1.set 1 (.string b)
    have HT := Lib.hid (And.intro h2 (kset (kset (kchg0 w k) 2 (.bool true)) 1 (.string b)))
    have HE := Lib.hid (str_bl b)
    clear hA hR h1 h2 hOk
    go_enter Try.func11, Try.ntmps11
    go_wp2
    go_returns
    rw [HP.out.1, HP.out.2]
    exact ⟨rfl, by unfold RK; rw [show strOfNums (KM.mk most (bl b) true).kept = b from HE.out]; exact HT.out.1, HT.out.2⟩
end Go.Proofs.Ytemdeopghkcpbaa
