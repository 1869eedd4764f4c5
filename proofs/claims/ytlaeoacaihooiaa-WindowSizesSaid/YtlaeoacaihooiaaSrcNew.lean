/- What strings.Clone, slices.Clone of steps, and source.New give. -/
import Derived.Test.YtlaeoacaihooiaaSrcAt
import Derived.Laws.AppendOwn
import Derived.Lib.SliceRun
namespace Go.Proofs.Ytlaeoacaihooiaa
open Go.RowKit Go.PlainAid
set_option linter.unusedVariables false
theorem strClone_any (s : ByteArray) (hs : s.size ≤ 281474976710656) (w : World) :
    Calls Try.prog 21 #[.string s] w fun e w' => e = .returned (.string s) ∧ Below w.heap.size w w' := by
  have hl : s.size ≤ 281474976710656 := by omega
  have HC := Lib.hid (Try.stringslite_Clone s w hl)
  clear hs hl
  go_enter Try.func21, Try.ntmps21
  go_wp2_with fail
  refine HC.out.mono ?_
  rintro e w' ⟨rfl, hB⟩
  go_wp2
  go_ret
  exact ⟨rfl, hB⟩
theorem infoStep : (Try.prog.info? 39).map (fun i => (i.zero, i.size, i.bytes)) = some (some (.agg #[.int .i64 0, .int .i64 0]), 2, 16) := by kernel_rfl
theorem Came.parts {w : World} {oa : Option Addr} {l : List Value} (h : Came w oa l) : oa = none ∧ l = [] ∨ ∃ a, oa = some a ∧ ∀ j u, l[j]? = some u → w.cell? (a.add j) = some u := by
  cases oa with
  | none =>
    left
    refine ⟨rfl, ?_⟩
    cases l with
    | nil => rfl
    | cons u r =>
      obtain ⟨a, h1, _⟩ := h 0 u rfl
      cases h1
  | some a =>
    right
    refine ⟨a, rfl, fun j u hj => ?_⟩
    obtain ⟨b, h1, h2⟩ := h j u hj
    cases h1; exact h2
theorem pvs_one (l : List (Int × Int)) : ∀ u ∈ pvs l, u.oneCell' = true := by
  intro u hu
  obtain ⟨s, _, hs⟩ := List.mem_flatMap.1 hu
  simp at hs
  rcases hs with rfl | rfl <;> rfl
theorem pvs_nil {l : List (Int × Int)} (h : pvs l = []) : l = [] := by
  cases l with
  | nil => rfl
  | cons s r => cases h
set_option maxHeartbeats 1000000 in
theorem clone_any (S : List (Int × Int)) (oa : Option Addr) (cap : Nat) (w : World) (hc : Came w oa (pvs S)) (hn : S.length ≤ 1000000) :
    Calls Try.prog 22 #[.slice oa S.length cap] w fun e w' => ∃ ob cb, e = .returned (.slice ob S.length cb) ∧ (∀ g, w'.heap.size ≤ g → StepsAt w' g ob S.length cb S) ∧ Below w.heap.size w w' := by
  have q22 : ∀ (w : World) (a : Option Addr) (n c n' c' : Nat), (binOp .eql 23 (.slice a n c) (.slice none n' c')).run Try.prog w = .ok (.bool a.isNone) w := fun w a n c n' c' => Lib.run_eql_slice_nil w _ _ a n c n' c' Try.underlying23
  rcases hc.parts with ⟨rfl, he⟩ | ⟨a, rfl, hcell⟩
  · obtain rfl := pvs_nil he
    go_enter Try.func22, Try.ntmps22
    go_wp2
    go_ret
    exact ⟨none, 0, rfl, fun g hg => ⟨rfl, Nat.le_refl _, Nat.zero_le _, .inl rfl⟩, Below.refl _ _⟩
  · obtain ⟨i0, hi, hz0, hz1, hz2⟩ := (by
      obtain ⟨i0, hi, h⟩ := Option.map_eq_some_iff.1 infoStep
      simp only [Prod.mk.injEq] at h
      exact ⟨i0, hi, h.1, h.2.1, h.2.2⟩ : ∃ i0, Try.prog.info? 39 = some i0 ∧ i0.zero = some (.agg #[.int .i64 0, .int .i64 0]) ∧ i0.size = 2 ∧ i0.bytes = 16)
    have HI := Lib.hid hi
    have Hz0 := Lib.hid hz0
    have Hz1 := Lib.hid hz1
    have Hz2 := Lib.hid hz2
    have HC := Lib.hid hcell
    have HL := Lib.hid (pvs_length S)
    clear hi hz0 hz1 hz2 hcell hc
    generalize S.length = n at *
    go_enter Try.func22, Try.ntmps22
    go_wp2_with (at_builtin; refine wpList_append_own _ rfl _ _ 23 rfl w.heap.size 39 i0 (.agg #[.int .i64 0, .int .i64 0]) 2 16 Try.underlying23 HI.out Hz0.out Hz1.out Hz2.out rfl (by omega) _ _ _ rfl (World.ownsRow_made w #[] 0 (Nat.le_refl _) (Nat.zero_le _) (by simp)) a n cap (pvs S) rfl ?qc1 ?qc2 ?qc3 ?qc4 ?qc5 ?qc6 ?_)
    case qc1 => rw [HL.out]; omega
    case qc2 => exact fun j u hj => Lib.cell?_alloc_some _ (HC.out j u hj)
    case qc3 => exact pvs_one S
    case qc4 => unfold maxLen; omega
    case qc5 => omega
    case qc6 => simp
    intro v' w1 hown hgrow hnil
    go_wp2
    go_ret
    obtain ⟨hlen, ⟨hv, _⟩ | ⟨gs, cb, cur, rfl, hgs, hheap, hcb, hcm, hcs, htk⟩⟩ := hown
    · exact absurd hv hnil
    · have hB : Below w.heap.size w w1 := ((Below.refl _ w).alloc (Nat.le_refl _) _).grown hgrow (by simp) (by intro k hk; simp [Value.ownBlock] at hk; omega)
      have hrow : Row w1 gs 39 cur.toList := by unfold Row; simpa using hheap
      refine ⟨_, cb, rfl, fun g hg => ⟨?_, hcb, hcm, .inr ⟨gs, 0, cur.toList, rfl, ?_, hrow, fun j u hj => ?_⟩⟩, hB⟩
      · have := HL.out; rw [pvs_length] at this; omega
      · have := hrow.lt; omega
      · have hjl := (List.getElem?_eq_some_iff.1 hj).1
        rw [← htk, List.getElem?_take_of_lt (by omega)] at hj
        rw [Nat.zero_add]; exact hj
set_option maxHeartbeats 1000000 in
theorem srcNew_any (D : ByteArray) (S : List (Int × Int)) (oa : Option Addr) (cap : Nat) (w : World) (hD : D.size ≤ 281474976710656) (hc : Came w oa (pvs S)) (hn : S.length ≤ 1000000) :
    Calls Try.prog 11 #[.string D, .slice oa S.length cap] w fun e w' => ∃ g, e = .returned (.pointer (some ⟨g, 0, none⟩)) ∧ w.heap.size ≤ g ∧ SrcAt w' g D S 0 0 0 ∧ Below w.heap.size w w' := by
  have HS := Lib.hid (strClone_any D hD)
  have HC := Lib.hid (fun w1 (hb : Below w.heap.size w w1) => clone_any S oa cap w1 (hc.below hb) hn)
  clear hc hD
  go_enter Try.func11, Try.ntmps11
  go_wp2_with fail
  refine (HS.out _).mono ?_
  rintro e w1 ⟨rfl, hB1⟩
  go_wp2_with fail
  refine (HC.out _ hB1).mono ?_
  rintro e w2 ⟨ob, cb, rfl, hst, hB2⟩
  have hB2 := hB1.trans (hB2.mono hB1.size)
  have HST := Lib.hid (hst w2.heap.size (Nat.le_refl _))
  have hsz := hB2.size
  clear hst
  go_wp2_with fail
  go_ret
  refine ⟨_, rfl, hsz, ⟨Nat.zero_le _, .inl rfl, ob, S.length, cb, D, Row.new w2 52 (srcCells D ob S.length cb 0 0 0), fun _ => ⟨by simp, ?_⟩⟩, hB2.alloc hsz _⟩
  exact StepsAt.below HST.out ((Below.refl _ _).alloc (Nat.le_refl _) _)
end Go.Proofs.Ytlaeoacaihooiaa
