/- Package order's Sort, called. Of at most 1000 elements of at most 1000 bytes each. -/
import Derived.Test.YtnlhpldjficecaaOrdSort
import Derived.Handy
namespace Go.Proofs.Ytnlhpldjficecaa
open Go.Shelf Go.RowKit Go.Lib Go.Sort Go.PlainAid
set_option linter.unusedVariables false
theorem came_sorted {w : World} {g : Nat} {l : List ByteArray} (hl : ∀ x ∈ l, x.size ≤ 1000) {d' : Array El} (hs : d'.size = l.length) (hB : Blk elL (fun k => (elA l)[k]!) (fun k => d'[k]!) 0 l.length) (hH : Holds elE w g 0 d') : Came w (some ⟨g, 0, none⟩) (svs (sortS l)) := by
  intro j u hj
  refine ⟨_, rfl, ?_⟩
  have hj' := (List.getElem?_eq_some_iff.1 hj).1
  rw [svs_length, sortS_len] at hj'
  have h1 := (hH j (by omega)).1
  rw [Nat.zero_add] at h1
  rw [svs_get (by rw [sortS_len]; exact hj')] at hj
  rw [addr_at, Nat.zero_add, h1, ← hj]
  unfold elE
  rw [sorted_is hl hs hB j hj']
set_option maxRecDepth 100000 in
set_option maxHeartbeats 8000000 in
theorem ordSort_any (ad : Addr) (c : Nat) (l : List ByteArray) (hlc : l.length ≤ c) (hc : c ≤ maxLen) (hn : l.length ≤ 1000) (hl : ∀ x ∈ l, x.size ≤ 1000) (w : World) (h : Came w (some ad) (svs l)) :
    Calls Try.prog 19 #[.slice (some ad) l.length c] w fun e w' => ∃ g c', e = .returned (.slice (some ⟨g, 0, none⟩) l.length c') ∧ l.length ≤ c' ∧ c' ≤ maxLen ∧ Came w' (some ⟨g, 0, none⟩) (svs (sortS l)) ∧ RowKit.Below w.heap.size w w' := by
  have HC := Lib.hid (cloneS_any ad c l hlc hc (by omega) w h)
  clear h
  go_enter Try.func19, Try.ntmps19
  go_wp2_with fail
  refine HC.out.mono ?_
  rintro e w1 ⟨v, g, rfl, hS, hg, hB⟩
  obtain ⟨c1, rfl, hc1, hcm1⟩ := hS.open (n := l.length) (svs_length l)
  have HS := Lib.hid hS
  have HB := Lib.hid hB
  have hgl := hS.lt
  have hw1 : w.heap.size ≤ w1.heap.size := hB.size
  clear hS hB HC
  go_wp2_with fail
  have hbx : (w1.alloc (.cells #[.slice (some ⟨g, 0, none⟩) l.length c1] 38)).cell? ⟨w1.heap.size, 0, none⟩ = some (.slice (some ⟨g, 0, none⟩) l.length c1) := by simp
  have hBg : w1.heap.size ≠ g := by omega
  have HS1 := Lib.hid (HS.out.alloc (.cells #[.slice (some ⟨g, 0, none⟩) l.length c1] 38))
  have HB1 : Hid (RowKit.Below w.heap.size w (w1.alloc (.cells #[.slice (some ⟨g, 0, none⟩) l.length c1] 38))) := Lib.hid (HB.out.alloc hw1 _)
  refine (sliceStable_any w1.heap.size g c1 l hl hn hBg _ hbx (by simp) HS1.out).mono ?_
  rintro e w2 ⟨rfl, d', hs', hK', hW'⟩
  have hb2 : w2.cell? ⟨w1.heap.size, 0, none⟩ = some (.slice (some ⟨g, 0, none⟩) l.length c1) := (sw_old hW' (a := ⟨w1.heap.size, 0, none⟩) (by simp) hBg).trans hbx
  have hH2 : Holds elE w2 g 0 d' := hW'.holds HS1.out.lt (holds_of_sl HS1.out hl) (by rw [elA_size]; exact hs')
  have HD := Lib.hid (And.intro (came_sorted hl hs' hK' hH2) (HB1.out.trans (sw_below hW' hg HB1.out.size)))
  clear hK' hW' hH2 hbx HS HS1 HB HB1
  go_wp2_with fail
  go_returns
  first
    | exact ⟨g, c1, rfl, hc1, hcm1, HD.out.1, HD.out.2⟩
    | exact ⟨_, _, rfl, hc1, hcm1, HD.out.1, HD.out.2⟩
end Go.Proofs.Ytnlhpldjficecaa
