/- What the reference's Same of layer 9 gives of one and the same events. -/
import Derived.Test.YtagigdefghnnhaaEvMem
import Derived.Deep.LoopGhost
import Derived.Deep.QuietTactic
import Derived.BigQuiet
namespace Go.Proofs.Ytagigdefghnnhaa
open Go.RowKit Go.PlainAid
set_option linter.unusedVariables false
theorem evCs_at (l : List Ev) (i : Nat) (h : i < l.length) (k : Nat) (hk : k < 7) : (evCs l)[i * 7 + k]? = (evC l[i])[k]? := by
  induction l generalizing i with
  | nil => simp at h
  | cons e r ih =>
    show (evC e ++ evCs r)[i * 7 + k]? = _
    cases i with
    | zero => rw [List.getElem?_append_left (by simp [evC]; omega)]; simp
    | succ i =>
      rw [List.getElem?_append_right (by simp [evC]; omega), show (i + 1) * 7 + k - (evC e).length = i * 7 + k by simp [evC]; omega, ih i (by simpa using h)]
      rfl
theorem Evs.cellAt {w : World} {base g c : Nat} {l : List Ev} {n : Nat} (h : Evs w base (.slice (some ⟨g, 0, none⟩) n c) l) (i : Nat) (hi : i < l.length) (k : Nat) (hk : k < 7) : w.cell? ⟨g, i * 7 + k, none⟩ = (evC l[i])[k]? := by
  rw [← evCs_at l i hi k hk]
  have hlt : i * 7 + k < (evCs l).length := by rw [evCs_length]; omega
  have hc := World.ownsRow.cells h (g := g) rfl (i * 7 + k) _ (List.getElem?_eq_getElem hlt)
  rw [show (⟨g, 0, none⟩ : Addr).add (i * 7 + k) = ⟨g, i * 7 + k, none⟩ by unfold Addr.add; split <;> simp_all] at hc
  rw [hc, List.getElem?_eq_getElem hlt]
theorem Evs.evAt {w : World} {base g c : Nat} {l : List Ev} {m : Nat} (h : Evs w base (.slice (some ⟨g, 0, none⟩) m c) l) (i : Nat) (hi : i < l.length) {k p c' t : Int} {f : Bool} {n b : Int} (he : l[i] = ⟨k, p, c', t, f, n, b⟩) :
    w.cell? ⟨g, i * 7, none⟩ = some (.int .i64 k) ∧ w.cell? ⟨g, i * 7 + 1, none⟩ = some (.int .i64 p) ∧ w.cell? ⟨g, i * 7 + 2, none⟩ = some (.int .i64 c') ∧ w.cell? ⟨g, i * 7 + 3, none⟩ = some (.int .i64 t) ∧ w.cell? ⟨g, i * 7 + 4, none⟩ = some (.bool f) ∧ w.cell? ⟨g, i * 7 + 5, none⟩ = some (.int .i64 n) ∧ w.cell? ⟨g, i * 7 + 6, none⟩ = some (.int .u8 b) := by
  have hc := h.cellAt i hi
  rw [he] at hc
  exact ⟨hc 0 (by decide), hc 1 (by decide), hc 2 (by decide), hc 3 (by decide), hc 4 (by decide), hc 5 (by decide), hc 6 (by decide)⟩
set_option maxRecDepth 100000 in
set_option maxHeartbeats 4000000 in
theorem refSame_any {w : World} {b1 b2 : Nat} {v1 v2 : Value} {l : List Ev} (h1 : Evs w b1 v1 l) (h2 : Evs w b2 v2 l) (hl : l.length ≤ 100000000) :
    Calls Try.prog 15 #[v1, v2] w fun r w' => r = .returned (.bool true) ∧ ∃ n, w' = w.drewN n := by
  by_cases hz : l = []
  · subst hz
    obtain ⟨o1, c1, rfl⟩ : ∃ o1 c1, v1 = .slice o1 0 c1 := by rcases h1.shape with ⟨rfl, _⟩ | ⟨g, c, rfl, _⟩; exact ⟨_, _, rfl⟩; exact ⟨_, _, rfl⟩
    obtain ⟨o2, c2, rfl⟩ : ∃ o2 c2, v2 = .slice o2 0 c2 := by rcases h2.shape with ⟨rfl, _⟩ | ⟨g, c, rfl, _⟩; exact ⟨_, _, rfl⟩; exact ⟨_, _, rfl⟩
    clear h1 h2
    go_enter Try.func15, Try.ntmps15
    go_wp2_with fail
    go_loopw [5] (fun iv wr => iv = .int .i64 0 ∧ wr = w) (fun _ _ => 0)
    case atStart => exact ⟨rfl, rfl⟩
    case round =>
      obtain ⟨rfl, rfl⟩ := hrel
      go_wp2
      go_returns
      exact ⟨rfl, 0, rfl⟩
  · have hl0 : 0 < l.length := List.length_pos_iff.2 hz
    obtain ⟨g1, c1, rfl, hc1, _, _, _⟩ : ∃ g c, v1 = .slice (some ⟨g, 0, none⟩) l.length c ∧ l.length ≤ c ∧ c ≤ maxLen ∧ b1 ≤ g ∧ g < w.heap.size := by
      rcases h1.shape with ⟨_, hh⟩ | hh
      · exact absurd hh hz
      · exact hh
    obtain ⟨g2, c2, rfl, hc2, _, _, _⟩ : ∃ g c, v2 = .slice (some ⟨g, 0, none⟩) l.length c ∧ l.length ≤ c ∧ c ≤ maxLen ∧ b2 ≤ g ∧ g < w.heap.size := by
      rcases h2.shape with ⟨_, hh⟩ | hh
      · exact absurd hh hz
      · exact hh
    have HA := Lib.hid (fun (W : World) (n : Nat) (h : W = w.drewN n) => show Evs W b1 (.slice (some ⟨g1, 0, none⟩) l.length c1) l by subst h; exact own_draws h1 n)
    have HB := Lib.hid (fun (W : World) (n : Nat) (h : W = w.drewN n) => show Evs W b2 (.slice (some ⟨g2, 0, none⟩) l.length c2) l by subst h; exact own_draws h2 n)
    have HGE := Lib.hid (fun (i : Nat) (h : i < l.length) => show l[i] = l[i] from rfl)
    clear h1 h2
    go_enter Try.func15, Try.ntmps15
    go_wp2_with fail
    go_loopg [5] l.length (fun gk iv wr => ∃ i : Nat, iv = .int .i64 (i : Int) ∧ i ≤ l.length ∧ l.length - i ≤ gk ∧ Hid (∃ n, wr = w.drewN n))
    case atStart => exact ⟨0, rfl, by omega, by omega, Lib.hid ⟨0, rfl⟩⟩
    case round =>
      obtain ⟨i, rfl, hi, hgk, HW⟩ := hrel
      obtain ⟨nd, hw⟩ := HW.out
      by_cases hlt : i < l.length
      · have hlt2 : (i : Int) < (l.length : Int) := by omega
        have hA := HA.out wr nd hw
        have hB := HB.out wr nd hw
        obtain ⟨⟨k, p, c', t, f, n, b⟩, he⟩ : ∃ e, l[i] = e := ⟨_, rfl⟩
        obtain ⟨x0, x1, x2, x3, x4, x5, x6⟩ := hA.evAt i hlt he
        obtain ⟨y0, y1, y2, y3, y4, y5, y6⟩ := hB.evAt i hlt he
        have hwl := HW
        clear hA hB he HA HB hw
        have hc1' : i < c1 := by omega
        go_wp2_with fail
        go_quiet (fail)
        go_wp2
        go_roundg (l.length - (i + 1))
        case measure => omega
        case rel => exact ⟨i + 1, by simp, by omega, by omega, Lib.hid (by obtain ⟨n, h⟩ := hwl.out; exact ⟨n + nq, by rw [h, World.drewN_drewN]⟩)⟩
      · have hlt2 : ¬ (i : Int) < (l.length : Int) := by omega
        clear HA HB
        go_wp2
        go_returns
        exact ⟨rfl, nd, by first | rfl | exact hw⟩
end Go.Proofs.Ytagigdefghnnhaa
