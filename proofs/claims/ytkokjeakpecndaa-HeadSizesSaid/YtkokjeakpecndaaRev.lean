/- What slices.Reverse does to a slice of bytes. Of any slice from a block's head on. -/
import Derived.Test.YtkokjeakpecndaaChecked
import Derived.Test.YtkokjeakpecndaaMem
import Derived.Test.YtkokjeakpecndaaGrown
import Derived.WalkKit
import Derived.WalkSpells
import Derived.BigRegion
import Derived.Deep.LoopGhost
import Derived.Lib.SlicesMore
import Derived.Lib.Hide
namespace Go.Proofs.Ytkokjeakpecndaa
open Go.RowKit
set_option linter.unusedVariables false
theorem Sl.frozen {w : World} {t : TypeId} {v : Value} {l : List Value} {g : Nat} (h : Sl w t v l g) (i : Nat) : w.frozen? ⟨g, i, none⟩ = false := by
  obtain ⟨sp, _, _, h⟩ := h; exact h.frozen i
instance : Inhabited Value := ⟨.nilIface⟩
theorem swp_list (d : Array Value) (i j : Nat) (hi : i < d.size) (hj : j < d.size) : (Sort.swp d i j).toList = (d.toList.set i d[j]!).set j d[i]! := by
  simp [Sort.swp]
set_option maxHeartbeats 1600000 in
theorem reverse_any (v : Value) (l : List Value) (g : Nat) (w : World) (h : Sl w 5 v l g) (h1 : ∀ u ∈ l, ∃ x : Int, u = .int .u8 x) :
    Calls Try.prog 29 #[v] w fun e w' => e = .returned (.tuple #[]) ∧ Sl w' 5 v l.reverse g ∧ w.grownBy w' (some g) := by
  obtain ⟨cap, hv, hc, hm⟩ := h.open rfl
  have HSl := Lib.hid h
  have hn : l.length ≤ maxLen := by omega
  have HREV := Lib.hid (Lib.reverseLoop_reverse l.toArray)
  have H1 := Lib.hid h1
  have HM := Lib.hid hn
  have hn9 : (l.length : Int) ≤ 9223372036854775807 := by unfold maxLen at hn; omega
  have hsz : l.toArray.size = l.length := by simp
  rw [hsz] at HREV
  obtain ⟨n, hN⟩ : ∃ n, l.length = n := ⟨_, rfl⟩
  rw [hN] at hv HREV hn9
  have HN := Lib.hid hN
  subst hv
  clear h1 hn hc hm h hN hsz
  go_enter Try.func29, Try.ntmps29
  go_wp2
  go_loopg [2, 3] n (fun k s2 s3 wr => ∃ (i jn : Nat) (jz : Int) (dk : Array Value), s2 = .int .i64 i ∧ s3 = .int .i64 jz ∧ ((i : Int) < jz → jz = jn ∧ jn < n) ∧ (¬ (i : Int) < jz → ¬ i < jn) ∧ jn - i ≤ k ∧
    dk.size = n ∧ (∀ u ∈ dk.toList, ∃ x : Int, u = .int .u8 x) ∧ Sl wr 5 (.slice (some ⟨g, 0, none⟩) n cap) dk.toList g ∧ w.grownBy wr (some g) ∧ Sort.reverseLoop i jn dk = Sort.reverseLoop 0 (n - 1) l.toArray)
  case atStart => exact ⟨0, n - 1, (n : Int) - 1, l.toArray, rfl, rfl, fun h => ⟨by omega, by omega⟩, fun h => by omega, by omega, by simpa using HN.out, by simpa using H1.out, HSl.out, grown_refl _ _, rfl⟩
  case round =>
    obtain ⟨i, jn, jz, dk, rfl, rfl, h1, h2, hk, hds, hall, hsl, hgr, heq⟩ := hrel
    by_cases hlt : (i : Int) < jz
    · obtain ⟨rfl, hjn⟩ := h1 hlt
      have hij : i < jn := by omega
      obtain ⟨xi, ei⟩ := hall dk[i]! (by rw [getElem!_pos dk i (by omega)]; exact Array.getElem_mem_toList (by omega))
      obtain ⟨xj, ej⟩ := hall dk[jn]! (by rw [getElem!_pos dk jn (by omega)]; exact Array.getElem_mem_toList (by omega))
      have ci := hsl.cell (i := i) (by simp; omega)
      have cj := hsl.cell (i := jn) (by simp; omega)
      have fi := hsl.frozen i
      have fj := hsl.frozen jn
      rw [show dk.toList[i]'(by simp; omega) = .int .u8 xi by rw [← ei, getElem!_pos dk i (by omega)]; simp] at ci
      rw [show dk.toList[jn]'(by simp; omega) = .int .u8 xj by rw [← ej, getElem!_pos dk jn (by omega)]; simp] at cj
      have hsl2 := ((hsl.set (i := i) (by simp; omega) (.int .u8 xj)).set (i := jn) (by simp; omega) (.int .u8 xi))
      have esw := swp_list dk i jn (by omega) (by omega)
      rw [ei, ej] at esw
      rw [← esw] at hsl2
      have hall2 : ∀ u ∈ (Sort.swp dk i jn).toList, ∃ x : Int, u = .int .u8 x := by
        rw [esw]
        intro u hu
        rcases List.mem_or_eq_of_mem_set hu with hu | rfl
        · rcases List.mem_or_eq_of_mem_set hu with hu | rfl
          · exact hall u hu
          · exact ⟨_, rfl⟩
        · exact ⟨_, rfl⟩
      have HS := Lib.hid hsl2
      have HG := Lib.hid hgr
      have HA := Lib.hid hall2
      have HE := Lib.hid heq
      have HD := Lib.hid hds
      have HEI := Lib.hid ei
      have HEJ := Lib.hid ej
      clear hsl hsl2 hgr h1 h2 hall hall2 heq hds ei ej esw
      go_wp2_with fail
      go_region
      go_wp2
      go_roundg (jn - 1 - (i + 1))
      case measure => omega
      case rel =>
        have heq := HE.out
        rw [Sort.reverseLoop, if_pos hij] at heq
        exact ⟨i + 1, jn - 1, (jn : Int) - 1, Sort.swp dk i jn, by simp, rfl, fun h => ⟨by omega, by omega⟩, fun h => by omega, Nat.le_refl _, by rw [Sort.size_swp]; exact HD.out, HA.out, HS.out.drew, grown_drew (grown_set (grown_set HG.out _ _) _ _), heq⟩
    · have hnot := Lib.hid (h2 hlt)
      have HS := Lib.hid hsl
      have HG := Lib.hid hgr
      have HE := Lib.hid heq
      clear hsl hgr h1 h2 hall heq hds hk
      go_wp2
      go_end0
      refine ⟨rfl, ?_, HG.out⟩
      have heq := HE.out
      rw [Sort.reverseLoop, if_neg hnot.out, HREV.out] at heq
      have := HS.out
      rw [heq] at this
      simpa using this
end Go.Proofs.Ytkokjeakpecndaa
