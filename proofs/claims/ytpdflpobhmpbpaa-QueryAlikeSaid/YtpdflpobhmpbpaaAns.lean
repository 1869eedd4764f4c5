/- Answers in memory: a list of them in a slice of a call's own; the reference's Same. -/
import Derived.Test.YtpdflpobhmpbpaaOwn
import Derived.Test.YtpdflpobhmpbpaaU64
import Derived.Test.YtpdflpobhmpbpaaByteSl
import Derived.Test.YtpdflpobhmpbpaaChecked
import Derived.WalkKit
import Derived.WalkSpells
import Derived.Handy
import Derived.Lib.Hide
import Derived.Deep.RegionLaw
import Derived.Deep.LoopGhost
import Derived.Deep.QuietTactic
import Derived.BigQuiet
namespace Go.Proofs.Ytpdflpobhmpbpaa
open Go.RowKit Go.PlainAid
set_option linter.unusedVariables false
def avV (a : Bool × ByteArray) : Value := .agg #[.bool a.1, .string a.2]
def avC (a : Bool × ByteArray) : List Value := [.bool a.1, .string a.2]
def avs (l : List (Bool × ByteArray)) : List Value := l.flatMap avC
theorem avs_append (l m : List (Bool × ByteArray)) : avs (l ++ m) = avs l ++ avs m := by simp [avs]
theorem avs_length (l : List (Bool × ByteArray)) : (avs l).length = l.length * 2 := by
  induction l with
  | nil => rfl
  | cons e r ih => show (avC e ++ avs r).length = _; rw [List.length_append, ih]; simp [avC]; omega
theorem avs_one (l : List (Bool × ByteArray)) : ∀ u ∈ avs l, u.oneCell' = true := by
  intro u hu
  obtain ⟨e, _, h⟩ := List.mem_flatMap.1 hu
  simp [avC] at h
  rcases h with rfl | rfl <;> rfl
theorem avs_at (l : List (Bool × ByteArray)) (i : Nat) (h : i < l.length) (k : Nat) (hk : k < 2) : (avs l)[i * 2 + k]? = (avC l[i])[k]? := by
  induction l generalizing i with
  | nil => simp at h
  | cons e r ih =>
    show (avC e ++ avs r)[i * 2 + k]? = _
    cases i with
    | zero => rw [List.getElem?_append_left (by simp [avC]; omega)]; simp
    | succ i =>
      rw [List.getElem?_append_right (by simp [avC]; omega), show (i + 1) * 2 + k - (avC e).length = i * 2 + k by simp [avC]; omega, ih i (by simpa using h)]
      rfl
theorem infoAns : (Try.prog.info? 43).map (fun i => (i.zero, i.size, i.bytes)) = some (some (.agg #[.bool false, .string ⟨#[]⟩]), 2, 24) := by kernel_rfl
/-- A slice that a call has made (or nil) that holds these answers. -/
def Ans (w : World) (base : Nat) (v : Value) (l : List (Bool × ByteArray)) : Prop := w.ownsRow base 43 2 v l.length (avs l)
theorem Ans.below {w w' : World} {base : Nat} {v : Value} {l : List (Bool × ByteArray)} (h : Ans w base v l) (hb : Below w.heap.size w w') : Ans w' base v l := own_below h hb
theorem Ans.nil (w : World) (base : Nat) : Ans w base (.slice none 0 0) [] := World.ownsRow_nil _ _ _ _
theorem Ans.mono {w : World} {base base' : Nat} {v : Value} {l : List (Bool × ByteArray)} (h : Ans w base v l) (hb : base' ≤ base) : Ans w base' v l := by
  obtain ⟨hl, h1 | ⟨g, cap, cur, hv, hg, hh⟩⟩ := h
  · exact ⟨hl, .inl h1⟩
  · exact ⟨hl, .inr ⟨g, cap, cur, hv, Nat.le_trans hb hg, hh⟩⟩
theorem Ans.shape {w : World} {base : Nat} {v : Value} {l : List (Bool × ByteArray)} (h : Ans w base v l) : (v = .slice none 0 0 ∧ l = []) ∨ ∃ g c, v = .slice (some ⟨g, 0, none⟩) l.length c ∧ l.length ≤ c ∧ c ≤ maxLen ∧ base ≤ g ∧ g < w.heap.size := by
  rcases own_shape h with ⟨h1, h2⟩ | h1
  · exact .inl ⟨h1, List.eq_nil_of_length_eq_zero h2⟩
  · exact .inr h1
theorem Ans.isSl {w : World} {base : Nat} {v : Value} {l : List (Bool × ByteArray)} (h : Ans w base v l) : ∃ oa c, v = .slice oa l.length c := by
  rcases h.shape with ⟨rfl, rfl⟩ | ⟨g, c, rfl, _⟩
  · exact ⟨none, 0, rfl⟩
  · exact ⟨_, c, rfl⟩
theorem Ans.cells {w : World} {base g c : Nat} {l : List (Bool × ByteArray)} (h : Ans w base (.slice (some ⟨g, 0, none⟩) l.length c) l) : ∀ j u, (avs l)[j]? = some u → w.cell? ((⟨g, 0, none⟩ : Addr).add j) = some u := World.ownsRow.cells h rfl
theorem Ans.cellAt {w : World} {base g c : Nat} {l : List (Bool × ByteArray)} {n : Nat} (h : Ans w base (.slice (some ⟨g, 0, none⟩) n c) l) (i : Nat) (hi : i < l.length) (k : Nat) (hk : k < 2) : w.cell? ⟨g, i * 2 + k, none⟩ = (avC l[i])[k]? := by
  rw [← avs_at l i hi k hk]
  have hlt : i * 2 + k < (avs l).length := by rw [avs_length]; omega
  have hc := World.ownsRow.cells h (g := g) rfl (i * 2 + k) _ (List.getElem?_eq_getElem hlt)
  rw [show (⟨g, 0, none⟩ : Addr).add (i * 2 + k) = ⟨g, i * 2 + k, none⟩ by unfold Addr.add; split <;> simp_all] at hc
  rw [hc, List.getElem?_eq_getElem hlt]
theorem Ans.ansAt {w : World} {base g c : Nat} {l : List (Bool × ByteArray)} {m : Nat} (h : Ans w base (.slice (some ⟨g, 0, none⟩) m c) l) (i : Nat) (hi : i < l.length) {r : Bool} {d : ByteArray} (he : l[i] = (r, d)) :
    w.cell? ⟨g, i * 2, none⟩ = some (.bool r) ∧ w.cell? ⟨g, i * 2 + 1, none⟩ = some (.string d) := by
  have hc := h.cellAt i hi
  rw [he] at hc
  exact ⟨hc 0 (by decide), hc 1 (by decide)⟩
theorem Ans.drewN {w : World} {base : Nat} {v : Value} {l : List (Bool × ByteArray)} (h : Ans w base v l) (n : Nat) : Ans (w.drewN n) base v l := own_draws h n
theorem Ans.made {w : World} {base g : Nat} (h : Row w g 43 []) (hb : base ≤ g) : Ans w base (.slice (some ⟨g, 0, none⟩) 0 0) [] := by
  refine ⟨rfl, .inr ⟨g, 0, #[], rfl, hb, ?_, Nat.le_refl _, Nat.zero_le _, rfl, rfl⟩⟩
  exact h
/-- A slice that is laid whole. -/
theorem Ans.laid {w : World} {base g : Nat} {l : List (Bool × ByteArray)} (h : Row w g 43 (avs l)) (hb : base ≤ g) (hl : l.length ≤ maxLen) : Ans w base (.slice (some ⟨g, 0, none⟩) l.length l.length) l := by
  refine ⟨by rw [avs_length], .inr ⟨g, l.length, (avs l).toArray, rfl, hb, h, Nat.le_refl _, hl, ?_, ?_⟩⟩
  · simp [avs_length]
  · have e : l.length * 2 = (avs l).length := (avs_length l).symm
    simp [e]
theorem made_cells2 (n : Nat) : (madeCells #[.bool false, .string ⟨#[]⟩] (n * 2)).toList = avs (List.replicate n (false, ⟨#[]⟩)) := by
  apply List.ext_getElem?
  intro j
  by_cases hj : j < n * 2
  · have hm : j % 2 = 0 ∨ j % 2 = 1 := by omega
    have hx := avs_at (List.replicate n ((false, ⟨#[]⟩) : Bool × ByteArray)) (j / 2) (by rw [List.length_replicate]; omega) (j % 2) (by omega)
    rw [show j / 2 * 2 + j % 2 = j by omega] at hx
    rw [hx, List.getElem_replicate]
    rcases hm with h | h <;> simp [madeCells, h, hj, avC]
  · rw [List.getElem?_eq_none (by rw [Array.length_toList, size_madeCells]; omega), List.getElem?_eq_none (by rw [avs_length, List.length_replicate]; omega)]
/-- make: so many answers, none of them yes. -/
theorem made_ans (n : Nat) (hn : n ≤ 1000000) : ∃ C : Array Value, (∀ w : World, (Instr.makeSlice 31 (.int .i64 (n : Int)) (.int .i64 (n : Int))).run Try.prog w = .ok (.slice (some ⟨w.heap.size, 0, none⟩) n n) (w.alloc (.cells C 43))) ∧
    ∀ w : World, Ans (w.alloc (.cells C 43)) w.heap.size (.slice (some ⟨w.heap.size, 0, none⟩) n n) (List.replicate n (false, ⟨#[]⟩)) := by
  obtain ⟨i0, hi, hz0, hz1, hz2⟩ := info_parts infoAns
  refine ⟨madeCells #[.bool false, .string ⟨#[]⟩] (n * 2), fun w => ?_, fun w => ?_⟩
  · have hr := run_make (P := Try.prog) w 31 43 i0 _ Try.underlying31 hi hz0 .i64 .i64 n n (by omega) (Int.le_refl _) (by rw [hz2]; omega) (by omega)
    simp only [Int.toNat_natCast, hz1] at hr
    exact hr
  · have h := Ans.laid (w := w.alloc (.cells (madeCells #[.bool false, .string ⟨#[]⟩] (n * 2)) 43)) (base := w.heap.size) (g := w.heap.size) (l := List.replicate n (false, ⟨#[]⟩)) (by
      have := Row.new w 43 (madeCells #[.bool false, .string ⟨#[]⟩] (n * 2)).toList
      rw [Array.toArray_toList, made_cells2] at this
      exact this) (Nat.le_refl _) (by rw [List.length_replicate]; unfold maxLen; omega)
    rw [List.length_replicate] at h
    exact h
/-- Its block. -/
theorem Ans.ob {w : World} {base : Nat} {v : Value} {l : List (Bool × ByteArray)} (h : Ans w base v l) {b : Nat} (hb : v.ownBlock = some b) : base ≤ b ∧ b < w.heap.size := by
  rcases h.shape with ⟨rfl, _⟩ | ⟨g, c, rfl, _, _, h1, h2⟩
  · cases hb
  · cases hb; exact ⟨h1, h2⟩
theorem Ans.grown {a w w' : World} {base : Nat} {v : Value} {l : List (Bool × ByteArray)} (h : Ans w base v l) (hB : Below base a w) (hbs : base ≤ w.heap.size) (hg : w.grownBy w' v.ownBlock) : Below base a w' :=
  hB.grown hg hbs (fun k hk => (h.ob hk).1)
/-- What changes other blocks leaves it. -/
theorem Ans.chg {F : Nat → Prop} {w w' : World} {base : Nat} {v : Value} {l : List (Bool × ByteArray)} (h : Ans w base v l) (hc : Chg F w w') (hF : ∀ b, v.ownBlock = some b → ¬ F b) : Ans w' base v l := by
  obtain ⟨hl, h1 | ⟨g, cap, cur, rfl, hg, hh, hn, hcp, hs, ht⟩⟩ := h
  · exact ⟨hl, .inl h1⟩
  · refine ⟨hl, .inr ⟨g, cap, cur, rfl, hg, ?_, hn, hcp, hs, ht⟩⟩
    have hlt : g < w.heap.size := by
      rcases Nat.lt_or_ge g w.heap.size with h1 | h1
      · exact h1
      · rw [Array.getElem?_eq_none h1] at hh; cases hh
    rw [hc.block g hlt (hF g rfl)]; exact hh
theorem Ans.far {w : World} {base : Nat} {v : Value} {l : List (Bool × ByteArray)} (h : Ans w base v l) {p : Addr} (hp : p.block < base) (u : Value) : Ans (w.setCell p u) base v l :=
  h.chg (F := fun i => i = p.block) ⟨rfl, rfl, rfl, by simp, fun i _ hi => Below.heap_setCell w p u i hi⟩ (fun b hb e => by have := (h.ob hb).1; omega)
/-- append, as one step of a region that draws. -/
theorem step_append_ans {ops : Array Oper} {o : Oper} {a : Act} {w : World} {K : Act → World → Prop} {Q : Exit → Act → World → Prop} {E : Prop} (hg : o.guard = none) (s x : Operand)
    (hop : o.op = .call { callee := .builtin .append, args := #[s, x], argTypes := #[31, 31] })
    (base : Nat) {v : Value} {l : List (Bool × ByteArray)} (hv : a.eval s = v) (hs : Ans w base v l) (hb : base ≤ w.heap.size)
    (ad : Addr) (m c : Nat) (l2 : List (Bool × ByteArray)) (hx : a.eval x = .slice (some ad) m c) (hm : l2.length = m) (hc : ∀ j u, (avs l2)[j]? = some u → w.cell? (ad.add j) = some u) (h63 : l.length + l2.length ≤ 1000000000)
    (hK : ∀ v' w', Ans w' base v' (l ++ l2) → w.grownBy w' v.ownBlock → (v' = .slice none 0 0 ↔ v = .slice none 0 0 ∧ m = 0) → K (a.put o.dst v') w') :
    if Region.wanted o (yielded ops a.tmps) = true then Oper.wp Try.prog o a w K Q else E := by
  have hw : Region.wanted o (yielded ops a.tmps) = true := by simp [Region.wanted, hg]
  rw [if_pos hw]
  obtain ⟨i0, hi, hz0, hz1, hz2⟩ := info_parts infoAns
  refine wp_append_own (P := Try.prog) (w := w) s x 31 hop base 43 i0 _ 2 24 Try.underlying31 hi hz0 hz1 hz2 rfl (by decide) v l.length (avs l) hv hs ad m c (avs l2) hx (by rw [avs_length, hm]) hc (avs_one _) (by unfold maxLen; omega) (by omega) hb ?_
  intro v' w' h1 h2 h3
  refine hK v' w' ?_ h2 h3
  unfold Ans
  rw [List.length_append, hm, avs_append]
  exact h1
/-- append, as one operation of a walk. -/
theorem wpList_append_ans {w : World} {ops : Array Oper} {rest : List Oper} {o : Oper} {a : Act} {Q : Exit → Act → World → Prop} (hgd : o.guard = none) (s x : Operand)
    (ho : o.op = .call { callee := .builtin .append, args := #[s, x], argTypes := #[31, 31] })
    (base : Nat) {v : Value} {l : List (Bool × ByteArray)} (hv : a.eval s = v) (hs : Ans w base v l) (hb : base ≤ w.heap.size)
    (ad : Addr) (m c : Nat) (l2 : List (Bool × ByteArray)) (hx : a.eval x = .slice (some ad) m c) (hm : l2.length = m) (hc : ∀ j u, (avs l2)[j]? = some u → w.cell? (ad.add j) = some u) (h63 : l.length + l2.length ≤ 1000000000)
    (h : ∀ v' w', Ans w' base v' (l ++ l2) → w.grownBy w' v.ownBlock → (v' = .slice none 0 0 ↔ v = .slice none 0 0 ∧ m = 0) → wpList Try.prog ops Q rest (a.put o.dst v') w') : wpList Try.prog ops Q (o :: rest) a w := by
  obtain ⟨i0, hi, hz0, hz1, hz2⟩ := info_parts infoAns
  refine wpList_append_own _ hgd s x 31 ho base 43 i0 _ 2 24 Try.underlying31 hi hz0 hz1 hz2 rfl (by decide) v l.length (avs l) hv hs ad m c (avs l2) hx (by rw [avs_length, hm]) hc (avs_one _) (by unfold maxLen; omega) (by omega) hb ?_
  intro v' w' q1 q2 q3
  refine h v' w' ?_ q2 q3
  unfold Ans
  rw [List.length_append, hm, avs_append]; exact q1
theorem row_cells18 {w : World} {g : Nat} {t : TypeId} {l : List Value} (h : Row w g t l) : ∀ j u, l[j]? = some u → w.cell? ((⟨g, 0, none⟩ : Addr).add j) = some u := by
  intro j u hj
  rw [show (⟨g, 0, none⟩ : Addr).add j = ⟨g, j, none⟩ by unfold Addr.add; split <;> simp_all, h.cell]; exact hj
set_option maxRecDepth 100000 in
set_option maxHeartbeats 4000000 in
/-- Same, of one and the same answers. -/
theorem refSame18_any {w : World} {b1 b2 : Nat} {v1 v2 : Value} {l : List (Bool × ByteArray)} (h1 : Ans w b1 v1 l) (h2 : Ans w b2 v2 l) (hl : l.length ≤ 100000000) :
    Calls Try.prog 12 #[v1, v2] w fun r w' => r = .returned (.bool true) ∧ ∃ n, w' = w.drewN n := by
  by_cases hz : l = []
  · subst hz
    obtain ⟨o1, c1, rfl⟩ : ∃ o1 c1, v1 = .slice o1 0 c1 := h1.isSl
    obtain ⟨o2, c2, rfl⟩ : ∃ o2 c2, v2 = .slice o2 0 c2 := h2.isSl
    clear h1 h2
    go_enter Try.func12, Try.ntmps12
    go_wp2_with fail
    go_loopw [5] (fun iv wr => iv = .int .i64 0 ∧ wr = w) (fun _ _ => 0)
    case atStart => exact ⟨rfl, rfl⟩
    case round =>
      obtain ⟨rfl, rfl⟩ := hrel
      go_wp2
      go_returns
      exact ⟨rfl, 0, rfl⟩
  · have hl0 : 0 < l.length := List.length_pos_iff.2 hz
    obtain ⟨g1, c1, rfl, hc1, _, _, _⟩ : ∃ g c, v1 = .slice (some ⟨g, 0, none⟩) l.length c ∧ l.length ≤ c ∧ c ≤ maxLen ∧ b1 ≤ g ∧ g < w.heap.size := by
      rcases h1.shape with ⟨_, hh⟩ | hh
      · exact absurd hh hz
      · exact hh
    obtain ⟨g2, c2, rfl, hc2, _, _, _⟩ : ∃ g c, v2 = .slice (some ⟨g, 0, none⟩) l.length c ∧ l.length ≤ c ∧ c ≤ maxLen ∧ b2 ≤ g ∧ g < w.heap.size := by
      rcases h2.shape with ⟨_, hh⟩ | hh
      · exact absurd hh hz
      · exact hh
    have HA := Lib.hid (fun (W : World) (n : Nat) (h : W = w.drewN n) => show Ans W b1 (.slice (some ⟨g1, 0, none⟩) l.length c1) l by subst h; exact own_draws h1 n)
    have HB := Lib.hid (fun (W : World) (n : Nat) (h : W = w.drewN n) => show Ans W b2 (.slice (some ⟨g2, 0, none⟩) l.length c2) l by subst h; exact own_draws h2 n)
    clear h1 h2
    go_enter Try.func12, Try.ntmps12
    go_wp2_with fail
    go_loopg [5] l.length (fun gk iv wr => ∃ i : Nat, iv = .int .i64 (i : Int) ∧ i ≤ l.length ∧ l.length - i ≤ gk ∧ Hid (∃ n, wr = w.drewN n))
    case atStart => exact ⟨0, rfl, by omega, by omega, Lib.hid ⟨0, rfl⟩⟩
    case round =>
      obtain ⟨i, rfl, hi, hgk, HW⟩ := hrel
      obtain ⟨nd, hw⟩ := HW.out
      by_cases hlt : i < l.length
      · have hlt2 : (i : Int) < (l.length : Int) := by omega
        have hA := HA.out wr nd hw
        have hB := HB.out wr nd hw
        obtain ⟨⟨r, d⟩, he⟩ : ∃ e, l[i] = e := ⟨_, rfl⟩
        obtain ⟨x0, x1⟩ := hA.ansAt i hlt he
        obtain ⟨y0, y1⟩ := hB.ansAt i hlt he
        have hwl := HW
        clear hA hB he HA HB hw
        have hc1' : i < c1 := by omega
        go_wp2_with fail
        go_quiet (fail)
        go_wp2
        go_roundg (l.length - (i + 1))
        case measure => omega
        case rel => exact ⟨i + 1, by simp, by omega, by omega, Lib.hid (by obtain ⟨n, h⟩ := hwl.out; exact ⟨n + nq, by rw [h, World.drewN_drewN]⟩)⟩
      · have hlt2 : ¬ (i : Int) < (l.length : Int) := by omega
        clear HA HB
        go_wp2
        go_returns
        exact ⟨rfl, nd, by first | rfl | exact hw⟩
end Go.Proofs.Ytpdflpobhmpbpaa
