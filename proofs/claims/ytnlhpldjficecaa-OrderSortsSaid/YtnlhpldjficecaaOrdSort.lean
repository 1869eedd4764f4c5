/- Package order's Sort: the elements in order, those that are neither's as they stood. Of at most 1000 elements of at most 1000 bytes each. -/
import Derived.Test.YtnlhpldjficecaaSortStable
import Derived.Test.YtnlhpldjficecaaOrdCmp
import Derived.Test.YtnlhpldjficecaaRefOrd3
import Derived.Deep.QuietTactic
import Derived.BigQuiet
namespace Go.Proofs.Ytnlhpldjficecaa
open Go.Shelf Go.RowKit Go.Lib Go.Sort Go.PlainAid
set_option linter.unusedVariables false
/-- Elements of at most 1000 bytes. -/
abbrev El := { x : ByteArray // x.size ≤ 1000 }
instance : Inhabited El := ⟨⟨⟨#[]⟩, by decide +kernel⟩⟩
def elE (x : El) : Value := .string x.1
def elL (x y : El) : Bool := decide (cmpL (bl x.1) (bl y.1) < 0)
theorem elL_true {x y : El} : elL x y = true ↔ 0 < cmpL (bl y.1) (bl x.1) := by
  unfold elL; rw [decide_eq_true_iff]; have := cmpL_neg (bl x.1) (bl y.1); omega
theorem elL_false {x y : El} : elL x y = false ↔ cmpL (bl y.1) (bl x.1) ≤ 0 := by
  unfold elL; rw [decide_eq_false_iff_not]; have := cmpL_neg (bl x.1) (bl y.1); omega
theorem elO : SWO elL where
  irrefl x := elL_false.2 (by rw [cmpL_self]; exact Int.le_refl _)
  trans x y z h1 h2 := by
    cases h : elL x z with
    | true => rfl
    | false =>
      have k1 := elL_true.1 h1
      have k2 := elL_true.1 h2
      have k3 := elL_false.1 h
      have k4 := cmpL_neg (bl x.1) (bl y.1)
      have k5 := cmpL_trans k3 (show cmpL (bl x.1) (bl y.1) ≤ 0 by omega)
      omega
  ntrans x y z h1 h2 := elL_false.2 (cmpL_trans (elL_false.1 h2) (elL_false.1 h1))
/-- Behind those that don't come behind it: the reference's way is the merge's. -/
theorem kO_above (out : List ByteArray) (x : ByteArray) : ∀ n t, kO out x n ≤ t → t < n → 0 < cmpL (bl (out.getD t ⟨#[]⟩)) (bl x) := by
  intro n
  induction n with
  | zero => intro t h1 h2; omega
  | succ n ih =>
    intro t h1 h2
    rw [kO] at h1
    by_cases hc : 0 < cmpL (bl (out.getD n ⟨#[]⟩)) (bl x)
    · rw [if_pos hc] at h1
      by_cases e : t = n
      · subst e; exact hc
      · exact ih t h1 (by omega)
    · rw [if_neg hc] at h1; omega
theorem kO_below (out : List ByteArray) (x : ByteArray) : ∀ n k, kO out x n = k + 1 → ¬ 0 < cmpL (bl (out.getD k ⟨#[]⟩)) (bl x) := by
  intro n
  induction n with
  | zero => intro k h; cases h
  | succ n ih =>
    intro k h
    rw [kO] at h
    by_cases hc : 0 < cmpL (bl (out.getD n ⟨#[]⟩)) (bl x)
    · rw [if_pos hc] at h; exact ih k h
    · rw [if_neg hc] at h
      obtain rfl : n = k := by omega
      exact hc
theorem getD_map (A : List El) {t : Nat} (h : t < A.length) : (A.map (·.1)).getD t ⟨#[]⟩ = A[t].1 := by simp [List.getD, h]
theorem ins_is (A : List El) (x : El) (hA : Asc elL A) : (mrg elL A [x]).map (·.1) = insP (A.map (·.1)) x.1 := by
  obtain ⟨k, hk⟩ : ∃ k, kO (A.map (·.1)) x.1 (A.map (·.1)).length = k := ⟨_, rfl⟩
  have hkl : k ≤ A.length := by have := kO_le (A.map (·.1)) x.1 (A.map (·.1)).length; rw [hk, List.length_map] at this; exact this
  have h1 : ∀ y ∈ A.take k, elL x y = false := by
    intro y hy
    obtain ⟨t, ht, rfl⟩ := List.getElem_of_mem hy
    rw [List.length_take] at ht
    rw [List.getElem_take]
    cases k with
    | zero => omega
    | succ k =>
      have hb := kO_below _ _ _ _ hk
      rw [getD_map A (by omega)] at hb
      have hl : elL x (A[k]'(by omega)) = false := elL_false.2 (by omega)
      by_cases e : t = k
      · subst e; exact hl
      · exact elO.ntrans _ _ _ hl (List.pairwise_iff_getElem.1 hA t k (by omega) (by omega) (by omega))
  have h2 : ∀ z ∈ [x], ∀ y ∈ A.drop k, elL z y = true := by
    intro z hz y hy
    obtain rfl := List.mem_singleton.1 hz
    obtain ⟨t, ht, rfl⟩ := List.getElem_of_mem hy
    rw [List.length_drop] at ht
    rw [List.getElem_drop]
    have ha := kO_above (A.map (·.1)) z.1 (A.map (·.1)).length (k + t) (by omega) (by rw [List.length_map]; omega)
    rw [getD_map A (by omega)] at ha
    exact elL_true.2 ha
  have hm : mrg elL A [x] = A.take k ++ x :: A.drop k := by
    conv => lhs; rw [← List.take_append_drop k A]
    rw [mrg_ahead elL _ _ _ (fun y hy z hz => by obtain rfl := List.mem_singleton.1 hz; exact h1 y hy)]
    have := mrg_front elL (A.drop k) [x] [] h2
    rw [List.append_nil, mrg_nil_right] at this
    rw [this]; rfl
  rw [hm]
  unfold insP
  rw [hk, List.map_append, List.map_cons, List.map_take, List.map_drop]
theorem srt_is : ∀ (n : Nat) (A : List El), A.length = n → (srt elL A).map (·.1) = sortS (A.map (·.1)) := by
  intro n
  induction n with
  | zero =>
    intro A hA
    obtain rfl : A = [] := List.length_eq_zero_iff.1 hA
    rfl
  | succ n ih =>
    intro A hA
    obtain ⟨k, x, rfl⟩ : ∃ k x, A = k ++ [x] := ⟨A.dropLast, A.getLast (by intro e; rw [e] at hA; simp at hA), (List.dropLast_concat_getLast _).symm⟩
    rw [srt_snoc, ins_is _ _ (asc_srt elO _ _ rfl), ih k (by simpa using hA), List.map_append, List.map_cons, List.map_nil, sortS_snoc]
/-- What the sort changes: the row's block, and new ones. -/
theorem sw_below {α : Type} [Inhabited α] {enc : α → Value} {blk off B : Nat} {d : Array α} {w W : World} (h : SW enc w blk off d W) (hB : B ≤ blk) (hw : B ≤ w.heap.size) : Below B w W := by
  obtain ⟨n, os, rfl⟩ := h
  refine ⟨rfl, rfl, rfl, ?_, fun i hi => ?_⟩
  · unfold sortWorld; rw [size_grow, size_putRow]; show w.heap.size ≤ w.heap.size + _; omega
  · unfold sortWorld
    rw [heap_grow_old _ _ (by rw [size_putRow]; show i < w.heap.size; omega)]
    unfold putRow mapBlock
    show (w.heap.modify blk _)[i]? = _
    rw [Array.getElem?_modify, if_neg (by omega)]
set_option maxHeartbeats 4000000 in
theorem cloneS_any (ad : Addr) (c : Nat) (l : List ByteArray) (hl : l.length ≤ c) (hc : c ≤ maxLen) (hn : l.length ≤ 1000000) (w : World) (h : Came w (some ad) (svs l)) :
    Calls Try.prog 26 #[.slice (some ad) l.length c] w fun e w' => ∃ v g, e = .returned v ∧ Sl w' 9 v (svs l) g ∧ w.heap.size ≤ g ∧ Below w.heap.size w w' := by
  have HEm : Hid (Sl (w.alloc (.cells #[] 9)) 9 (.slice (some ⟨w.heap.size, 0, none⟩) 0 0) (svs []) w.heap.size) := Lib.hid (sl_new_strs w [] (Nat.zero_le _))
  have HC : Hid (Came (w.alloc (.cells #[] 9)) (some ad) (svs l)) := Lib.hid (h.alloc _)
  have hl9 : ([] : List ByteArray).length + l.length ≤ 1000000000000 := by rw [List.length_nil]; omega
  have hE := Lib.run_eql_slice_nil (P := Try.prog) w 38 9 (some ad) l.length c 0 0 Try.underlying38
  clear h
  go_enter Try.func26, Try.ntmps26
  go_wp2_with (at_builtin; refine wpList_append_strs rfl (.tmp 5) (.tmp 6) rfl (l := []) (g := w.heap.size) rfl HEm.out (some ad) l.length c l rfl rfl HC.out hl9 ?_)
  intro v3 w3 g3 hs3 hg3 hgr3
  have hs3 : Sl w3 9 v3 (svs l) g3 := hs3
  have hB3 : Below w.heap.size w w3 := Below.grown ((Below.refl _ _).alloc (Nat.le_refl _) _) hgr3 (by simp) (by intro q hq; injection hq with hq; omega)
  have hg3w : w.heap.size ≤ g3 := by
    rcases hg3 with h | h <;> omega
  have HD := Lib.hid (And.intro hs3 hB3)
  clear hs3 hB3 hgr3 hg3 HEm HC
  go_wp2
  go_returns
  first | exact ⟨_, g3, rfl, HD.out.1, hg3w, HD.out.2⟩ | exact ⟨g3, rfl, HD.out.1, hg3w, HD.out.2⟩
set_option maxHeartbeats 4000000 in
/-- The function that compares. -/
theorem lessS_any (B g c n i j : Nat) (x y : El) (hi : i < n) (hj : j < n) (hn : n ≤ 1000000) (W : World) (hb : W.cell? ⟨B, 0, none⟩ = some (.slice (some ⟨g, 0, none⟩) n c)) (hx : W.cell? ⟨g, i, none⟩ = some (.string x.1)) (hy : W.cell? ⟨g, j, none⟩ = some (.string y.1)) :
    Calls Try.prog 28 #[.int .i64 (i : Int), .int .i64 (j : Int), .pointer (some ⟨B, 0, none⟩)] W fun e w' => e = .returned (.bool (elL x y)) ∧ ∃ q, w' = W.drewN q := by
  have HQ : Hid (∀ q, Calls Try.prog 9 #[.string x.1, .string y.1] (W.drewN q) fun e w' => e = .returned (.int .i64 (cmpL (bl x.1) (bl y.1))) ∧ w' = W.drewN q) := Lib.hid (fun q => ordCompare_any x.1 y.1 (by have := x.2; omega) (by have := y.2; omega) (W.drewN q))
  have hii : (i : Int) < (n : Int) := by omega
  have hjj : (j : Int) < (n : Int) := by omega
  unfold elL
  generalize cmpL (bl x.1) (bl y.1) = R at *
  generalize x.1 = xs at *
  generalize y.1 = ys at *
  go_enter Try.func28, Try.ntmps28
  go_wp2
  go_quiet (first | (go_at_call 9; exact Calls.quiet_of_same (HQ.out _)))
  go_wp2
  go_returns
  exact ⟨rfl, _, rfl⟩
noncomputable def strT : TypeInfo := (Try.prog.info? 38).get (by kernel_rfl)
noncomputable def strE : TypeInfo := (Try.prog.info? 9).get (by kernel_rfl)
theorem strK (n : Nat) (h2 : 2 ≤ n) : Lib.swapperK n strE 24 = 4 := by
  have a : strE.hasPointers = true := by kernel_rfl
  have b : strE.bytes = 16 := by kernel_rfl
  have c : (n == 0) = false := by simp; omega
  have d : (n == 1) = false := by simp; omega
  simp [Lib.swapperK, a, b, c, d]
/-- A list's elements as a row. -/
def elOf (x : ByteArray) : El := if h : x.size ≤ 1000 then ⟨x, h⟩ else default
theorem elOf_val {x : ByteArray} (h : x.size ≤ 1000) : (elOf x).1 = x := by unfold elOf; rw [dif_pos h]
def elA (l : List ByteArray) : Array El := (l.map elOf).toArray
theorem elA_size (l : List ByteArray) : (elA l).size = l.length := by simp [elA]
theorem elA_at {l : List ByteArray} {i : Nat} (hi : i < l.length) : (elA l)[i]! = elOf l[i] := by
  rw [getElem!_pos _ i (by rw [elA_size]; exact hi)]; simp [elA]
theorem elA_seg (l : List ByteArray) : seg (fun k => (elA l)[k]!) 0 l.length = l.map elOf := by
  apply List.ext_getElem
  · rw [seg_length, List.length_map]
  · intro i h1 h2
    rw [seg_length] at h1
    have : (seg (fun k => (elA l)[k]!) 0 l.length)[i]'(by rw [seg_length]; exact h1) = (elA l)[i]! := by simp [seg]
    rw [this, elA_at h1, List.getElem_map]
theorem map_elOf {l : List ByteArray} (h : ∀ x ∈ l, x.size ≤ 1000) : (l.map elOf).map (·.1) = l := by
  rw [List.map_map]
  conv => rhs; rw [← List.map_id l]
  exact List.map_congr_left (fun x hx => elOf_val (h x hx))
theorem holds_of_sl {w : World} {v : Value} {l : List ByteArray} {g : Nat} (h : Sl w 9 v (svs l) g) (hl : ∀ x ∈ l, x.size ≤ 1000) : Holds elE w g 0 (elA l) := by
  intro j hj
  rw [elA_size] at hj
  rw [Nat.zero_add]
  refine ⟨?_, ?_⟩
  · rw [h.cell (by rw [svs_length]; exact hj), elA_at hj]
    unfold elE
    rw [elOf_val (hl _ (List.getElem_mem hj))]
    simp [svs]
  · obtain ⟨sp, _, _, hr⟩ := h
    exact hr.frozen j
/-- What the row holds behind the sort, as a list. -/
theorem sorted_is {l : List ByteArray} (hl : ∀ x ∈ l, x.size ≤ 1000) {d' : Array El} (hs : d'.size = l.length) (h : Blk elL (fun k => (elA l)[k]!) (fun k => d'[k]!) 0 l.length) : ∀ j (hj : j < l.length), (d'[j]!).1 = (sortS l)[j]'(by rw [sortS_len]; exact hj) := by
  intro j hj
  unfold Blk at h
  rw [Nat.sub_zero, elA_seg] at h
  have h2 := congrArg (List.map (·.1)) h
  rw [srt_is _ _ rfl, map_elOf hl] at h2
  have h3 : ((seg (fun k => d'[k]!) 0 l.length).map (·.1))[j]? = some (d'[j]!).1 := by
    rw [List.getElem?_map]
    simp [seg, hj]
  rw [h2, List.getElem?_eq_getElem (by rw [sortS_len]; exact hj)] at h3
  exact (Option.some.inj h3).symm
set_option maxRecDepth 100000 in
set_option maxHeartbeats 8000000 in
/-- The library's stable sort of a row of elements, by the function that compares. -/
theorem sliceStable_any (B g c : Nat) (l : List ByteArray) (hl : ∀ x ∈ l, x.size ≤ 1000) (hn : l.length ≤ 1000) (hBg : B ≠ g) (w : World) (hb : w.cell? ⟨B, 0, none⟩ = some (.slice (some ⟨g, 0, none⟩) l.length c)) (hBw : B < w.heap.size) (hS : Sl w 9 (.slice (some ⟨g, 0, none⟩) l.length c) (svs l) g) :
    Calls Try.prog 27 #[.iface 38 (.slice (some ⟨g, 0, none⟩) l.length c), .func (.func 28) #[] #[.pointer (some ⟨B, 0, none⟩)]] w fun e w' => e = .returned (.tuple #[]) ∧ ∃ d' : Array El, d'.size = l.length ∧ Blk elL (fun k => (elA l)[k]!) (fun k => d'[k]!) 0 l.length ∧ SW elE w g 0 d' w' := by
  have hH := holds_of_sl hS hl
  have hgw := hS.lt
  have hsz := elA_size l
  have hgrow : SW elE w g 0 (elA l) w := SW.start hH
  by_cases h2 : 2 ≤ l.length
  · have hB : sliceBound Try.prog 9 strE 24 (some ⟨g, 0, none⟩) l.length c = #[.slice (some ⟨g, 0, none⟩) l.length c, typeHandle Try.prog 9] := by
      unfold sliceBound; rw [if_neg (swapperK_gt _ _ _ h2)]
    have hW : SW elE w g 0 (elA l) (stableWorld Try.prog Try.laysGt8_ren 38 (some ⟨g, 0, none⟩) l.length c w) := (hgrow.alloc _).alloc _
    have hless : LessReads Try.prog 28 #[.pointer (some ⟨B, 0, none⟩)] elE elL g 0 (elA l).size w := by
      intro m os dk hs i j hi hj
      have hk : SW elE w g 0 dk (sortWorld elE w g 0 m dk os) := ⟨m, os, rfl⟩
      have hkH := hk.holds hgw hH hs
      refine lessS_any B g c l.length i j dk[i]! dk[j]! (by omega) (by omega) (by omega) _ ?_ ?_ ?_
      · rw [sw_old hk hBw hBg]; exact hb
      · have := (hkH i (by omega)).1; rw [Nat.zero_add] at this; exact this
      · have := (hkH j (by omega)).1; rw [Nat.zero_add] at this; exact this
    have hswap : SwapSwaps Try.prog 40 #[.slice (some ⟨g, 0, none⟩) l.length c, typeHandle Try.prog 9] elE g 0 (elA l).size := by
      rw [hsz]
      exact swapSwaps_of_literal true 40 (fun args W => run_callFunc_extern Try.func40 (by kernel_rfl) (by kernel_rfl) (by kernel_rfl) (e := Extern.ReflectliteSwapper.swap true) (by kernel_rfl) args W) 9 strE (by kernel_rfl) (by kernel_rfl) (fun _ => by kernel_rfl) elE (fun _ => rfl) g 0 l.length c
    have hcan : Can elE elL ⟨28, #[.pointer (some ⟨B, 0, none⟩)], 40, #[.slice (some ⟨g, 0, none⟩) l.length c, typeHandle Try.prog 9], g, 0⟩ (elA l) w :=
      ⟨enters_of Try.func28 (by kernel_rfl) rfl, hless, hswap, hH, hgw, by rw [hsz]; omega⟩
    have hst := stable_any elO (hcan.on hW rfl)
    rw [hsz] at hst
    refine Any.sort_SliceStable_of_stable Try.laysGt8 38 9 strT strE (by kernel_rfl) (by kernel_rfl) (by kernel_rfl) (by kernel_rfl) 24 (fun _ => by kernel_rfl) (some ⟨g, 0, none⟩) l.length c (by omega) 40 (by rw [strK _ h2]; kernel_rfl) (.func 28) #[] #[.pointer (some ⟨B, 0, none⟩)] w _ ?_
    rw [hB]
    refine hst.mono ?_
    rintro e w' ⟨rfl, d', hs', hS', hK'⟩
    exact ⟨rfl, d', by omega, hK', sw_trans hW hgw hS' (by omega)⟩
  · have hid : ∀ w' os, w' = Sort.grow w os → ∃ d' : Array El, d'.size = l.length ∧ Blk elL (fun k => (elA l)[k]!) (fun k => d'[k]!) 0 l.length ∧ SW elE w g 0 d' w' := by
      rintro w' os rfl
      refine ⟨elA l, hsz, ?_, ⟨0, os, by unfold sortWorld; rw [show Sort.ahead w 0 = w from rfl, putRow_self _ _ _ _ _ hH]⟩⟩
      unfold Blk
      rw [Nat.sub_zero, elA_seg]
      match l, h2 with
      | [], _ => rfl
      | [x], _ => exact (srt_one elL _).symm
      | x :: y :: r, h2 => exact absurd (show 2 ≤ (x :: y :: r).length by simp) h2
    have HID := Lib.hid hid
    by_cases h0 : l.length = 0
    · refine (Any.sort_SliceStable_tiny Try.laysGt8 38 9 strT strE (by kernel_rfl) (by kernel_rfl) (by kernel_rfl) (by kernel_rfl) 24 (fun _ => by kernel_rfl) (some ⟨g, 0, none⟩) l.length c (by omega) 37 (by rw [h0]; kernel_rfl) (.func 28) #[] #[.pointer (some ⟨B, 0, none⟩)] w).mono ?_
      rintro e w' ⟨rfl, os, hw⟩
      exact ⟨rfl, HID.out w' os hw⟩
    · have h1 : l.length = 1 := by omega
      refine (Any.sort_SliceStable_tiny Try.laysGt8 38 9 strT strE (by kernel_rfl) (by kernel_rfl) (by kernel_rfl) (by kernel_rfl) 24 (fun _ => by kernel_rfl) (some ⟨g, 0, none⟩) l.length c (by omega) 38 (by rw [h1]; kernel_rfl) (.func 28) #[] #[.pointer (some ⟨B, 0, none⟩)] w).mono ?_
      rintro e w' ⟨rfl, os, hw⟩
      exact ⟨rfl, HID.out w' os hw⟩
end Go.Proofs.Ytnlhpldjficecaa
