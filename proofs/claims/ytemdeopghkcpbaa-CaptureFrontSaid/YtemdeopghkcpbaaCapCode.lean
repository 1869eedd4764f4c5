/- Package capture's calls, and what a capture's memory is: its block, and the bytes that it keeps. -/
import Derived.Test.YtemdeopghkcpbaaCapSpec
import Derived.Test.YtemdeopghkcpbaaByteSl
import Derived.Test.YtemdeopghkcpbaaMem2
import Derived.Test.YtemdeopghkcpbaaByteOwn
import Derived.Lib.SliceRun
import Derived.Deep.QuietTactic
import Derived.BigQuiet
import Derived.Deep.RegionLaw
import Derived.Deep.LoopGhost
import Derived.Handy
namespace Go.Proofs.Ytemdeopghkcpbaa
open Go.RowKit Go.PlainAid
set_option linter.unusedVariables false
/-- append onto nothing, as one step of a region that draws. -/
theorem step_append_nilb {ops : Array Oper} {o : Oper} {a : Act} {X : World} {K : Act → World → Prop} {Q : Exit → Act → World → Prop} {E : Prop} (hg : o.guard = none) (s x : Operand)
    (hop : o.op = .call { callee := .builtin .append, args := #[s, x], argTypes := #[44, 44] })
    (hv : a.eval s = .slice none 0 0) (gx c : Nat) (b : Int) (hx : a.eval x = .slice (some ⟨gx, 0, none⟩) 1 c) (hc : X.cell? ⟨gx, 0, none⟩ = some (.int .u8 b))
    (hK : ∀ v' X1 g', Sl X1 5 v' (u8s [b]) g' → X.heap.size ≤ g' → Below X.heap.size X X1 → K (a.put o.dst v') X1) :
    if Region.wanted o (yielded ops a.tmps) = true then Oper.wp Try.prog o a X K Q else E := by
  have hw : Region.wanted o (yielded ops a.tmps) = true := by simp [Region.wanted, hg]
  rw [if_pos hw]
  obtain ⟨i0, hi, hz0, hz1, hz2⟩ := info_parts infoU8
  refine wp_append_own (P := Try.prog) (w := X) s x 44 hop X.heap.size 5 i0 (.int .u8 0) 1 1 Try.underlying44 hi hz0 hz1 hz2 rfl (by decide) (.slice none 0 0) 0 [] hv (World.ownsRow_nil _ _ _ _) ⟨gx, 0, none⟩ 1 c [.int .u8 b] hx rfl ?_ ?_ (by unfold maxLen; omega) (by omega) (Nat.le_refl _) ?_
  · intro j u hj
    match j, hj with
    | 0, hj => simp at hj; subst hj; rw [addr0]; exact hc
  · intro u hu; simp at hu; subst hu; rfl
  · intro v' w' h1 h2 h3
    obtain ⟨g', hs, hg'⟩ := Sl.of_own h1 (fun h => by have := (h3.1 h).2; cases this)
    exact hK v' w' g' hs hg' ⟨h2.os, h2.tape, h2.output, h2.size, fun i hi => h2.block i hi (by intro h; cases h)⟩
/-- append onto a slice of the call's own, as one step of a region that draws. -/
theorem step_append_slb {ops : Array Oper} {o : Oper} {a : Act} {X : World} {K : Act → World → Prop} {Q : Exit → Act → World → Prop} {E : Prop} (hg : o.guard = none) (s x : Operand)
    (hop : o.op = .call { callee := .builtin .append, args := #[s, x], argTypes := #[44, 44] })
    {v : Value} {l : List Int} {g : Nat} (hv : a.eval s = v) (hs : Sl X 5 v (u8s l) g) (gx c : Nat) (b : Int) (hx : a.eval x = .slice (some ⟨gx, 0, none⟩) 1 c) (hc : X.cell? ⟨gx, 0, none⟩ = some (.int .u8 b)) (hl : l.length ≤ 100000000)
    (hK : ∀ v' X1 g', Sl X1 5 v' (u8s (l ++ [b])) g' → (g' = g ∨ X.heap.size ≤ g') → X.grownBy X1 (some g) → K (a.put o.dst v') X1) :
    if Region.wanted o (yielded ops a.tmps) = true then Oper.wp Try.prog o a X K Q else E := by
  have hw : Region.wanted o (yielded ops a.tmps) = true := by simp [Region.wanted, hg]
  rw [if_pos hw]
  obtain ⟨i0, hi, hz0, hz1, hz2⟩ := info_parts infoU8
  obtain ⟨v', w', g', hrun, h2, h3, h4⟩ := run_append_sl (P := Try.prog) X 44 o.type 5 i0 (.int .u8 0) 1 Try.underlying44 hi hz0 hz1 hz2 rfl hs ⟨gx, 0, none⟩ 1 c [.int .u8 b] rfl (fun j u hj => by
    match j, hj with
    | 0, hj => simp at hj; subst hj; rw [addr0]; exact hc) (fun u hu => by simp at hu; subst hu; rfl) (by rw [u8s_length]; unfold maxLen; omega) (by rw [u8s_length]; omega)
  unfold Oper.wp
  simp only [execOp, hop, resolve, invoke, builtin, Sem.run_bind, Sem.run_pure, Result.andThen_ok, List.map_toArray, List.map_cons, List.map_nil, hv, hx, hrun]
  refine hK v' w' g' (by rw [u8s_append]; exact h2) ?_ h4
  rcases h3 with h | h
  · exact .inl h
  · exact .inr (Nat.le_of_eq h.symm)
theorem drawn_below (w : World) (n : Nat) : Below w.heap.size w (w.drewN n) := ⟨rfl, rfl, rfl, Nat.le_refl _, fun _ _ => rfl⟩
theorem chg_set3 {F : Nat → Prop} {w X : World} {k : Nat} (hk : F k) (h : Chg F w X) (i : Nat) (v : Value) : Chg F w (X.setCell ⟨k, i, none⟩ v) :=
  ⟨h.os, h.tape, h.output, by simpa using h.size, fun j hj hn => (Below.heap_setCell X _ v j (by show j ≠ k; intro e; subst e; exact hn hk)).trans (h.block j hj hn)⟩
/-- The bytes that are kept: none, or a block g. -/
def KHi (w : World) (k : Nat) (F : Nat → Prop) (v : Value) (l : List Int) : Prop :=
  (v = .slice none 0 0 ∧ l = [] ∧ ∀ i, F i ↔ i = k) ∨ ∃ g, Sl w 5 v (u8s l) g ∧ k ≠ g ∧ ∀ i, F i ↔ i = k ∨ i = g
def KAt : CapPred := fun w k F c => ∃ v : Value, Row w k 46 [.int .i64 c.most, v, .bool c.on] ∧ KHi w k F v c.kept
theorem KHi.self {w : World} {k : Nat} {F : Nat → Prop} {v : Value} {l : List Int} (h : KHi w k F v l) : F k := by
  rcases h with ⟨_, _, h⟩ | ⟨g, _, _, h⟩
  · exact (h k).2 rfl
  · exact (h k).2 (.inl rfl)
theorem khi_set {w : World} {k : Nat} {F : Nat → Prop} {v : Value} {l : List Int} (h : KHi w k F v l) (i : Nat) (u : Value) : KHi (w.setCell ⟨k, i, none⟩ u) k F v l := by
  rcases h with h | ⟨g, hs, hk, h⟩
  · exact .inl h
  · exact .inr ⟨g, hs.far (by show g ≠ k; omega) u, hk, h⟩
theorem khi_drew {w : World} {k : Nat} {F : Nat → Prop} {v : Value} {l : List Int} (h : KHi w k F v l) (n : Nat) : KHi (w.drewN n) k F v l := by
  rcases h with h | ⟨g, hs, hk, h⟩
  · exact .inl h
  · exact .inr ⟨g, hs.drewN n, hk, h⟩
theorem kat_lt {w : World} {k : Nat} {F : Nat → Prop} {c : KM} (h : KAt w k F c) : ∀ i, F i → i < w.heap.size := by
  obtain ⟨v, h1, h2⟩ := h
  intro i hi
  rcases h2 with ⟨_, _, h⟩ | ⟨g, hs, _, h⟩
  · rw [(h i).1 hi]; exact h1.lt
  · rcases (h i).1 hi with rfl | rfl
    · exact h1.lt
    · exact hs.lt
theorem kat_aside {w w' : World} {k : Nat} {F F' : Nat → Prop} {c : KM} (h : KAt w k F c) (hc : Chg F' w w') (hF : ∀ i, F i → ¬ F' i) : KAt w' k F c := by
  obtain ⟨v, h1, h2⟩ := h
  refine ⟨v, h1.chg hc (hF k h2.self), ?_⟩
  rcases h2 with h | ⟨g, ⟨sp, e1, e2, e3⟩, hk, h⟩
  · exact .inl h
  · exact .inr ⟨g, ⟨sp, e1, e2, e3.chg hc (hF g ((h g).2 (.inr rfl)))⟩, hk, h⟩
theorem kmost_is {most : Int} : ((KM.new most).most : Int) = min (max most 0) 65536 := by
  unfold KM.new
  show (((min (max most 0) 65536).toNat : Nat) : Int) = _
  omega
set_option maxHeartbeats 4000000 in
theorem cap_new (w : World) (most : Int) (hm : InI most) : Calls Try.prog 8 #[.int .i64 most] w fun e w' => ∃ k F, e = .returned (.pointer (some ⟨k, 0, none⟩)) ∧ (∀ i, F i → w.heap.size ≤ i) ∧ KAt w' k F (KM.new most) ∧ Below w.heap.size w w' := by
  have hM := kmost_is (most := most)
  have hfin : KAt (w.alloc (.cells #[.int .i64 ((KM.new most).most : Int), .slice none 0 0, .bool false] 46)) w.heap.size (fun i => i = w.heap.size) (KM.new most) :=
    ⟨_, Row.new w _ [.int .i64 (KM.new most).most, .slice none 0 0, .bool false], .inl ⟨rfl, rfl, fun i => Iff.rfl⟩⟩
  rw [hM] at hfin
  have HF := Lib.hid hfin
  clear hfin hM
  go_enter Try.func8, Try.ntmps8
  go_wp2
  go_returns
  first
    | exact ⟨w.heap.size, rfl, _, fun i hi => Nat.le_of_eq hi.symm, HF.out, (Below.refl _ _).alloc (Nat.le_refl _) _⟩
    | exact ⟨w.heap.size, _, rfl, fun i hi => Nat.le_of_eq hi.symm, HF.out, (Below.refl _ _).alloc (Nat.le_refl _) _⟩
theorem cap_fin {w : World} {k : Nat} {F : Nat → Prop} {c : KM} (h : KAt w k F c) : Calls Try.prog 14 #[.pointer (some ⟨k, 0, none⟩)] w fun r w' => ∃ F', r = .returned (.tuple #[]) ∧ (∀ i, F' i → F i ∨ w.heap.size ≤ i) ∧ KAt w' k F' c.fin ∧ Chg F w w' := by
  obtain ⟨v, hR, hH⟩ := h
  obtain ⟨most, kept, on⟩ := c
  have q2 : w.cell? ⟨k, 2, none⟩ = some (.bool on) := hR.cell 2
  have f2 := hR.frozen 2
  have HT : Hid (KAt (w.setCell ⟨k, 2, none⟩ (.bool false)) k F (KM.mk most kept on).fin ∧ Chg F w (w.setCell ⟨k, 2, none⟩ (.bool false))) := Lib.hid ⟨⟨v, hR.set 2 _, khi_set hH _ _⟩, chg_set3 hH.self ⟨rfl, rfl, rfl, Nat.le_refl _, fun _ _ _ => rfl⟩ _ _⟩
  clear hR hH
  go_enter Try.func14, Try.ntmps14
  go_wp2
  first
    | (go_end0; exact ⟨F, rfl, fun i hi => .inl hi, HT.out.1, HT.out.2⟩)
    | (go_returns; exact ⟨F, rfl, fun i hi => .inl hi, HT.out.1, HT.out.2⟩)
theorem cap_on {w : World} {k : Nat} {F : Nat → Prop} {c : KM} (h : KAt w k F c) : Calls Try.prog 15 #[.pointer (some ⟨k, 0, none⟩)] w fun r w' => r = .returned (.bool c.on) ∧ ∃ n, w' = w.drewN n := by
  obtain ⟨v, hR, _⟩ := h
  have q2 : w.cell? ⟨k, 2, none⟩ = some (.bool c.on) := hR.cell 2
  clear hR
  go_enter Try.func15, Try.ntmps15
  go_wp2
  go_returns
  exact ⟨rfl, 0, rfl⟩
set_option maxHeartbeats 4000000 in
theorem cap_room {w : World} {k : Nat} {F : Nat → Prop} {c : KM} (h : KAt w k F c) (hOk : c.Ok) : Calls Try.prog 17 #[.pointer (some ⟨k, 0, none⟩)] w fun r w' => r = .returned (.int .i64 ((c.most : Int) - (c.kept.length : Int))) ∧ ∃ n, w' = w.drewN n := by
  obtain ⟨v, hR, hH⟩ := h
  obtain ⟨most, kept, on⟩ := c
  have hl : kept.length ≤ most := hOk.len
  have hm : most ≤ 65536 := hOk.most
  have q0 : w.cell? ⟨k, 0, none⟩ = some (.int .i64 (most : Int)) := hR.cell 0
  have q1 : w.cell? ⟨k, 1, none⟩ = some v := hR.cell 1
  clear hR
  rcases hH with ⟨rfl, rfl, _⟩ | ⟨g, hS, _, _⟩
  · go_enter Try.func17, Try.ntmps17
    go_wp2
    go_quiet (fail)
    go_wp2
    go_returns
    exact ⟨by first | rfl | simp, _, rfl⟩
  · obtain ⟨cap, rfl, _, _⟩ := hS.open (n := kept.length) (u8s_length kept)
    clear hS
    have hli : (kept.length : Int) ≤ (most : Int) := by omega
    show Calls _ _ _ _ fun r w' => r = .returned (.int .i64 ((most : Int) - (kept.length : Int))) ∧ ∃ n, w' = w.drewN n
    clear hOk
    generalize kept.length = L at *
    go_enter Try.func17, Try.ntmps17
    go_wp2
    go_quiet (fail)
    go_wp2
    go_returns
    exact ⟨rfl, _, rfl⟩
set_option maxHeartbeats 4000000 in
theorem cap_text {w : World} {k : Nat} {F : Nat → Prop} {c : KM} (h : KAt w k F c) (hOk : c.Ok) : Calls Try.prog 16 #[.pointer (some ⟨k, 0, none⟩)] w fun r w' => r = .returned (.string (strOfNums c.kept)) ∧ ∃ n, w' = w.drewN n := by
  obtain ⟨v, hR, hH⟩ := h
  obtain ⟨most, kept, on⟩ := c
  have q1 : w.cell? ⟨k, 1, none⟩ = some v := hR.cell 1
  clear hR
  rcases hH with ⟨rfl, rfl, _⟩ | ⟨g, hS, _, _⟩
  · have hcv : (convert 44 9 (.slice none 0 0)).run Try.prog w = .ok (.string ⟨#[]⟩) w := run_convert_bytes_nil (P := Try.prog) w 44 5 Try.underlying44 Try.underlying5 0 0 9 Try.underlying9
    go_enter Try.func16, Try.ntmps16
    go_wp2
    go_returns
    exact ⟨rfl, 0, rfl⟩
  · have hcv := conv_bytes hS
    obtain ⟨cap, rfl, _, _⟩ := hS.open (n := kept.length) (u8s_length kept)
    clear hS hOk
    show Calls _ _ _ _ fun r w' => r = .returned (.string (strOfNums kept)) ∧ ∃ n, w' = w.drewN n
    generalize strOfNums kept = s at *
    generalize kept.length = L at *
    go_enter Try.func16, Try.ntmps16
    go_wp2
    go_returns
    exact ⟨rfl, 0, rfl⟩
theorem cdrawn (w : World) (n : Nat) : Below w.heap.size w (w.drewN n) := ⟨rfl, rfl, rfl, Nat.le_refl _, fun _ _ => rfl⟩
set_option maxRecDepth 100000 in
set_option maxHeartbeats 8000000 in
theorem cap_push {w : World} {k : Nat} {F : Nat → Prop} {c : KM} (b : Int) (hA : KAt w k F c) (hOk : c.Ok) (hb : 0 ≤ b ∧ b ≤ 255) :
    Calls Try.prog 12 #[.pointer (some ⟨k, 0, none⟩), .int .u8 b] w fun r w' => ∃ F', r = .returned (.int .i64 c.pushE) ∧ (∀ i, F' i → F i ∨ w.heap.size ≤ i) ∧ KAt w' k F' (c.push b) ∧ Chg F w w' := by
  obtain ⟨v, hR, hH⟩ := hA
  obtain ⟨most, kept, on⟩ := c
  replace hR : Row w k 46 [.int .i64 most, v, .bool on] := hR
  replace hH : KHi w k F v kept := hH
  have hll : kept.length ≤ most := hOk.len
  have hmm : most ≤ 65536 := hOk.most
  have q0 : w.cell? ⟨k, 0, none⟩ = some (.int .i64 (most : Int)) := hR.cell 0
  have q1 : w.cell? ⟨k, 1, none⟩ = some v := hR.cell 1
  have q2 : w.cell? ⟨k, 2, none⟩ = some (.bool on) := hR.cell 2
  have f2 := hR.frozen 2
  have hkw := hR.lt
  cases on with
  | false =>
    have HP : Hid ((KM.mk most kept false).push b = ⟨most, kept, false⟩ ∧ (KM.mk most kept false).pushE = 0) := Lib.hid ⟨KM.push_off b rfl, KM.pushE_off rfl⟩
    have HA : Hid (KAt w k F ⟨most, kept, false⟩) := Lib.hid ⟨v, hR, hH⟩
    clear hR hH hOk
    go_enter Try.func12, Try.ntmps12
    go_wp2
    go_returns
    rw [HP.out.1, HP.out.2]
    first
      | exact ⟨F, rfl, fun i hi => .inl hi, HA.out, ⟨rfl, rfl, rfl, Nat.le_refl _, fun _ _ _ => rfl⟩⟩
      | exact ⟨rfl, F, fun i hi => .inl hi, HA.out, ⟨rfl, rfl, rfl, Nat.le_refl _, fun _ _ _ => rfl⟩⟩
  | true =>
    by_cases hq : most ≤ kept.length
    · have HP : Hid ((KM.mk most kept true).push b = ⟨most, kept, false⟩ ∧ (KM.mk most kept true).pushE = 11) := Lib.hid ⟨KM.push_over b rfl hq, KM.pushE_over rfl hq⟩
      have hT : ∀ q, KAt ((w.drewN q).setCell ⟨k, 2, none⟩ (.bool false)) k F ⟨most, kept, false⟩ ∧ Chg F w ((w.drewN q).setCell ⟨k, 2, none⟩ (.bool false)) := fun q =>
        ⟨⟨v, (hR.below (cdrawn w q) hkw).set 2 _, khi_set (khi_drew hH q) _ _⟩, chg_set3 hH.self (Chg.of_below (cdrawn w q)) _ _⟩
      have HT := Lib.hid hT
      have heq : ((kept.length : Int) == (most : Int)) = true := by simp; omega
      clear hT hR hOk
      have fin : ∀ n : Nat, (∃ cp, v = .slice none 0 0 ∧ n = 0 ∨ ∃ g, v = .slice (some ⟨g, 0, none⟩) n cp) → True := fun _ _ => trivial
      clear fin
      rcases hH with ⟨rfl, rfl, _⟩ | ⟨g, hS, _, _⟩
      · obtain rfl : most = 0 := by simpa using hq
        go_enter Try.func12, Try.ntmps12
        go_wp2
        go_quiet (fail)
        go_wp2
        go_returns
        rw [HP.out.1, HP.out.2]
        first
          | exact ⟨F, rfl, fun i hi => .inl hi, (HT.out _).1, (HT.out _).2⟩
          | exact ⟨rfl, F, fun i hi => .inl hi, (HT.out _).1, (HT.out _).2⟩
      · obtain ⟨cap, rfl, _, _⟩ := hS.open (n := kept.length) (u8s_length kept)
        clear hS
        generalize hL : kept.length = L at *
        clear hL
        go_enter Try.func12, Try.ntmps12
        go_wp2
        go_quiet (fail)
        go_wp2
        go_returns
        rw [HP.out.1, HP.out.2]
        first
          | exact ⟨F, rfl, fun i hi => .inl hi, (HT.out _).1, (HT.out _).2⟩
          | exact ⟨rfl, F, fun i hi => .inl hi, (HT.out _).1, (HT.out _).2⟩
    · have HP : Hid ((KM.mk most kept true).push b = ⟨most, kept ++ [b], true⟩ ∧ (KM.mk most kept true).pushE = 0) := Lib.hid ⟨KM.push_on b rfl hq, KM.pushE_on hq⟩
      have heq : ((kept.length : Int) == (most : Int)) = false := by simp; omega
      have HR := Lib.hid hR
      clear hR hOk hb
      rcases hH with ⟨rfl, rfl, hF⟩ | ⟨g, hS, hkg, hF⟩
      · have hT : ∀ (X : World) (v' : Value) (g : Nat), Below w.heap.size w X → Sl X 5 v' (u8s [b]) g → w.heap.size ≤ g → (∀ i, (i = k ∨ i = g) → F i ∨ w.heap.size ≤ i) ∧ KAt (X.setCell ⟨k, 1, none⟩ v') k (fun i => i = k ∨ i = g) ⟨most, [] ++ [b], true⟩ ∧ Chg F w (X.setCell ⟨k, 1, none⟩ v') := by
          intro X v' g hB hS hg
          refine ⟨?_, ⟨v', (HR.out.below hB hkw).set 1 v', .inr ⟨g, hS.far (by show g ≠ k; omega) _, by omega, fun i => Iff.rfl⟩⟩, chg_set3 ((hF k).2 rfl) (Chg.of_below hB) _ _⟩
          rintro i (rfl | rfl)
          · exact .inl ((hF _).2 rfl)
          · exact .inr hg
        have HT := Lib.hid hT
        clear hT hF
        go_enter Try.func12, Try.ntmps12
        go_wp2
        go_quiet (fail)
        have hwW : w.heap.size ≤ (w.drewN nq).heap.size := Nat.le_refl _
        have HB : Hid (Below w.heap.size w (w.drewN nq)) := Lib.hid (cdrawn w nq)
        have HRW : Hid (Row (w.drewN nq) k 46 [.int .i64 most, .slice none 0 0, .bool true]) := Lib.hid (HR.out.below (cdrawn w nq) hkw)
        clear q0 q1 q2 f2 HR
        generalize w.drewN nq = W at *
        have q1 : W.cell? ⟨k, 1, none⟩ = some (.slice none 0 0) := HRW.out.cell 1
        have a1 : (W.alloc (.cells #[.int .u8 b] 5)).cell? ⟨k, 1, none⟩ = some (.slice none 0 0) := (HRW.out.alloc _).cell 1
        have HA : Hid (∀ X, X = W.alloc (.cells #[.int .u8 b] 5) ∨ X = (W.alloc (.cells #[.int .u8 b] 5)).drew → X.cell? ⟨W.heap.size, 0, none⟩ = some (.int .u8 b) ∧ Below W.heap.size W X) := Lib.hid (by
          rintro X (rfl | rfl)
          · exact ⟨by simp, (Below.refl _ _).alloc (Nat.le_refl _) _⟩
          · refine ⟨?_, ((Below.refl _ _).alloc (Nat.le_refl _) _).drew⟩
            show (W.alloc (.cells #[.int .u8 b] 5)).cell? ⟨W.heap.size, 0, none⟩ = _
            simp)
        have HAc : Hid ((W.alloc (.cells #[.int .u8 b] 5)).cell? ⟨W.heap.size, 0, none⟩ = some (.int .u8 b) ∧ Below w.heap.size w (W.alloc (.cells #[.int .u8 b] 5))) := Lib.hid ⟨(HA.out _ (.inl rfl)).1, HB.out.trans ((HA.out _ (.inl rfl)).2.mono hwW)⟩
        have HR1 := Lib.hid (HRW.out.alloc (.cells #[.int .u8 b] 5))
        go_wp2_with (at_builtin; refine wpList_append_bs1 rfl (.tmp 20) (.tmp 22) rfl (base := (W.alloc (.cells #[.int .u8 b] 5)).heap.size) rfl (Bs.nil _ _) (Nat.le_refl _) W.heap.size 1 b rfl HAc.out.1 (Nat.zero_le _) ?_)
        intro v1 X1 hs1' hgr1
        obtain ⟨g0, c0, hv1, _, _, _, _⟩ := hs1'.shape (by simp)
        obtain ⟨g1, hs1, hg1⟩ := Sl.of_own hs1' (by rw [hv1]; intro h; cases h)
        have hb1 : Below (W.alloc (.cells #[.int .u8 b] 5)).heap.size (W.alloc (.cells #[.int .u8 b] 5)) X1 := ⟨hgr1.os, hgr1.tape, hgr1.output, hgr1.size, fun i hi => hgr1.block i hi (by intro h; cases h)⟩
        have hB1 : Below w.heap.size w X1 := HAc.out.2.trans (hb1.mono HAc.out.2.size)
        have hs1 : Sl X1 5 v1 (u8s [b]) g1 := hs1
        clear hv1 hs1' hgr1
        obtain ⟨c1, rfl, hc1, hcm1⟩ := hs1.open (n := 1) rfl
        have hgw : w.heap.size ≤ g1 := by have := HAc.out.2.size; simp at this; omega
        have hr1 := HR1.out.below hb1 HR1.out.lt
        have z1 := hr1.frozen 1
        have c1' : X1.cell? ⟨k, 1, none⟩ = some (.slice none 0 0) := hr1.cell 1
        clear HAc HR1
        all_goals
          have HD := Lib.hid (HT.out X1 _ g1 hB1 hs1 hgw)
          clear hr1 hs1 hB1 hb1 hg1 HA HRW HB a1 q1
          go_wp2
          go_returns
          rw [HP.out.1, HP.out.2]
          first
            | exact ⟨_, rfl, HD.out.1, HD.out.2.1, HD.out.2.2⟩
            | exact ⟨rfl, _, HD.out.1, HD.out.2.1, HD.out.2.2⟩
            | exact ⟨rfl, _, HD.out.1, HD.out.2.1, ⟨HD.out.2.2.os, HD.out.2.2.tape, HD.out.2.2.output, HD.out.2.2.size, HD.out.2.2.block⟩⟩
      · have hgw := hS.lt
        obtain ⟨cap, rfl, hlc, hcm⟩ := hS.open (n := kept.length) (u8s_length kept)
        have hT : ∀ (W X : World) (v' : Value) (g' : Nat), Below w.heap.size w W → W.grownBy X (some g) → Row X k 46 [.int .i64 most, .slice (some ⟨g, 0, none⟩) kept.length cap, .bool true] → Sl X 5 v' (u8s (kept ++ [b])) g' → (g' = g ∨ w.heap.size ≤ g') → (∀ i, (i = k ∨ i = g') → F i ∨ w.heap.size ≤ i) ∧ KAt (X.setCell ⟨k, 1, none⟩ v') k (fun i => i = k ∨ i = g') ⟨most, kept ++ [b], true⟩ ∧ Chg F w (X.setCell ⟨k, 1, none⟩ v') := by
          intro W X v' g' hB hX hRX hS2 hg'
          have hkg' : g' ≠ k := by rcases hg' with h | h <;> omega
          have hc0 : Chg F w X := ⟨hX.os.trans hB.os, hX.tape.trans hB.tape, hX.output.trans hB.output, Nat.le_trans hB.size hX.size, fun i hi hn => (hX.block i (Nat.lt_of_lt_of_le hi hB.size) (by intro e; injection e with e; subst e; exact hn ((hF _).2 (.inr rfl)))).trans (hB.block i hi)⟩
          refine ⟨?_, ⟨v', hRX.set 1 v', .inr ⟨g', hS2.far (by exact hkg') _, fun e => hkg' e.symm, fun i => Iff.rfl⟩⟩, chg_set3 ((hF k).2 (.inl rfl)) hc0 _ _⟩
          rintro i (rfl | rfl)
          · exact .inl ((hF _).2 (.inl rfl))
          · rcases hg' with h | h
            · exact .inl ((hF _).2 (.inr h))
            · exact .inr h
        have HT := Lib.hid hT
        have HS := Lib.hid hS
        have HKl := Lib.hid (show kept.length ≤ 100000000 ∧ (u8s (kept ++ [b])).length = kept.length + 1 from ⟨by omega, by rw [u8s_length, List.length_append]; rfl⟩)
        clear hT hF hS
        go_enter Try.func12, Try.ntmps12
        go_wp2
        go_quiet (fail)
        have hwW : w.heap.size ≤ (w.drewN nq).heap.size := Nat.le_refl _
        have HB : Hid (Below w.heap.size w (w.drewN nq)) := Lib.hid (cdrawn w nq)
        have HRW : Hid (Row (w.drewN nq) k 46 [.int .i64 most, .slice (some ⟨g, 0, none⟩) kept.length cap, .bool true]) := Lib.hid (HR.out.below (cdrawn w nq) hkw)
        have HSW := Lib.hid (HS.out.drewN nq)
        clear q0 q1 q2 f2 HR HS
        generalize w.drewN nq = W at *
        have q1 : W.cell? ⟨k, 1, none⟩ = some (.slice (some ⟨g, 0, none⟩) kept.length cap) := HRW.out.cell 1
        have a1 : (W.alloc (.cells #[.int .u8 b] 5)).cell? ⟨k, 1, none⟩ = some (.slice (some ⟨g, 0, none⟩) kept.length cap) := (HRW.out.alloc _).cell 1
        have HA : Hid (∀ X, X = W.alloc (.cells #[.int .u8 b] 5) ∨ X = (W.alloc (.cells #[.int .u8 b] 5)).drew → X.cell? ⟨W.heap.size, 0, none⟩ = some (.int .u8 b) ∧ Below W.heap.size W X) := Lib.hid (by
          rintro X (rfl | rfl)
          · exact ⟨by simp, (Below.refl _ _).alloc (Nat.le_refl _) _⟩
          · refine ⟨?_, ((Below.refl _ _).alloc (Nat.le_refl _) _).drew⟩
            show (W.alloc (.cells #[.int .u8 b] 5)).cell? ⟨W.heap.size, 0, none⟩ = _
            simp)
        have HB2 : Hid (Below w.heap.size w (W.alloc (.cells #[.int .u8 b] 5)) ∧ Below w.heap.size w (W.alloc (.cells #[.int .u8 b] 5)).drew) := Lib.hid ⟨HB.out.trans ((HA.out _ (.inl rfl)).2.mono hwW), HB.out.trans ((HA.out _ (.inr rfl)).2.mono hwW)⟩
        have HS1 := Lib.hid (HSW.out.alloc (.cells #[.int .u8 b] 5))
        have HR1 := Lib.hid (HRW.out.alloc (.cells #[.int .u8 b] 5))
        have HAc := Lib.hid (HA.out _ (.inl rfl)).1
        have hk63 : kept.length ≤ 1000000000000 := by omega
        go_wp2_with (at_builtin; refine wpList_append_byte rfl (.tmp 20) (.tmp 22) rfl (l := kept) (g := g) rfl HS1.out W.heap.size 1 b rfl HAc.out hk63 ?_)
        intro v1 X1 g1 hs1 hg1 hb1
        obtain ⟨c1, rfl, hc1, hcm1⟩ := hs1.open HKl.out.2
        have hr1 : Row X1 k 46 [.int .i64 most, .slice (some ⟨g, 0, none⟩) kept.length cap, .bool true] := HR1.out.grown hb1 (by intro e; injection e with e; exact hkg e)
        have hgw1 : g1 = g ∨ w.heap.size ≤ g1 := by
          rcases hg1 with h | h
          · exact .inl h
          · have := HB2.out.1.size; exact .inr (by simp at this; omega)
        have hD := HT.out _ X1 _ g1 HB2.out.1 hb1 hr1 hs1 hgw1
        have z1 := hr1.frozen 1
        have c1' : X1.cell? ⟨k, 1, none⟩ = some (.slice (some ⟨g, 0, none⟩) kept.length cap) := hr1.cell 1
        clear HS1 HR1 HAc
        all_goals
          have HD := Lib.hid hD
          clear hr1 hs1 hb1 hg1 HA HRW HB a1 q1 hD
          go_wp2
          go_returns
          rw [HP.out.1, HP.out.2]
          first
            | exact ⟨_, rfl, HD.out.1, HD.out.2.1, HD.out.2.2⟩
            | exact ⟨rfl, _, HD.out.1, HD.out.2.1, HD.out.2.2⟩
            | exact ⟨rfl, _, HD.out.1, HD.out.2.1, ⟨HD.out.2.2.os, HD.out.2.2.tape, HD.out.2.2.output, HD.out.2.2.size, HD.out.2.2.block⟩⟩
/-- What was kept is wiped. -/
theorem kclear_any {w : World} {k : Nat} {F : Nat → Prop} {v : Value} {L : List Value} {kl : List Int} (hR : Row w k 46 L) (hH : KHi w k F v kl) :
    ∃ w1, (∀ ty, (Builtin.clear_ #[44] ty #[v]).run Try.prog w = .ok (.tuple #[]) w1) ∧ Row w1 k 46 L ∧ Chg F w w1 ∧
      ((v = .slice none 0 0 ∧ KHi w1 k F (.slice none 0 0) []) ∨ ∃ g n cap, v = .slice (some ⟨g, 0, none⟩) n cap ∧ n ≤ cap ∧ cap ≤ maxLen ∧ KHi w1 k F (.slice (some ⟨g, 0, none⟩) 0 cap) []) := by
  obtain ⟨i0, hi, hz0, hz1, hz2⟩ := info_parts infoU8
  rcases hH with ⟨rfl, rfl, hF⟩ | ⟨g, hS, hkg, hF⟩
  · refine ⟨w, fun ty => ?_, hR, ⟨rfl, rfl, rfl, Nat.le_refl _, fun _ _ _ => rfl⟩, .inl ⟨rfl, .inl ⟨rfl, rfl, hF⟩⟩⟩
    simp [Builtin.clear_, run_underlying Try.underlying44]
  · obtain ⟨sp, hv, hm, hr⟩ := id hS
    have hul := u8s_length kl
    by_cases hn : kl.length = 0
    · obtain rfl : kl = [] := List.length_eq_zero_iff.1 hn
      refine ⟨w, fun ty => ?_, hR, ⟨rfl, rfl, rfl, Nat.le_refl _, fun _ _ _ => rfl⟩, .inr ⟨g, 0, _, hv, Nat.zero_le _, hm, ?_⟩⟩
      · rw [hv]
        simp [Builtin.clear_, run_underlying Try.underlying44, u8s]
      · rw [show (Value.slice (some ⟨g, 0, none⟩) 0 ((u8s []).length + sp.length)) = v from hv.symm]; exact .inr ⟨g, hS, hkg, hF⟩
    · have hc : ∀ j, j < kl.length → (w.cell? ⟨g, 0 + j, none⟩).isSome = true := fun j hj => by rw [Nat.zero_add, hS.cells_u8 j hj]; rfl
      have hf : ∀ j, j < kl.length → w.frozen? ⟨g, 0 + j, none⟩ = false := fun j hj => hr.frozen _
      have hrun := fun ty => Lib.run_clear_slice (P := Try.prog) w 44 5 ty (.int .u8 0) Try.underlying44 (fun w => by simp [zeroValue, typeInfo, hi, hz0]) rfl rfl g 0 kl.length ((u8s kl).length + sp.length) (by omega) hc hf
      have hset := Row.setMany (List.replicate kl.length (Value.int .u8 0)) 0 hr (by rw [List.length_replicate, List.length_append, hul]; omega)
      refine ⟨w.setCells g 0 (List.replicate kl.length (.int .u8 0)), fun ty => by rw [hv, hul]; rw [hul] at hrun; exact hrun ty, hR.farMany (by omega) _ _, ⟨?_, ?_, ?_, ?_, fun i hi hn => ?_⟩, .inr ⟨g, (u8s kl).length, _, hv, by omega, hm, .inr ⟨g, ?_, hkg, hF⟩⟩⟩
      · exact (below_setCells (B := 0) (g := g) (List.replicate kl.length (Value.int .u8 0)) 0 (Below.refl 0 w) (Nat.zero_le _)).os
      · exact (below_setCells (B := 0) (g := g) (List.replicate kl.length (Value.int .u8 0)) 0 (Below.refl 0 w) (Nat.zero_le _)).tape
      · exact (below_setCells (B := 0) (g := g) (List.replicate kl.length (Value.int .u8 0)) 0 (Below.refl 0 w) (Nat.zero_le _)).output
      · rw [setCells_size]; exact Nat.le_refl _
      · exact heap_setCells_far _ 0 g w (fun e => hn ((hF i).2 (.inr e)))
      · refine ⟨_, ?_, ?_, hset⟩
        · show _ = Value.slice (some ⟨g, 0, none⟩) 0 (0 + _)
          congr 1
          simp [u8s]
        · simp [u8s]
          rw [hul] at hm
          exact hm
set_option maxRecDepth 100000 in
set_option maxHeartbeats 8000000 in
theorem cap_begin {w : World} {k : Nat} {F : Nat → Prop} {c : KM} (b : ByteArray) (hA : KAt w k F c) (hOk : c.Ok) (hb : b.size ≤ 100000) :
    Calls Try.prog 10 #[.pointer (some ⟨k, 0, none⟩), .string b] w fun r w' => ∃ F', r = .returned (.int .i64 (c.beginE (bl b))) ∧ (∀ i, F' i → F i ∨ w.heap.size ≤ i) ∧ KAt w' k F' (c.begin (bl b)) ∧ Chg F w w' := by
  obtain ⟨v, hR, hH⟩ := hA
  obtain ⟨most, kept, on⟩ := c
  replace hR : Row w k 46 [.int .i64 most, v, .bool on] := hR
  replace hH : KHi w k F v kept := hH
  have hmm : most ≤ 65536 := hOk.most
  have hbl := bl_length b
  have hb9 : (b.size : Int) ≤ 9223372036854775807 := by omega
  have q1 : w.cell? ⟨k, 1, none⟩ = some v := hR.cell 1
  obtain ⟨w1, hrun, hR1, hC1, hv⟩ := kclear_any hR hH
  have hF := hH.self
  have HBE : Hid ((KM.mk most kept on).beginE (bl b) = if most < b.size then 11 else 0) := Lib.hid (by unfold KM.beginE; rw [hbl])
  have HBG : Hid ((KM.mk most kept on).begin (bl b) = (KM.mk most [] false).begin (bl b)) := Lib.hid (by unfold KM.begin; rfl)
  clear hR hH hOk
  have hv2 : ∃ v2, ((v = .slice none 0 0 ∧ v2 = .slice none 0 0) ∨ ∃ g n cap, v = .slice (some ⟨g, 0, none⟩) n cap ∧ n ≤ cap ∧ cap ≤ maxLen ∧ v2 = .slice (some ⟨g, 0, none⟩) 0 cap) ∧ KHi w1 k F v2 [] := by
    rcases hv with ⟨rfl, h⟩ | ⟨g, n, cap, rfl, h1, h2, h3⟩
    · exact ⟨_, .inl ⟨rfl, rfl⟩, h⟩
    · exact ⟨_, .inr ⟨g, n, cap, rfl, h1, h2, rfl⟩, h3⟩
  clear hv
  obtain ⟨v2, hsh, hK2⟩ := hv2
  have p1 : w1.cell? ⟨k, 1, none⟩ = some v := hR1.cell 1
  have g1 := hR1.frozen 1
  have hr2 := hR1.set 1 v2
  have p2 : (w1.setCell ⟨k, 1, none⟩ v2).cell? ⟨k, 2, none⟩ = some (.bool on) := hr2.cell 2
  have g2 := hr2.frozen 2
  have hr3 := hr2.set 2 (.bool true)
  have HX : Hid (KAt ((w1.setCell ⟨k, 1, none⟩ v2).setCell ⟨k, 2, none⟩ (.bool true)) k F ((KM.mk most [] false).begin ((bl b).take 0)) ∧ Chg F w ((w1.setCell ⟨k, 1, none⟩ v2).setCell ⟨k, 2, none⟩ (.bool true))) := Lib.hid ⟨⟨v2, hr3, khi_set (khi_set hK2 _ _) _ _⟩, chg_set3 hF (chg_set3 hF hC1 _ _) _ _⟩
  have HFk := Lib.hid hF
  clear hr2 hr3 hK2 hR1 hC1 hF
  rcases hsh with ⟨rfl, rfl⟩ | ⟨g, n, cap, rfl, hn1, hn2, rfl⟩
  all_goals
    go_enter Try.func10, Try.ntmps10
    go_wp2_with fail
    go_loopg [24] b.size (fun gk iv wr => ∃ (i : Nat) (F' : Nat → Prop), iv = .int .i64 (i : Int) ∧ i ≤ b.size ∧ i ≤ most ∧ b.size - i ≤ gk ∧ Hid (KAt wr k F' ((KM.mk most [] false).begin ((bl b).take i)) ∧ Chg F w wr ∧ ∀ j, F' j → F j ∨ w.heap.size ≤ j))
    case atStart => exact ⟨0, F, rfl, by omega, by omega, by omega, Lib.hid ⟨HX.out.1, HX.out.2, fun j h => .inl h⟩⟩
    case round =>
      clear HX
      obtain ⟨i, F', rfl, hi, him, hgk, HO⟩ := hrel
      by_cases hlt : i < b.size
      · have hlt2 : (i : Int) < (b.size : Int) := by omega
        have gj := get_bt b i hlt
        have r0 := bt_nonneg b i
        have r1 := bt_le b i
        have hok : ((KM.mk most [] false).begin ((bl b).take i)).Ok := KM.begin_ok (c := KM.mk most [] false) ⟨hmm, fun _ h => by simp at h, Nat.zero_le _⟩ (fun x hx => bl_isB b x (List.mem_of_mem_take hx))
        have HP : Hid (((KM.mk most [] false).begin ((bl b).take i)).push (bt b i) = (KM.mk most [] false).begin ((bl b).take (i + 1))) := Lib.hid (by
          rw [KM.begin_push, List.take_add_one, bl_at b i hlt]; rfl)
        have HPE : Hid (((KM.mk most [] false).begin ((bl b).take i)).pushE = if i = most then 11 else 0) := Lib.hid (by
          rw [KM.pushE_begin, List.length_take, hbl, show min i b.size = i by omega])
        have HCp := Lib.hid (cap_push (bt b i) HO.out.1 hok ⟨r0, r1⟩)
        generalize bt b i = x at *
        by_cases hs : i = most
        · have HPE2 : Hid (((KM.mk most [] false).begin ((bl b).take i)).pushE = 11) := Lib.hid (by rw [HPE.out, if_pos hs])
          have HE : Hid ((KM.mk most kept on).beginE (bl b) = 11) := Lib.hid (by rw [HBE.out, if_pos (by omega)])
          have HG : Hid ((KM.mk most kept on).begin (bl b) = (KM.mk most [] false).begin ((bl b).take (i + 1))) := Lib.hid (by
            rw [HBG.out]
            unfold KM.begin
            rw [if_pos (by show most < (bl b).length; omega), if_pos (by show most < ((bl b).take (i + 1)).length; rw [List.length_take]; omega)]
            show KM.mk most ((bl b).take most) false = KM.mk most (((bl b).take (i + 1)).take most) false
            rw [List.take_take, Nat.min_eq_left (by omega)])
          rw [HPE2.out, HP.out] at HCp
          clear HPE HPE2 HP hs hok
          go_wp2_with fail
          refine HCp.out.mono ?_
          rintro r w5 ⟨F5, rfl, h1, h2, h3⟩
          have HD : Hid ((∀ j, F5 j → F j ∨ w.heap.size ≤ j) ∧ KAt w5 k F5 ((KM.mk most [] false).begin ((bl b).take (i + 1))) ∧ Chg F w w5) := Lib.hid ⟨fun j hj => (h1 j hj).elim (fun q => HO.out.2.2 j q) (fun q => .inr (Nat.le_trans HO.out.2.1.size q)), h2, HO.out.2.1.trans h3 HO.out.2.2⟩
          clear h1 h2 h3 HO HCp
          go_wp2_with fail
          go_returns
          rw [HE.out, HG.out]
          first
            | exact ⟨F5, rfl, HD.out.1, HD.out.2.1, HD.out.2.2⟩
            | exact ⟨rfl, F5, HD.out.1, HD.out.2.1, HD.out.2.2⟩
        · have HPE2 : Hid (((KM.mk most [] false).begin ((bl b).take i)).pushE = 0) := Lib.hid (by rw [HPE.out, if_neg hs])
          rw [HPE2.out, HP.out] at HCp
          have him2 : i + 1 ≤ most := by omega
          clear HPE HPE2 HP hs hok
          go_wp2_with fail
          refine HCp.out.mono ?_
          rintro r w5 ⟨F5, rfl, h1, h2, h3⟩
          have HO2 : Hid (KAt w5 k F5 ((KM.mk most [] false).begin ((bl b).take (i + 1))) ∧ Chg F w w5 ∧ ∀ j, F5 j → F j ∨ w.heap.size ≤ j) := Lib.hid ⟨h2, HO.out.2.1.trans h3 HO.out.2.2, fun j hj => (h1 j hj).elim (fun q => HO.out.2.2 j q) (fun q => .inr (Nat.le_trans HO.out.2.1.size q))⟩
          clear h1 h2 h3 HO HCp
          go_wp2_with fail
          go_roundg (b.size - (i + 1))
          case measure => omega
          case rel => exact ⟨i + 1, F5, by simp, by omega, him2, by omega, HO2⟩
      · have hlt2 : ¬ (i : Int) < (b.size : Int) := by omega
        have HE : Hid ((KM.mk most kept on).beginE (bl b) = 0) := Lib.hid (by rw [HBE.out, if_neg (by omega)])
        have HG : Hid ((KM.mk most kept on).begin (bl b) = (KM.mk most [] false).begin ((bl b).take i)) := Lib.hid (by rw [HBG.out, List.take_of_length_le (by omega)])
        go_wp2_with fail
        go_returns
        rw [HE.out, HG.out]
        first
          | exact ⟨F', rfl, HO.out.2.2, HO.out.1, HO.out.2.1⟩
          | exact ⟨rfl, F', HO.out.2.2, HO.out.1, HO.out.2.1⟩
theorem capSpec : CapSpec KAt := ⟨kat_lt, kat_aside, cap_new, fun b hA hOk hb => cap_begin b hA hOk hb, fun b hA hOk hb => cap_push b hA hOk hb, fun hA _ => cap_fin hA, fun hA => cap_on hA, fun hA hOk => cap_text hA hOk, fun hA hOk => cap_room hA hOk⟩
end Go.Proofs.Ytemdeopghkcpbaa
