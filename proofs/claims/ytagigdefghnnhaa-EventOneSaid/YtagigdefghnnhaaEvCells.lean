/- A machine of the landed code in memory, and its calls that make an event. -/
import Derived.Test.YtagigdefghnnhaaEvApp
import Derived.Test.YtagigdefghnnhaaOrders
import Derived.Deep.CutRange
import Derived.Test.YtagigdefghnnhaaStackCode
import Derived.Test.YtagigdefghnnhaaHeadMem
namespace Go.Proofs.Ytagigdefghnnhaa
open Go.RowKit Go.PlainAid
set_option linter.unusedVariables false
/-- What a machine of the code holds: the stack, the bytes of a head that isn't whole, the bytes of content that are to come, how many bytes came, whether all is there, the error. -/
structure CM where
  s : SS
  c : ByteArray
  n : Int
  p : Nat
  dn : Bool
  er : Int
def mC (ks : Nat) (c : ByteArray) (n p : Int) (dn : Bool) (er : Int) : List Value := [.pointer (some ⟨ks, 0, none⟩), .string c, .int .i64 n, .int .i64 p, .bool dn, .int .i64 er]
abbrev MRow (w : World) (k ks : Nat) (c : ByteArray) (n p : Int) (dn : Bool) (er : Int) : Prop := Row w k 55 (mC ks c n p dn er)
structure MR (w : World) (k ks : Nat) (x : CM) : Prop where
  st : StAt w ks (fun i => i = ks) x.s
  ne : k ≠ ks
  row : MRow w k ks x.c x.n x.p x.dn x.er
section
variable {w : World} {k ks : Nat} {c : ByteArray} {n p : Int} {dn : Bool} {er : Int}
theorem mrow_facts (h : MRow w k ks c n p dn er) : w.cell? ⟨k, 0, none⟩ = some (.pointer (some ⟨ks, 0, none⟩)) ∧ w.cell? ⟨k, 1, none⟩ = some (.string c) ∧ w.cell? ⟨k, 2, none⟩ = some (.int .i64 n) ∧ w.cell? ⟨k, 3, none⟩ = some (.int .i64 p) ∧ w.cell? ⟨k, 4, none⟩ = some (.bool dn) ∧ w.cell? ⟨k, 5, none⟩ = some (.int .i64 er) :=
  ⟨h.cell 0, h.cell 1, h.cell 2, h.cell 3, h.cell 4, h.cell 5⟩
theorem mrow_c (h : MRow w k ks c n p dn er) (y : ByteArray) : MRow (w.setCell ⟨k, 1, none⟩ (.string y)) k ks y n p dn er := h.set 1 (.string y)
theorem mrow_n (h : MRow w k ks c n p dn er) (y : Int) : MRow (w.setCell ⟨k, 2, none⟩ (.int .i64 y)) k ks c y p dn er := h.set 2 (.int .i64 y)
theorem mrow_p (h : MRow w k ks c n p dn er) (y : Int) : MRow (w.setCell ⟨k, 3, none⟩ (.int .i64 y)) k ks c n y dn er := h.set 3 (.int .i64 y)
theorem mrow_d (h : MRow w k ks c n p dn er) (y : Bool) : MRow (w.setCell ⟨k, 4, none⟩ (.bool y)) k ks c n p y er := h.set 4 (.bool y)
theorem mrow_e (h : MRow w k ks c n p dn er) (y : Int) : MRow (w.setCell ⟨k, 5, none⟩ (.int .i64 y)) k ks c n p dn y := h.set 5 (.int .i64 y)
end
/-- What a byte may change: the machine's block and its stack's, and what the call made. -/
def FB (base k ks : Nat) : Nat → Prop := fun i => i = k ∨ i = ks ∨ base ≤ i
section
variable {w w' : World} {k ks base : Nat} {x : CM}
theorem MR.lt (h : MR w k ks x) : k < w.heap.size := h.row.lt
theorem MR.lts (h : MR w k ks x) : ks < w.heap.size := by obtain ⟨_, _, J, _, hr⟩ := h.st; exact hr.lt
theorem MR.chg {F : Nat → Prop} (h : MR w k ks x) (hc : Chg F w w') (hk : ¬ F k) (hs : ¬ F ks) : MR w' k ks x :=
  ⟨h.st.aside hc (fun i hi => by rw [hi]; exact hs), h.ne, h.row.chg hc hk⟩
theorem MR.below (h : MR w k ks x) (hb : Below w.heap.size w w') : MR w' k ks x := h.chg (F := fun _ => False) ⟨hb.os, hb.tape, hb.output, hb.size, fun i hi _ => hb.block i hi⟩ (fun f => f) (fun f => f)
theorem MR.above (h : MR w k ks x) (hb : Below base w w') (hk : k < base) (hs : ks < base) : MR w' k ks x :=
  h.chg (F := fun i => base ≤ i) ⟨hb.os, hb.tape, hb.output, hb.size, fun i hi hf => hb.block i (by omega)⟩ (by omega) (by omega)
/-- The stack alone is another one behind a call of its own. -/
theorem MR.stack (h : MR w k ks x) {s' : SS} (hs : StAt w' ks (fun i => i = ks) s') (hc : Chg (fun i => i = ks) w w') : MR w' k ks { x with s := s' } :=
  ⟨hs, h.ne, h.row.chg hc h.ne⟩
theorem MR.setk (h : MR w k ks x) (o : Nat) (v : Value) : StAt (w.setCell ⟨k, o, none⟩ v) ks (fun i => i = ks) x.s :=
  h.st.aside (F' := fun i => i = k) ⟨rfl, rfl, rfl, by simp, fun i hi hf => Below.heap_setCell w _ v i hf⟩ (fun i hi e => h.ne (e ▸ hi))
theorem MR.set_c (h : MR w k ks x) (y : ByteArray) : MR (w.setCell ⟨k, 1, none⟩ (.string y)) k ks { x with c := y } := ⟨h.setk 1 _, h.ne, mrow_c h.row y⟩
theorem MR.set_n (h : MR w k ks x) (y : Int) : MR (w.setCell ⟨k, 2, none⟩ (.int .i64 y)) k ks { x with n := y } := ⟨h.setk 2 _, h.ne, mrow_n h.row y⟩
theorem MR.set_p (h : MR w k ks x) (y : Nat) : MR (w.setCell ⟨k, 3, none⟩ (.int .i64 (y : Int))) k ks { x with p := y } := ⟨h.setk 3 _, h.ne, mrow_p h.row y⟩
theorem MR.set_d (h : MR w k ks x) (y : Bool) : MR (w.setCell ⟨k, 4, none⟩ (.bool y)) k ks { x with dn := y } := ⟨h.setk 4 _, h.ne, mrow_d h.row y⟩
theorem MR.set_e (h : MR w k ks x) (y : Int) : MR (w.setCell ⟨k, 5, none⟩ (.int .i64 y)) k ks { x with er := y } := ⟨h.setk 5 _, h.ne, mrow_e h.row y⟩
theorem chg_setk (w : World) (o : Nat) (v : Value) (base ks : Nat) : Chg (FB base k ks) w (w.setCell ⟨k, o, none⟩ v) :=
  ⟨rfl, rfl, rfl, by simp, fun i hi hf => Below.heap_setCell w _ v i (fun e => hf (.inl e))⟩
theorem chg_setk1 (w : World) (k o : Nat) (v : Value) : Chg (fun i => i = k) w (w.setCell ⟨k, o, none⟩ v) := ⟨rfl, rfl, rfl, by simp, fun i hi hf => Below.heap_setCell w _ v i hf⟩
theorem chg_stack (hc : Chg (fun i => i = ks) w w') : Chg (FB base k ks) w w' := ⟨hc.os, hc.tape, hc.output, hc.size, fun i hi hf => hc.block i hi (fun e => hf (.inr (.inl e)))⟩
theorem chg_below (hb : Below w.heap.size w w') : Chg (FB base k ks) w w' := Chg.of_below hb
theorem chg_base (hb : Below base w w') (hbw : base ≤ w.heap.size) : Chg (FB base k ks) w w' := ⟨hb.os, hb.tape, hb.output, hb.size, fun i hi hf => hb.block i (by
  rcases Nat.lt_or_ge i base with g | g
  · exact g
  · exact absurd (.inr (.inr g)) hf)⟩
theorem chg_then {a : World} (h : Chg (FB base k ks) a w) (h2 : Chg (FB base k ks) w w') : Chg (FB base k ks) a w' := h.trans h2 (fun i hi => .inl hi)
/-- Events that a call made, when the machine alone has changed. -/
theorem Evs.aside {v : Value} {l : List Ev} {F : Nat → Prop} (h : Evs w base v l) (hc : Chg F w w') (hF : ∀ i, F i → i < base) : Evs w' base v l := own_chg h hc hF
end
theorem Evs.isSl {w : World} {base : Nat} {v : Value} {l : List Ev} (h : Evs w base v l) : ∃ oa c, v = .slice oa l.length c := by
  rcases h.shape with ⟨rfl, rfl⟩ | ⟨g, c, rfl, _⟩
  · exact ⟨none, 0, rfl⟩
  · exact ⟨_, c, rfl⟩
theorem infoEvS : (Try.prog.info? 42).map (·.size) = some 7 := by kernel_rfl
theorem ev_load {W : World} {g : Nat} {e : Ev} (h : Row W g 42 (evC e)) : (loadVar 42 ⟨g, 0, none⟩).run Try.prog W = .ok (evV e) W :=
  run_loadVar_mid _ _ 0 _ (evC e) _ h.whole Try.underlying42 rfl infoEvS
theorem ev_set {W : World} {g : Nat} {e0 : Ev} (h : Row W g 42 (evC e0)) (e : Ev) :
    Row (((((((W.setCell ⟨g, 0, none⟩ (.int .i64 e.k)).setCell ⟨g, 1, none⟩ (.int .i64 e.at_)).setCell ⟨g, 2, none⟩ (.int .i64 e.c)).setCell ⟨g, 3, none⟩ (.int .i64 e.t)).setCell ⟨g, 4, none⟩ (.bool e.f)).setCell ⟨g, 5, none⟩ (.int .i64 e.n)).setCell ⟨g, 6, none⟩ (.int .u8 e.b)) g 42 (evC e) :=
  ((((((h.set 0 (.int .i64 e.k)).set 1 (.int .i64 e.at_)).set 2 (.int .i64 e.c)).set 3 (.int .i64 e.t)).set 4 (.bool e.f)).set 5 (.int .i64 e.n)).set 6 (.int .u8 e.b)
theorem ev_set_below {B : Nat} {a W : World} {g : Nat} (h : Below B a W) (hg : B ≤ g) (e : Ev) :
    Below B a (((((((W.setCell ⟨g, 0, none⟩ (.int .i64 e.k)).setCell ⟨g, 1, none⟩ (.int .i64 e.at_)).setCell ⟨g, 2, none⟩ (.int .i64 e.c)).setCell ⟨g, 3, none⟩ (.int .i64 e.t)).setCell ⟨g, 4, none⟩ (.bool e.f)).setCell ⟨g, 5, none⟩ (.int .i64 e.n)).setCell ⟨g, 6, none⟩ (.int .u8 e.b)) :=
  ((((((h.setCell hg _).setCell hg _).setCell hg _).setCell hg _).setCell hg _).setCell hg _).setCell hg _
/-- A slice of one event. -/
theorem evs_one (w : World) (e : Ev) : Evs (w.alloc (evO e)) w.heap.size (.slice (some ⟨w.heap.size, 0, none⟩) 1 1) [e] := by
  refine ⟨rfl, .inr ⟨w.heap.size, 1, (evC e).toArray, rfl, Nat.le_refl _, ?_, Nat.le_refl _, by unfold maxLen; omega, rfl, rfl⟩⟩
  exact Row.new w 42 (evC e)
/-- An event that has no head. -/
theorem event_any {w : World} {k ks : Nat} {x : CM} (kind : Int) (h : MR w k ks x) :
    Calls Try.prog 41 #[.pointer (some ⟨k, 0, none⟩), .int .i64 kind] w fun e w' => e = .returned (.agg #[.int .i64 kind, .int .i64 (x.p : Int), .int .i64 0, .int .i64 0, .bool false, .int .i64 0, .int .u8 0]) ∧ Below w.heap.size w w' := by
  have hlt := h.lt
  obtain ⟨_, _, _, q3, _, _⟩ := mrow_facts h.row
  clear h
  generalize (x.p : Int) = p at *
  go_enter Try.func41, Try.ntmps41
  go_wp2
  exact bodyPost_ret (results_cell Try.results41 _ (ad := ⟨w.heap.size, 0, none⟩) rfl (ev_load (Row.new w 42 (evC ⟨kind, p, 0, 0, false, 0, 0⟩)))) rfl ⟨rfl, (Below.refl _ _).alloc (Nat.le_refl _) _⟩
/-- An event that has one. -/
theorem eventOf_any {w : World} {k ks : Nat} {x : CM} (kind c t : Int) (f : Bool) (n : Int) (h : MR w k ks x) :
    Calls Try.prog 52 #[.pointer (some ⟨k, 0, none⟩), .int .i64 kind, .agg #[.int .i64 c, .int .i64 t, .bool f, .int .i64 n]] w fun e w' => e = .returned (.agg #[.int .i64 kind, .int .i64 (x.p : Int), .int .i64 c, .int .i64 t, .bool f, .int .i64 n, .int .u8 0]) ∧ Below w.heap.size w w' := by
  have hlt := h.lt
  have HR := Lib.hid h.row
  clear h
  generalize (x.p : Int) = p at *
  go_enter Try.func52, Try.ntmps52
  go_upto_region 7 with fail
  have HH : Hid (Row ((w.alloc (.cells #[.int .i64 c, .int .i64 t, .bool f, .int .i64 n] 40)).alloc (.cells #[.int .i64 0, .int .i64 0, .int .i64 0, .int .i64 0, .bool false, .int .i64 0, .int .u8 0] 42)) w.heap.size 40 (hdC c t f n)) := Lib.hid ((Row.new w 40 (hdC c t f n)).alloc _)
  have HV : Hid (Row ((w.alloc (.cells #[.int .i64 c, .int .i64 t, .bool f, .int .i64 n] 40)).alloc (.cells #[.int .i64 0, .int .i64 0, .int .i64 0, .int .i64 0, .bool false, .int .i64 0, .int .u8 0] 42)) (w.heap.size + 1) 42 (evC ⟨0, 0, 0, 0, false, 0, 0⟩)) := Lib.hid (by
    have := Row.new (w.alloc (.cells #[.int .i64 c, .int .i64 t, .bool f, .int .i64 n] 40)) 42 (evC ⟨0, 0, 0, 0, false, 0, 0⟩)
    rw [show (w.alloc (.cells #[.int .i64 c, .int .i64 t, .bool f, .int .i64 n] 40)).heap.size = w.heap.size + 1 by simp] at this
    exact this)
  have HB : Hid (Below w.heap.size w ((w.alloc (.cells #[.int .i64 c, .int .i64 t, .bool f, .int .i64 n] 40)).alloc (.cells #[.int .i64 0, .int .i64 0, .int .i64 0, .int .i64 0, .bool false, .int .i64 0, .int .u8 0] 42))) := Lib.hid (((Below.refl _ _).alloc (Nat.le_refl _) _).alloc (by simp) _)
  have HRW := Lib.hid (Row.below HR.out HB.out HR.out.lt)
  have hs : ((w.alloc (.cells #[.int .i64 c, .int .i64 t, .bool f, .int .i64 n] 40)).alloc (.cells #[.int .i64 0, .int .i64 0, .int .i64 0, .int .i64 0, .bool false, .int .i64 0, .int .u8 0] 42)).heap.size = w.heap.size + 2 := by simp
  clear HR
  generalize (w.alloc (.cells #[.int .i64 c, .int .i64 t, .bool f, .int .i64 n] 40)).alloc (.cells #[.int .i64 0, .int .i64 0, .int .i64 0, .int .i64 0, .bool false, .int .i64 0, .int .u8 0] 42) = W at *
  obtain ⟨k0, k1, k2, k3, f0, f1, f2, f3⟩ := head_facts HH.out
  have q3 : W.cell? ⟨k, 3, none⟩ = some (.int .i64 p) := HRW.out.cell 3
  obtain ⟨e0, e1, e2, e3, e4, e5, e6⟩ := ev_facts HV.out
  have g0 := HV.out.frozen 0
  have g1 := HV.out.frozen 1
  have g2 := HV.out.frozen 2
  have g3 := HV.out.frozen 3
  have g4 := HV.out.frozen 4
  have g5 := HV.out.frozen 5
  have g6 := HV.out.frozen 6
  have hv := HV.out.lt
  clear HH HRW
  go_region
  go_wp2
  exact bodyPost_ret (results_cell Try.results52 _ (ad := ⟨w.heap.size + 1, 0, none⟩) rfl (ev_load (Row.below (ev_set HV.out ⟨kind, p, c, t, f, n, 0⟩) (Below.refl _ _).drew (ev_set HV.out ⟨kind, p, c, t, f, n, 0⟩).lt))) rfl ⟨rfl, (ev_set_below HB.out (by omega) ⟨kind, p, c, t, f, n, 0⟩).drew⟩
/-- The end of a primitive element, if it is over. -/
theorem endLeaf_any {w : World} {k ks base : Nat} {x : CM} {v : Value} {l : List Ev} (hM : MR w k ks x) (hk : k < base) (hE : Evs w base v l) (hb : base ≤ w.heap.size) (hl : l.length ≤ 1000) :
    Calls Try.prog 43 #[.pointer (some ⟨k, 0, none⟩), v] w fun e w' => ∃ v', e = .returned v' ∧ Evs w' base v' (if 0 < x.n then l else l ++ [evEnd x.p]) ∧ Below base w w' := by
  obtain ⟨oa, c, rfl⟩ := hE.isSl
  obtain ⟨q0, q1, q2, q3, q4, q5⟩ := mrow_facts hM.row
  have hlt := hM.lt
  by_cases h0 : 0 < x.n
  · rw [if_pos h0]
    have HE := Lib.hid hE
    clear hE hM
    generalize x.n = n at *
    go_enter Try.func43, Try.ntmps43
    go_wp2
    go_returns
    exact ⟨_, rfl, HE.out, Below.refl _ _⟩
  · rw [if_neg h0]
    have HE := Lib.hid hE
    have HC := Lib.hid (event_any 4 hM)
    clear hE hM
    generalize x.n = n at *
    generalize x.p = p at *
    go_enter Try.func43, Try.ntmps43
    go_wp2_with fail
    refine HC.out.mono ?_
    rintro e w1 ⟨rfl, hb1⟩
    have HE1 := Lib.hid (HE.out.below hb1)
    have HB1 := Lib.hid (hb1.mono hb)
    have hbw : base ≤ w1.heap.size := Nat.le_trans hb hb1.size
    clear hb1 HC HE q0 q1 q2 q3 q4 q5
    go_wp2_with (at_builtin; refine wpList_append_evs rfl (.tmp 11) (.tmp 14) rfl base rfl (l1 := l) ?h1 rfl (l2 := [evEnd p]) (base2 := w1.heap.size) ?h2 ?h3 ?h4 ?h5)
    case h1 => exact HE1.out.below ((Below.refl _ _).alloc (Nat.le_refl _) _)
    case h2 => exact evs_one w1 (evEnd p)
    case h3 => simp; omega
    case h4 => simp; omega
    intro v6 w6 he6 hg6 hob6
    obtain ⟨o6, c6, rfl⟩ := he6.isSl
    have HB6 := Lib.hid ((HB1.out.alloc hbw _).grown hg6 (by simp; omega) (fun q h => (HE1.out.lt q h).1))
    have HE6 := Lib.hid he6
    clear he6 hg6 hob6
    go_wp2
    go_returns
    exact ⟨_, rfl, HE6.out, HB6.out⟩
theorem chg_alloc {w : World} (o : Obj) (base k ks : Nat) : Chg (FB base k ks) w (w.alloc o) := Chg.of_below ((Below.refl _ _).alloc (Nat.le_refl _) _)
theorem popE_cons {x : Int} (r : List Int) (p : Nat) (h : x = 0) : popE (x :: r) p = evExit p :: popE r p := by rw [popE, if_pos h]
theorem popE_stay {x : Int} (r : List Int) (p : Nat) (h : x ≠ 0) : popE (x :: r) p = [] := by rw [popE, if_neg h]
theorem popS_cons {x : Int} (r : List Int) (h : x = 0) : popS (x :: r) = popS r := by rw [popS, if_pos h]
theorem popS_stay {x : Int} (r : List Int) (h : x ≠ 0) : popS (x :: r) = x :: r := by rw [popS, if_neg h]
set_option maxHeartbeats 4000000 in
/-- The ends of the constructed elements that are over. -/
theorem leave_any {w : World} {k ks base : Nat} {x : CM} {v : Value} {l : List Ev} (hM : MR w k ks x) (hk : k < base) (hs : ks < base) (hE : Evs w base v l) (hb : base ≤ w.heap.size) (hl : l.length ≤ 1000) :
    Calls Try.prog 33 #[.pointer (some ⟨k, 0, none⟩), v] w fun e w' => ∃ v', e = .returned v' ∧ Evs w' base v' (l ++ popE x.s.st x.p) ∧ MR w' k ks { x with s := ⟨x.s.most, popS x.s.st⟩, dn := decide (x.n = 0) && (popS x.s.st).isEmpty } ∧ Chg (FB base k ks) w w' := by
  obtain ⟨oa, c, rfl⟩ := hE.isSl
  obtain ⟨⟨most, st0⟩, cc, n, p, dn, er⟩ := x
  have hlen : st0.length ≤ 64 := by
    have := hM.st.2.1
    exact Nat.le_trans this.len this.most
  have HM := Lib.hid hM
  have HE := Lib.hid hE
  simp only
  clear hM hE
  go_enter Try.func33, Try.ntmps33
  go_wp2_with fail
  go_loopg [1] st0.length (fun gk gv wr => ∃ (st : List Int) (ov : Option Addr) (cv : Nat) (l' : List Ev), gv = .slice ov l'.length cv ∧ st.length ≤ gk ∧ l'.length + st.length ≤ l.length + st0.length ∧ Hid (MR wr k ks ⟨⟨most, st⟩, cc, n, p, dn, er⟩) ∧ Hid (Evs wr base (.slice ov l'.length cv) l') ∧ Hid (l' ++ popE st p = l ++ popE st0 p) ∧ Hid (popS st = popS st0) ∧ Hid (Chg (FB base k ks) w wr))
  case atStart => exact ⟨st0, oa, c, l, rfl, Nat.le_refl _, Nat.le_refl _, HM, HE, Lib.hid rfl, Lib.hid rfl, Lib.hid (chg_draws _ w 0)⟩
  case round =>
    obtain ⟨st, ov, cv, l', rfl, hgk, hll, HMr, HEr, HLr, HSr, HCr⟩ := hrel
    clear HM HE
    obtain ⟨q0, q1, q2, q3, q4, q5⟩ := mrow_facts HMr.out.row
    have hlt := HMr.out.lt
    have HK := Lib.hid (leave_code HMr.out.st)
    have hbr : base ≤ wr.heap.size := Nat.le_trans hb HCr.out.size
    rcases (show (∃ r, st = 0 :: r) ∨ (SS.leaveB ⟨most, st⟩ = false ∧ SS.leave ⟨most, st⟩ = ⟨most, st⟩ ∧ popS st = st ∧ popE st p = []) by
      cases st with
      | nil => exact .inr ⟨rfl, rfl, rfl, rfl⟩
      | cons y r =>
        by_cases h : y = 0
        · exact .inl ⟨r, by rw [h]⟩
        · exact .inr ⟨by unfold SS.leaveB SS.last; simpa using h, by unfold SS.leave SS.last; exact if_neg h, popS_stay r h, popE_stay r p h⟩) with ⟨r, rfl⟩ | ⟨hlb, hle, hps, hpe⟩
    · rw [show SS.leaveB ⟨most, 0 :: r⟩ = true from rfl, show SS.leave ⟨most, 0 :: r⟩ = ⟨most, r⟩ from rfl] at HK
      go_wp2_with fail
      refine HK.out.mono ?_
      rintro e w1 ⟨rfl, hs1, hc1⟩
      have HM1 := Lib.hid (HMr.out.stack hs1 hc1)
      have HE1 := Lib.hid (HEr.out.aside hc1 (fun i hi => by omega))
      have HC1 := Lib.hid (chg_then HCr.out (chg_stack hc1))
      have HV := Lib.hid (event_any 5 HM1.out)
      have hb1 : base ≤ w1.heap.size := Nat.le_trans hbr hc1.size
      clear hs1 hc1 HMr HEr HCr HK q0 q1 q2 q3 q4 q5
      go_wp2_with fail
      refine HV.out.mono ?_
      rintro e w2 ⟨rfl, hb2⟩
      have HM2 := Lib.hid (HM1.out.below hb2)
      have HE2 := Lib.hid (HE1.out.below hb2)
      have HC2 := Lib.hid (chg_then HC1.out (chg_below hb2))
      have hbb : base ≤ w2.heap.size := Nat.le_trans hb1 hb2.size
      clear hb2 HM1 HE1 HC1 HV
      go_wp2_with (at_builtin; refine wpList_append_evs rfl (.tmp 10) (.tmp 13) rfl base rfl (l1 := l') ?h1 rfl (l2 := [evExit p]) (base2 := w2.heap.size) ?h2 ?h3 ?h4 ?h5)
      case h1 => exact HE2.out.below ((Below.refl _ _).alloc (Nat.le_refl _) _)
      case h2 => exact evs_one w2 (evExit p)
      case h3 => simp; omega
      case h4 => simp; omega
      intro v6 w6 he6 hg6 hob6
      obtain ⟨o6, c6, rfl⟩ := he6.isSl
      have hB6 : Below base w2 w6 := ((Below.refl base w2).alloc hbb _).grown hg6 (by simp; omega) (fun q h => (HE2.out.lt q h).1)
      have HM6 := Lib.hid (HM2.out.above hB6 hk hs)
      have HE6 := Lib.hid he6
      have HC6 := Lib.hid (chg_then HC2.out (chg_base hB6 hbb))
      clear he6 hg6 hob6 hB6
      go_wp2
      go_roundg r.length
      case measure => simp at hgk; omega
      case rel => exact ⟨r, o6, c6, l' ++ [evExit p], rfl, Nat.le_refl _, by simp at hll ⊢; omega, HM6, HE6, Lib.hid (by have := HLr.out; rw [popE_cons r p rfl] at this; simpa using this), Lib.hid (by have := HSr.out; rw [popS_cons r rfl] at this; exact this), HC6⟩
    · simp only [hlb, hle] at HK
      rw [hps] at HSr
      rw [hpe, List.append_nil] at HLr
      go_wp2_with fail
      refine HK.out.mono ?_
      rintro e w1 ⟨rfl, hs1, hc1⟩
      have HM1 := Lib.hid (HMr.out.stack hs1 hc1)
      have HE1 := Lib.hid (HEr.out.aside hc1 (fun i hi => by omega))
      have HC1 := Lib.hid (chg_then HCr.out (chg_stack hc1))
      clear hs1 hc1 HMr HEr HCr HK q0 q1 q2 q3 q4 q5 hlb hle hps hpe
      obtain ⟨q0, q1, q2, q3, q4, q5⟩ := mrow_facts HM1.out.row
      have g4 := HM1.out.row.frozen 4
      have hlt1 := HM1.out.lt
      simp only at HM1 q0 q1 q2 q3 q4 q5
      by_cases hn : n = 0
      · subst hn
        have HD := Lib.hid (stSpec.depth HM1.out.st)
        simp only at HD
        by_cases he : st = []
        · subst he
          rw [show SS.depth ⟨most, []⟩ = 0 from rfl] at HD
          have HFM := Lib.hid (fun a => ((HM1.out.below (draws_below w1 a)).set_d true))
          have HFC := Lib.hid (fun a => chg_then (chg_then HC1.out (chg_below (draws_below w1 a))) (chg_setk (w1.drewN a) 4 (.bool true) base ks))
          have HFE := Lib.hid (fun a => (HE1.out.below (draws_below w1 a)).aside (chg_setk1 (w1.drewN a) k 4 (.bool true)) (fun i hi => by omega))
          have HX := Lib.hid (fun a => HM1.out.below (draws_below w1 a))
          go_wp2_with fail
          refine HD.out.mono ?_
          rintro e w2 ⟨rfl, a, rfl⟩
          have HMa := Lib.hid (HFM.out a)
          have HCa := Lib.hid (HFC.out a)
          have HEa := Lib.hid (HFE.out a)
          clear q0 q1 q2 q3 q4 q5 g4 hlt1 HM1 HC1 HE1
          obtain ⟨q0, q1, q2, q3, q4, q5⟩ := mrow_facts (HX.out a).row
          have g4 := (HX.out a).row.frozen 4
          have hlt1 := (HX.out a).lt
          simp only at q0 q1 q2 q3 q4 q5
          clear HFM HFC HFE HD HX
          generalize w1.drewN a = W at *
          go_wp2
          go_returns
          exact ⟨_, rfl, by rw [← HLr.out]; exact HEa.out, by rw [← HSr.out]; exact HMa.out, HCa.out⟩
        · obtain ⟨d, hd⟩ : ∃ d : Nat, SS.depth ⟨most, st⟩ = (d : Int) + 1 := ⟨st.length - 1, by unfold SS.depth; have : st.length ≠ 0 := fun h => he (List.eq_nil_of_length_eq_zero h); simp only; omega⟩
          have hie : st.isEmpty = false := by simpa using he
          have hde : ((d : Int) + 1 == 0) = false := by simp; omega
          rw [hd] at HD
          clear hd he
          have HFM := Lib.hid (fun a => ((HM1.out.below (draws_below w1 a)).set_d false))
          have HFC := Lib.hid (fun a => chg_then (chg_then HC1.out (chg_below (draws_below w1 a))) (chg_setk (w1.drewN a) 4 (.bool false) base ks))
          have HFE := Lib.hid (fun a => (HE1.out.below (draws_below w1 a)).aside (chg_setk1 (w1.drewN a) k 4 (.bool false)) (fun i hi => by omega))
          have HX := Lib.hid (fun a => HM1.out.below (draws_below w1 a))
          go_wp2_with fail
          refine HD.out.mono ?_
          rintro e w2 ⟨rfl, a, rfl⟩
          have HMa := Lib.hid (HFM.out a)
          have HCa := Lib.hid (HFC.out a)
          have HEa := Lib.hid (HFE.out a)
          clear q0 q1 q2 q3 q4 q5 g4 hlt1 HM1 HC1 HE1
          obtain ⟨q0, q1, q2, q3, q4, q5⟩ := mrow_facts (HX.out a).row
          have g4 := (HX.out a).row.frozen 4
          have hlt1 := (HX.out a).lt
          simp only at q0 q1 q2 q3 q4 q5
          clear HFM HFC HFE HD HX
          generalize w1.drewN a = W at *
          go_wp2
          go_returns
          exact ⟨_, rfl, by rw [← HLr.out]; exact HEa.out, by rw [← HSr.out, hie]; exact HMa.out, HCa.out⟩
      · have hne : (n == 0) = false := by simpa using hn
        have hnd : decide (n = 0) = false := by simpa using hn
        have HMa := Lib.hid (HM1.out.set_d false)
        have HCa := Lib.hid (chg_then HC1.out (chg_setk w1 4 (.bool false) base ks))
        have HEa := Lib.hid (HE1.out.aside (chg_setk1 w1 k 4 (.bool false)) (fun i hi => by omega))
        clear HM1 HC1 HE1 hn
        go_wp2
        go_returns
        exact ⟨_, rfl, by rw [← HLr.out]; exact HEa.out, by rw [← HSr.out, hnd]; exact HMa.out, HCa.out⟩
end Go.Proofs.Ytagigdefghnnhaa
