/- A machine of the landed code in memory, and its calls that make an event. -/
import Derived.Test.YtiiimhamfibdbaaE1
import Derived.Test.YtiiimhamfibdbaaB0
import Derived.Test.YtiiimhamfibdbaaE3
import Derived.Test.YtiiimhamfibdbaaP0
import Derived.Test.YtiiimhamfibdbaaE4
import Derived.Deep.CutRange
import Derived.Deep.RegionWith
import Derived.StillTailTactics
import Derived.Deep.QuietTactic
import Derived.BigQuiet
namespace Go.Proofs.Ytiiimhamfibdbaa
open Go.RowKit Go.PlainAid
set_option linter.unusedVariables false
structure CM where
 s : SS
 c : ByteArray
 n : Int
 p : Nat
 dn : Bool
 er : Int
def mC (ks : Nat) (c : ByteArray) (n p : Int) (dn : Bool) (er : Int) : List Value := [.pointer (some ⟨ks, 0, none⟩), .string c, .int .i64 n, .int .i64 p, .bool dn, .int .i64 er]
abbrev MRow (w : World) (k ks : Nat) (c : ByteArray) (n p : Int) (dn : Bool) (er : Int) : Prop := Row w k 53 (mC ks c n p dn er)
structure MR (w : World) (k ks : Nat) (x : CM) : Prop where
 st : StAt w ks (fun i => i = ks) x.s
 ne : k ≠ ks
 row : MRow w k ks x.c x.n x.p x.dn x.er
section
variable {w : World} {k ks : Nat} {c : ByteArray} {n p : Int} {dn : Bool} {er : Int}
theorem mrow_facts (h : MRow w k ks c n p dn er) : w.cell? ⟨k, 0, none⟩ = some (.pointer (some ⟨ks, 0, none⟩)) ∧ w.cell? ⟨k, 1, none⟩ = some (.string c) ∧ w.cell? ⟨k, 2, none⟩ = some (.int .i64 n) ∧ w.cell? ⟨k, 3, none⟩ = some (.int .i64 p) ∧ w.cell? ⟨k, 4, none⟩ = some (.bool dn) ∧ w.cell? ⟨k, 5, none⟩ = some (.int .i64 er) :=
 ⟨h.cell 0, h.cell 1, h.cell 2, h.cell 3, h.cell 4, h.cell 5⟩
theorem mrow_c (h : MRow w k ks c n p dn er) (y : ByteArray) : MRow (w.setCell ⟨k, 1, none⟩ (.string y)) k ks y n p dn er := h.set 1 (.string y)
theorem mrow_n (h : MRow w k ks c n p dn er) (y : Int) : MRow (w.setCell ⟨k, 2, none⟩ (.int .i64 y)) k ks c y p dn er := h.set 2 (.int .i64 y)
theorem mrow_p (h : MRow w k ks c n p dn er) (y : Int) : MRow (w.setCell ⟨k, 3, none⟩ (.int .i64 y)) k ks c n y dn er := h.set 3 (.int .i64 y)
theorem mrow_d (h : MRow w k ks c n p dn er) (y : Bool) : MRow (w.setCell ⟨k, 4, none⟩ (.bool y)) k ks c n p y er := h.set 4 (.bool y)
theorem mrow_e (h : MRow w k ks c n p dn er) (y : Int) : MRow (w.setCell ⟨k, 5, none⟩ (.int .i64 y)) k ks c n p dn y := h.set 5 (.int .i64 y)
end
def FB (base k ks : Nat) : Nat → Prop := fun i => i = k ∨ i = ks ∨ base ≤ i
section
variable {w w' : World} {k ks base : Nat} {x : CM}
theorem MR.lt (h : MR w k ks x) : k < w.heap.size := h.row.lt
theorem MR.lts (h : MR w k ks x) : ks < w.heap.size := by obtain ⟨_, _, J, _, hr⟩ := h.st; exact hr.lt
theorem MR.chg {F : Nat → Prop} (h : MR w k ks x) (hc : Chg F w w') (hk : ¬ F k) (hs : ¬ F ks) : MR w' k ks x :=
 ⟨h.st.aside hc (fun i hi => by rw [hi]; exact hs), h.ne, h.row.chg hc hk⟩
theorem MR.below (h : MR w k ks x) (hb : Below w.heap.size w w') : MR w' k ks x := h.chg (F := fun _ => False) ⟨hb.os, hb.tape, hb.output, hb.size, fun i hi _ => hb.block i hi⟩ (fun f => f) (fun f => f)
theorem MR.above (h : MR w k ks x) (hb : Below base w w') (hk : k < base) (hs : ks < base) : MR w' k ks x :=
 h.chg (F := fun i => base ≤ i) ⟨hb.os, hb.tape, hb.output, hb.size, fun i hi hf => hb.block i (by omega)⟩ (by omega) (by omega)
theorem MR.stack (h : MR w k ks x) {s' : SS} (hs : StAt w' ks (fun i => i = ks) s') (hc : Chg (fun i => i = ks) w w') : MR w' k ks { x with s := s' } :=
 ⟨hs, h.ne, h.row.chg hc h.ne⟩
theorem MR.setk (h : MR w k ks x) (o : Nat) (v : Value) : StAt (w.setCell ⟨k, o, none⟩ v) ks (fun i => i = ks) x.s :=
 h.st.aside (F' := fun i => i = k) ⟨rfl, rfl, rfl, by simp, fun i hi hf => Below.heap_setCell w _ v i hf⟩ (fun i hi e => h.ne (e ▸ hi))
theorem MR.set_c (h : MR w k ks x) (y : ByteArray) : MR (w.setCell ⟨k, 1, none⟩ (.string y)) k ks { x with c := y } := ⟨h.setk 1 _, h.ne, mrow_c h.row y⟩
theorem MR.set_n (h : MR w k ks x) (y : Int) : MR (w.setCell ⟨k, 2, none⟩ (.int .i64 y)) k ks { x with n := y } := ⟨h.setk 2 _, h.ne, mrow_n h.row y⟩
theorem MR.set_p (h : MR w k ks x) (y : Nat) : MR (w.setCell ⟨k, 3, none⟩ (.int .i64 (y : Int))) k ks { x with p := y } := ⟨h.setk 3 _, h.ne, mrow_p h.row y⟩
theorem MR.set_d (h : MR w k ks x) (y : Bool) : MR (w.setCell ⟨k, 4, none⟩ (.bool y)) k ks { x with dn := y } := ⟨h.setk 4 _, h.ne, mrow_d h.row y⟩
theorem MR.set_e (h : MR w k ks x) (y : Int) : MR (w.setCell ⟨k, 5, none⟩ (.int .i64 y)) k ks { x with er := y } := ⟨h.setk 5 _, h.ne, mrow_e h.row y⟩
theorem chg_setk (w : World) (o : Nat) (v : Value) (base ks : Nat) : Chg (FB base k ks) w (w.setCell ⟨k, o, none⟩ v) :=
 ⟨rfl, rfl, rfl, by simp, fun i hi hf => Below.heap_setCell w _ v i (fun e => hf (.inl e))⟩
theorem chg_setk1 (w : World) (k o : Nat) (v : Value) : Chg (fun i => i = k) w (w.setCell ⟨k, o, none⟩ v) := ⟨rfl, rfl, rfl, by simp, fun i hi hf => Below.heap_setCell w _ v i hf⟩
theorem chg_stack (hc : Chg (fun i => i = ks) w w') : Chg (FB base k ks) w w' := ⟨hc.os, hc.tape, hc.output, hc.size, fun i hi hf => hc.block i hi (fun e => hf (.inr (.inl e)))⟩
theorem chg_below (hb : Below w.heap.size w w') : Chg (FB base k ks) w w' := Chg.of_below hb
theorem chg_base (hb : Below base w w') (hbw : base ≤ w.heap.size) : Chg (FB base k ks) w w' := ⟨hb.os, hb.tape, hb.output, hb.size, fun i hi hf => hb.block i (by
 rcases Nat.lt_or_ge i base with g | g
 ·exact g
 ·exact absurd (.inr (.inr g)) hf)⟩
theorem chg_then {a : World} (h : Chg (FB base k ks) a w) (h2 : Chg (FB base k ks) w w') : Chg (FB base k ks) a w' := h.trans h2 (fun i hi => .inl hi)
theorem Evs.aside {v : Value} {l : List Ev} {F : Nat → Prop} (h : Evs w base v l) (hc : Chg F w w') (hF : ∀ i, F i → i < base) : Evs w' base v l := own_chg h hc hF
end
theorem Evs.isSl {w : World} {base : Nat} {v : Value} {l : List Ev} (h : Evs w base v l) : ∃ oa c, v = .slice oa l.length c := by
 rcases h.shape with ⟨rfl, rfl⟩ | ⟨g, c, rfl, _⟩
 ·exact ⟨none, 0, rfl⟩
 ·exact ⟨_, c, rfl⟩
theorem infoEvS : (Try.prog.info? 34).map (·.size) = some 7 := by kernel_rfl
theorem ev_load {W : World} {g : Nat} {e : Ev} (h : Row W g 34 (evC e)) : (loadVar 34 ⟨g, 0, none⟩).run Try.prog W = .ok (evV e) W :=
 run_loadVar_mid _ _ 0 _ (evC e) _ h.whole Try.underlying34 rfl infoEvS
theorem ev_set {W : World} {g : Nat} {e0 : Ev} (h : Row W g 34 (evC e0)) (e : Ev) :
  Row (((((((W.setCell ⟨g, 0, none⟩ (.int .i64 e.k)).setCell ⟨g, 1, none⟩ (.int .i64 e.at_)).setCell ⟨g, 2, none⟩ (.int .i64 e.c)).setCell ⟨g, 3, none⟩ (.int .i64 e.t)).setCell ⟨g, 4, none⟩ (.bool e.f)).setCell ⟨g, 5, none⟩ (.int .i64 e.n)).setCell ⟨g, 6, none⟩ (.int .u8 e.b)) g 34 (evC e) :=
 ((((((h.set 0 (.int .i64 e.k)).set 1 (.int .i64 e.at_)).set 2 (.int .i64 e.c)).set 3 (.int .i64 e.t)).set 4 (.bool e.f)).set 5 (.int .i64 e.n)).set 6 (.int .u8 e.b)
theorem ev_set_below {B : Nat} {a W : World} {g : Nat} (h : Below B a W) (hg : B ≤ g) (e : Ev) :
  Below B a (((((((W.setCell ⟨g, 0, none⟩ (.int .i64 e.k)).setCell ⟨g, 1, none⟩ (.int .i64 e.at_)).setCell ⟨g, 2, none⟩ (.int .i64 e.c)).setCell ⟨g, 3, none⟩ (.int .i64 e.t)).setCell ⟨g, 4, none⟩ (.bool e.f)).setCell ⟨g, 5, none⟩ (.int .i64 e.n)).setCell ⟨g, 6, none⟩ (.int .u8 e.b)) :=
 ((((((h.setCell hg _).setCell hg _).setCell hg _).setCell hg _).setCell hg _).setCell hg _).setCell hg _
theorem evs_one (w : World) (e : Ev) : Evs (w.alloc (evO e)) w.heap.size (.slice (some ⟨w.heap.size, 0, none⟩) 1 1) [e] := by
 refine ⟨rfl, .inr ⟨w.heap.size, 1, (evC e).toArray, rfl, Nat.le_refl _, ?_, Nat.le_refl _, by unfold maxLen; omega, rfl, rfl⟩⟩
 exact Row.new w 34 (evC e)
theorem event_any {w : World} {k ks : Nat} {x : CM} (kind : Int) (h : MR w k ks x) :
  Calls Try.prog 33 #[.pointer (some ⟨k, 0, none⟩), .int .i64 kind] w fun e w' => e = .returned (.agg #[.int .i64 kind, .int .i64 (x.p : Int), .int .i64 0, .int .i64 0, .bool false, .int .i64 0, .int .u8 0]) ∧ Below w.heap.size w w' := by
 have hlt := h.lt
 obtain ⟨_, _, _, q3, _, _⟩ := mrow_facts h.row
 clear h
 generalize (x.p : Int) = p at *
 go_enter Try.func33, Try.ntmps33
 go_wp2
 exact bodyPost_ret (results_cell Try.results33 _ (ad := ⟨w.heap.size, 0, none⟩) rfl (ev_load (Row.new w 34 (evC ⟨kind, p, 0, 0, false, 0, 0⟩)))) rfl ⟨rfl, (Below.refl _ _).alloc (Nat.le_refl _) _⟩
theorem eventOf_any {w : World} {k ks : Nat} {x : CM} (kind c t : Int) (f : Bool) (n : Int) (h : MR w k ks x) :
  Calls Try.prog 45 #[.pointer (some ⟨k, 0, none⟩), .int .i64 kind, .agg #[.int .i64 c, .int .i64 t, .bool f, .int .i64 n]] w fun e w' => e = .returned (.agg #[.int .i64 kind, .int .i64 (x.p : Int), .int .i64 c, .int .i64 t, .bool f, .int .i64 n, .int .u8 0]) ∧ Below w.heap.size w w' := by
 have hlt := h.lt
 have HR := Lib.hid h.row
 clear h
 generalize (x.p : Int) = p at *
 go_enter Try.func45, Try.ntmps45
 go_upto_region 7 with fail
 have HH : Hid (Row ((w.alloc (.cells #[.int .i64 c, .int .i64 t, .bool f, .int .i64 n] 32)).alloc (.cells #[.int .i64 0, .int .i64 0, .int .i64 0, .int .i64 0, .bool false, .int .i64 0, .int .u8 0] 34)) w.heap.size 32 (hdC c t f n)) := Lib.hid ((Row.new w 32 (hdC c t f n)).alloc _)
 have HV : Hid (Row ((w.alloc (.cells #[.int .i64 c, .int .i64 t, .bool f, .int .i64 n] 32)).alloc (.cells #[.int .i64 0, .int .i64 0, .int .i64 0, .int .i64 0, .bool false, .int .i64 0, .int .u8 0] 34)) (w.heap.size + 1) 34 (evC ⟨0, 0, 0, 0, false, 0, 0⟩)) := Lib.hid (by
  have := Row.new (w.alloc (.cells #[.int .i64 c, .int .i64 t, .bool f, .int .i64 n] 32)) 34 (evC ⟨0, 0, 0, 0, false, 0, 0⟩)
  rw [show (w.alloc (.cells #[.int .i64 c, .int .i64 t, .bool f, .int .i64 n] 32)).heap.size = w.heap.size + 1 by simp] at this
  exact this)
 have HB : Hid (Below w.heap.size w ((w.alloc (.cells #[.int .i64 c, .int .i64 t, .bool f, .int .i64 n] 32)).alloc (.cells #[.int .i64 0, .int .i64 0, .int .i64 0, .int .i64 0, .bool false, .int .i64 0, .int .u8 0] 34))) := Lib.hid (((Below.refl _ _).alloc (Nat.le_refl _) _).alloc (by simp) _)
 have HRW := Lib.hid (Row.below HR.out HB.out HR.out.lt)
 have hs : ((w.alloc (.cells #[.int .i64 c, .int .i64 t, .bool f, .int .i64 n] 32)).alloc (.cells #[.int .i64 0, .int .i64 0, .int .i64 0, .int .i64 0, .bool false, .int .i64 0, .int .u8 0] 34)).heap.size = w.heap.size + 2 := by simp
 clear HR
 generalize (w.alloc (.cells #[.int .i64 c, .int .i64 t, .bool f, .int .i64 n] 32)).alloc (.cells #[.int .i64 0, .int .i64 0, .int .i64 0, .int .i64 0, .bool false, .int .i64 0, .int .u8 0] 34) = W at *
 obtain ⟨k0, k1, k2, k3, f0, f1, f2, f3⟩ := head_facts HH.out
 have q3 : W.cell? ⟨k, 3, none⟩ = some (.int .i64 p) := HRW.out.cell 3
 obtain ⟨e0, e1, e2, e3, e4, e5, e6⟩ := ev_facts HV.out
 have g0 := HV.out.frozen 0
 have g1 := HV.out.frozen 1
 have g2 := HV.out.frozen 2
 have g3 := HV.out.frozen 3
 have g4 := HV.out.frozen 4
 have g5 := HV.out.frozen 5
 have g6 := HV.out.frozen 6
 have hv := HV.out.lt
 clear HH HRW
 go_region
 go_wp2
 exact bodyPost_ret (results_cell Try.results45 _ (ad := ⟨w.heap.size + 1, 0, none⟩) rfl (ev_load (Row.below (ev_set HV.out ⟨kind, p, c, t, f, n, 0⟩) (Below.refl _ _).drew (ev_set HV.out ⟨kind, p, c, t, f, n, 0⟩).lt))) rfl ⟨rfl, (ev_set_below HB.out (by omega) ⟨kind, p, c, t, f, n, 0⟩).drew⟩
theorem endLeaf_any {w : World} {k ks base : Nat} {x : CM} {v : Value} {l : List Ev} (hM : MR w k ks x) (hk : k < base) (hE : Evs w base v l) (hb : base ≤ w.heap.size) (hl : l.length ≤ 1000) :
  Calls Try.prog 35 #[.pointer (some ⟨k, 0, none⟩), v] w fun e w' => ∃ v', e = .returned v' ∧ Evs w' base v' (if 0 < x.n then l else l ++ [evEnd x.p]) ∧ Below base w w' := by
 obtain ⟨oa, c, rfl⟩ := hE.isSl
 obtain ⟨q0, q1, q2, q3, q4, q5⟩ := mrow_facts hM.row
 have hlt := hM.lt
 by_cases h0 : 0 < x.n
 ·rw [if_pos h0]
  have HE := Lib.hid hE
  clear hE hM
  generalize x.n = n at *
  go_enter Try.func35, Try.ntmps35
  go_wp2
  go_returns
  exact ⟨_, rfl, HE.out, Below.refl _ _⟩
 ·rw [if_neg h0]
  have HE := Lib.hid hE
  have HC := Lib.hid (event_any 4 hM)
  clear hE hM
  generalize x.n = n at *
  generalize x.p = p at *
  go_enter Try.func35, Try.ntmps35
  go_wp2_with fail
  refine HC.out.mono ?_
  rintro e w1 ⟨rfl, hb1⟩
  have HE1 := Lib.hid (HE.out.below hb1)
  have HB1 := Lib.hid (hb1.mono hb)
  have hbw : base ≤ w1.heap.size := Nat.le_trans hb hb1.size
  clear hb1 HC HE q0 q1 q2 q3 q4 q5
  go_wp2_with (at_builtin; refine wpList_append_evs rfl (.tmp 11) (.tmp 14) rfl base rfl (l1 := l) ?h1 rfl (l2 := [evEnd p]) (base2 := w1.heap.size) ?h2 ?h3 ?h4 ?h5)
  case h1 => exact HE1.out.below ((Below.refl _ _).alloc (Nat.le_refl _) _)
  case h2 => exact evs_one w1 (evEnd p)
  case h3 => simp; omega
  case h4 => simp; omega
  intro v6 w6 he6 hg6 hob6
  obtain ⟨o6, c6, rfl⟩ := he6.isSl
  have HB6 := Lib.hid ((HB1.out.alloc hbw _).grown hg6 (by simp; omega) (fun q h => (HE1.out.lt q h).1))
  have HE6 := Lib.hid he6
  clear he6 hg6 hob6
  go_wp2
  go_returns
  exact ⟨_, rfl, HE6.out, HB6.out⟩
theorem chg_alloc {w : World} (o : Obj) (base k ks : Nat) : Chg (FB base k ks) w (w.alloc o) := Chg.of_below ((Below.refl _ _).alloc (Nat.le_refl _) _)
theorem popE_cons {x : Int} (r : List Int) (p : Nat) (h : x = 0) : popE (x :: r) p = evExit p :: popE r p := by rw [popE, if_pos h]
theorem popE_stay {x : Int} (r : List Int) (p : Nat) (h : x ≠ 0) : popE (x :: r) p = [] := by rw [popE, if_neg h]
theorem popS_cons {x : Int} (r : List Int) (h : x = 0) : popS (x :: r) = popS r := by rw [popS, if_pos h]
theorem popS_stay {x : Int} (r : List Int) (h : x ≠ 0) : popS (x :: r) = x :: r := by rw [popS, if_neg h]
set_option maxHeartbeats 4000000 in
set_option maxRecDepth 100000 in
theorem leave_any {w : World} {k ks base : Nat} {x : CM} {v : Value} {l : List Ev} (hM : MR w k ks x) (hk : k < base) (hs : ks < base) (hE : Evs w base v l) (hb : base ≤ w.heap.size) (hl : l.length ≤ 1000) :
  Calls Try.prog 22 #[.pointer (some ⟨k, 0, none⟩), v] w fun e w' => ∃ v', e = .returned v' ∧ Evs w' base v' (l ++ popE x.s.st x.p) ∧ MR w' k ks { x with s := ⟨x.s.most, popS x.s.st⟩, dn := decide (x.n = 0) && (popS x.s.st).isEmpty } ∧ Chg (FB base k ks) w w' := by
 obtain ⟨oa, c, rfl⟩ := hE.isSl
 obtain ⟨⟨most, st0⟩, cc, n, p, dn, er⟩ := x
 have hlen : st0.length ≤ 64 := by
  have := hM.st.2.1
  exact Nat.le_trans this.len this.most
 have HM := Lib.hid hM
 have HE := Lib.hid hE
 simp only
 clear hM hE
 go_enter Try.func22, Try.ntmps22
 go_wp2_with fail
 go_loopg [1] st0.length (fun gk gv wr => ∃ (st : List Int) (ov : Option Addr) (cv : Nat) (l' : List Ev), gv = .slice ov l'.length cv ∧ st.length ≤ gk ∧ l'.length + st.length ≤ l.length + st0.length ∧ Hid (MR wr k ks ⟨⟨most, st⟩, cc, n, p, dn, er⟩) ∧ Hid (Evs wr base (.slice ov l'.length cv) l') ∧ Hid (l' ++ popE st p = l ++ popE st0 p) ∧ Hid (popS st = popS st0) ∧ Hid (Chg (FB base k ks) w wr))
 case atStart => exact ⟨st0, oa, c, l, rfl, Nat.le_refl _, Nat.le_refl _, HM, HE, Lib.hid rfl, Lib.hid rfl, Lib.hid (chg_draws _ w 0)⟩
 case round =>
  obtain ⟨st, ov, cv, l', rfl, hgk, hll, HMr, HEr, HLr, HSr, HCr⟩ := hrel
  clear HM HE
  obtain ⟨q0, q1, q2, q3, q4, q5⟩ := mrow_facts HMr.out.row
  have hlt := HMr.out.lt
  have HK := Lib.hid (leave_code HMr.out.st)
  have hbr : base ≤ wr.heap.size := Nat.le_trans hb HCr.out.size
  rcases (show (∃ r, st = 0 :: r) ∨ (SS.leaveB ⟨most, st⟩ = false ∧ SS.leave ⟨most, st⟩ = ⟨most, st⟩ ∧ popS st = st ∧ popE st p = []) by
   cases st with
   |nil => exact .inr ⟨rfl, rfl, rfl, rfl⟩
   |cons y r =>
    by_cases h : y = 0
    ·exact .inl ⟨r, by rw [h]⟩
    ·exact .inr ⟨by unfold SS.leaveB SS.last; simpa using h, by unfold SS.leave SS.last; exact if_neg h, popS_stay r h, popE_stay r p h⟩) with ⟨r, rfl⟩ | ⟨hlb, hle, hps, hpe⟩
  ·rw [show SS.leaveB ⟨most, 0 :: r⟩ = true from rfl, show SS.leave ⟨most, 0 :: r⟩ = ⟨most, r⟩ from rfl] at HK
   go_wp2_with fail
   refine HK.out.mono ?_
   rintro e w1 ⟨rfl, hs1, hc1⟩
   have HM1 := Lib.hid (HMr.out.stack hs1 hc1)
   have HE1 := Lib.hid (HEr.out.aside hc1 (fun i hi => by omega))
   have HC1 := Lib.hid (chg_then HCr.out (chg_stack hc1))
   have HV := Lib.hid (event_any 5 HM1.out)
   have hb1 : base ≤ w1.heap.size := Nat.le_trans hbr hc1.size
   clear hs1 hc1 HMr HEr HCr HK q0 q1 q2 q3 q4 q5
   go_wp2_with fail
   refine HV.out.mono ?_
   rintro e w2 ⟨rfl, hb2⟩
   have HM2 := Lib.hid (HM1.out.below hb2)
   have HE2 := Lib.hid (HE1.out.below hb2)
   have HC2 := Lib.hid (chg_then HC1.out (chg_below hb2))
   have hbb : base ≤ w2.heap.size := Nat.le_trans hb1 hb2.size
   clear hb2 HM1 HE1 HC1 HV
   go_wp2_with (at_builtin; refine wpList_append_evs rfl (.tmp 10) (.tmp 13) rfl base rfl (l1 := l') ?h1 rfl (l2 := [evExit p]) (base2 := w2.heap.size) ?h2 ?h3 ?h4 ?h5)
   case h1 => exact HE2.out.below ((Below.refl _ _).alloc (Nat.le_refl _) _)
   case h2 => exact evs_one w2 (evExit p)
   case h3 => simp; omega
   case h4 => simp; omega
   intro v6 w6 he6 hg6 hob6
   obtain ⟨o6, c6, rfl⟩ := he6.isSl
   have hB6 : Below base w2 w6 := ((Below.refl base w2).alloc hbb _).grown hg6 (by simp; omega) (fun q h => (HE2.out.lt q h).1)
   have HM6 := Lib.hid (HM2.out.above hB6 hk hs)
   have HE6 := Lib.hid he6
   have HC6 := Lib.hid (chg_then HC2.out (chg_base hB6 hbb))
   clear he6 hg6 hob6 hB6
   go_wp2
   go_roundg r.length
   case measure => simp at hgk; omega
   case rel => exact ⟨r, o6, c6, l' ++ [evExit p], rfl, Nat.le_refl _, by simp at hll ⊢; omega, HM6, HE6, Lib.hid (by have := HLr.out; rw [popE_cons r p rfl] at this; simpa using this), Lib.hid (by have := HSr.out; rw [popS_cons r rfl] at this; exact this), HC6⟩
  ·simp only [hlb, hle] at HK
   rw [hps] at HSr
   rw [hpe, List.append_nil] at HLr
   go_wp2_with fail
   refine HK.out.mono ?_
   rintro e w1 ⟨rfl, hs1, hc1⟩
   have HM1 := Lib.hid (HMr.out.stack hs1 hc1)
   have HE1 := Lib.hid (HEr.out.aside hc1 (fun i hi => by omega))
   have HC1 := Lib.hid (chg_then HCr.out (chg_stack hc1))
   clear hs1 hc1 HMr HEr HCr HK q0 q1 q2 q3 q4 q5 hlb hle hps hpe
   obtain ⟨q0, q1, q2, q3, q4, q5⟩ := mrow_facts HM1.out.row
   have g4 := HM1.out.row.frozen 4
   have hlt1 := HM1.out.lt
   simp only at HM1 q0 q1 q2 q3 q4 q5
   by_cases hn : n = 0
   ·subst hn
    have HD := Lib.hid (stSpec.depth HM1.out.st)
    simp only at HD
    by_cases he : st = []
    ·subst he
     rw [show SS.depth ⟨most, []⟩ = 0 from rfl] at HD
     have HFM := Lib.hid (fun a => ((HM1.out.below (draws_below w1 a)).set_d true))
     have HFC := Lib.hid (fun a => chg_then (chg_then HC1.out (chg_below (draws_below w1 a))) (chg_setk (w1.drewN a) 4 (.bool true) base ks))
     have HFE := Lib.hid (fun a => (HE1.out.below (draws_below w1 a)).aside (chg_setk1 (w1.drewN a) k 4 (.bool true)) (fun i hi => by omega))
     have HX := Lib.hid (fun a => HM1.out.below (draws_below w1 a))
     go_wp2_with fail
     refine HD.out.mono ?_
     rintro e w2 ⟨rfl, a, rfl⟩
     have HMa := Lib.hid (HFM.out a)
     have HCa := Lib.hid (HFC.out a)
     have HEa := Lib.hid (HFE.out a)
     clear q0 q1 q2 q3 q4 q5 g4 hlt1 HM1 HC1 HE1
     obtain ⟨q0, q1, q2, q3, q4, q5⟩ := mrow_facts (HX.out a).row
     have g4 := (HX.out a).row.frozen 4
     have hlt1 := (HX.out a).lt
     simp only at q0 q1 q2 q3 q4 q5
     clear HFM HFC HFE HD HX
     generalize w1.drewN a = W at *
     go_wp2
     go_returns
     exact ⟨_, rfl, by rw [← HLr.out]; exact HEa.out, by rw [← HSr.out]; exact HMa.out, HCa.out⟩
    ·obtain ⟨d, hd⟩ : ∃ d : Nat, SS.depth ⟨most, st⟩ = (d : Int) + 1 := ⟨st.length - 1, by unfold SS.depth; have : st.length ≠ 0 := fun h => he (List.eq_nil_of_length_eq_zero h); simp only; omega⟩
     have hie : st.isEmpty = false := by simpa using he
     have hde : ((d : Int) + 1 == 0) = false := by simp; omega
     rw [hd] at HD
     clear hd he
     have HFM := Lib.hid (fun a => ((HM1.out.below (draws_below w1 a)).set_d false))
     have HFC := Lib.hid (fun a => chg_then (chg_then HC1.out (chg_below (draws_below w1 a))) (chg_setk (w1.drewN a) 4 (.bool false) base ks))
     have HFE := Lib.hid (fun a => (HE1.out.below (draws_below w1 a)).aside (chg_setk1 (w1.drewN a) k 4 (.bool false)) (fun i hi => by omega))
     have HX := Lib.hid (fun a => HM1.out.below (draws_below w1 a))
     go_wp2_with fail
     refine HD.out.mono ?_
     rintro e w2 ⟨rfl, a, rfl⟩
     have HMa := Lib.hid (HFM.out a)
     have HCa := Lib.hid (HFC.out a)
     have HEa := Lib.hid (HFE.out a)
     clear q0 q1 q2 q3 q4 q5 g4 hlt1 HM1 HC1 HE1
     obtain ⟨q0, q1, q2, q3, q4, q5⟩ := mrow_facts (HX.out a).row
     have g4 := (HX.out a).row.frozen 4
     have hlt1 := (HX.out a).lt
     simp only at q0 q1 q2 q3 q4 q5
     clear HFM HFC HFE HD HX
     generalize w1.drewN a = W at *
     go_wp2
     go_returns
     exact ⟨_, rfl, by rw [← HLr.out]; exact HEa.out, by rw [← HSr.out, hie]; exact HMa.out, HCa.out⟩
   ·have hne : (n == 0) = false := by simpa using hn
    have hnd : decide (n = 0) = false := by simpa using hn
    have HMa := Lib.hid (HM1.out.set_d false)
    have HCa := Lib.hid (chg_then HC1.out (chg_setk w1 4 (.bool false) base ks))
    have HEa := Lib.hid (HE1.out.aside (chg_setk1 w1 k 4 (.bool false)) (fun i hi => by omega))
    clear HM1 HC1 HE1 hn
    go_wp2
    go_returns
    exact ⟨_, rfl, by rw [← HLr.out]; exact HEa.out, by rw [← HSr.out, hnd]; exact HMa.out, HCa.out⟩
end Go.Proofs.Ytiiimhamfibdbaa
/- What the landed code's machine does with a whole head: an element begins. -/
namespace Go.Proofs.Ytiiimhamfibdbaa
open Go.RowKit Go.PlainAid
set_option linter.unusedVariables false
theorem pay_is (l : List Int) (n : Int) : pay l n = pays l n := by cases l <;> rfl
theorem enterE_is {s : SS} (h : s.ok) {n : Int} (hn : 0 ≤ n) : s.enterE n = headE s.most s.st true n := by
 obtain ⟨most, st⟩ := s
 unfold SS.enterE headE SS.last
 cases st with
 |nil =>
  simp only
  rw [if_neg (by omega), if_neg (by omega)]
  simp
 |cons y r =>
  have hy := h.bd y (List.mem_cons_self ..)
  simp only
  rw [if_neg (by omega)]
  by_cases c : y < n
  ·rw [if_pos ⟨hy.1, c⟩, if_pos c]
  ·rw [if_neg (by omega), if_neg c]
   simp
theorem enter_is {s : SS} (h : s.ok) {n : Int} (hn : 0 ≤ n) : s.enter n = if headE s.most s.st true n = 0 then ⟨s.most, n :: pays s.st n⟩ else s := by
 unfold SS.enter
 rw [enterE_is h hn, pay_is]
def bgL (x : CM) (c t : Int) (f : Bool) (n : Int) : List Ev :=
 if headE x.s.most x.s.st f n ≠ 0 then []
 else if f = true then [evEnter x.p c t f n]
 else if n = 0 then [evLeaf x.p c t f n, evEnd x.p]
 else [evLeaf x.p c t f n]
def bgX (x : CM) (f : Bool) (n : Int) : CM :=
 if headE x.s.most x.s.st f n ≠ 0 then x
 else if f = true then { x with s := ⟨x.s.most, n :: pays x.s.st n⟩ }
 else { x with n := n }
set_option maxHeartbeats 4000000 in
set_option maxRecDepth 100000 in
theorem begin_cons {w : World} {k ks base : Nat} {x : CM} (hM : MR w k ks x) (hk : k < base) (hs : ks < base) (hb : base ≤ w.heap.size) (c t n : Int) (hn : 0 ≤ n ∧ n ≤ 9223372036854775807) :
  Calls Try.prog 37 #[.pointer (some ⟨k, 0, none⟩), .agg #[.int .i64 c, .int .i64 t, .bool true, .int .i64 n]] w fun e w' => ∃ v, e = .returned (.tuple #[v, .int .i64 (headE x.s.most x.s.st true n)]) ∧ Evs w' base v (bgL x c t true n) ∧ MR w' k ks (bgX x true n) ∧ Chg (FB base k ks) w w' := by
 have hok := hM.st.2.1
 have HE := Lib.hid (enterE_is hok hn.1)
 have HN := Lib.hid (enter_is hok hn.1)
 have hB0 : Below w.heap.size w (w.alloc (.cells (hdC c t true n).toArray 32)) := (Below.refl _ _).alloc (Nat.le_refl _) _
 have HH := Lib.hid (Row.new w 32 (hdC c t true n))
 have HM := Lib.hid (hM.below hB0)
 have HC := Lib.hid (chg_below (base := base) (k := k) (ks := ks) hB0)
 have hW : w.heap.size + 1 = (w.alloc (.cells (hdC c t true n).toArray 32)).heap.size := by simp
 clear hM hok
 go_enter Try.func37, Try.ntmps37
 go_upto_region 1 with fail
 have hX : w.alloc (.cells #[.int .i64 c, .int .i64 t, .bool true, .int .i64 n] 32) = w.alloc (.cells (hdC c t true n).toArray 32) := rfl
 rw [hX]
 clear hX hB0
 generalize w.alloc (.cells (hdC c t true n).toArray 32) = W at *
 generalize hhe : w.heap.size = hh at *
 obtain ⟨k0, k1, k2, k3, f0, f1, f2, f3⟩ := head_facts HH.out
 obtain ⟨q0, q1, q2, q3, q4, q5⟩ := mrow_facts HM.out.row
 have hlt := HM.out.lt
 have HEn := Lib.hid (enter_code n (HM.out.st.draws 1) ⟨by omega, hn.2⟩)
 rw [HE.out] at HEn
 rw [HN.out] at HEn
 have HMd := Lib.hid (HM.out.below (draws_below W 1))
 have HHd := Lib.hid (Row.below HH.out (draws_below W 1) HH.out.lt)
 have HCd := Lib.hid (chg_then HC.out (chg_below (draws_below W 1)))
 have hWd : (W.drewN 1).heap.size = W.heap.size := rfl
 clear HE HN HM HC HH
 go_wp2
 go_still_tail 6, (by kernel_rfl)
 change wpList _ _ _ _ _ (W.drewN 1)
 clear k0 k1 k2 k3 f0 f1 f2 f3 q0 q1 q2 q3 q4 q5
 generalize W.drewN 1 = X at *
 go_wp2_with fail
 refine HEn.out.mono ?_
 rintro e w1 ⟨rfl, hs1, hc1⟩
 have HH1 := Lib.hid (Row.chg HHd.out hc1 (by omega))
 have HM1 := Lib.hid (HMd.out.stack hs1 hc1)
 have HC1 := Lib.hid (chg_then HCd.out (chg_stack hc1))
 have hz1 : hh ≤ w1.heap.size := by have := hc1.size; omega
 clear hs1 hc1 HEn HHd HMd HCd
 by_cases he : headE x.s.most x.s.st true n = 0
 ·rw [if_pos he] at HM1
  have HL : Hid (bgL x c t true n = [evEnter x.p c t true n]) := Lib.hid (by unfold bgL; rw [if_neg (fun h => h he), if_pos rfl])
  have HX : Hid (bgX x true n = { x with s := ⟨x.s.most, n :: pays x.s.st n⟩ }) := Lib.hid (by unfold bgX; rw [if_neg (fun h => h he), if_pos rfl])
  have hne : (headE x.s.most x.s.st true n != 0) = false := by simpa using he
  have HE0 := Lib.hid he
  clear he
  obtain ⟨k0, k1, k2, k3, f0, f1, f2, f3⟩ := head_facts HH1.out
  have HV := Lib.hid (eventOf_any 1 c t true n HM1.out)
  go_wp2_with fail
  refine HV.out.mono ?_
  rintro e w2 ⟨rfl, hb2⟩
  have HM2 := Lib.hid (HM1.out.below hb2)
  have HC2 := Lib.hid (chg_then HC1.out (chg_below hb2))
  have hz2 : hh ≤ w2.heap.size := Nat.le_trans hz1 hb2.size
  clear hb2 HM1 HC1 HV k0 k1 k2 k3 f0 f1 f2 f3 HH1
  go_wp2
  go_returns
  rw [HL.out, HX.out, HE0.out]
  exact ⟨_, rfl, (evs_one w2 (evEnter x.p c t true n)).mono (by omega), HM2.out.below ((Below.refl _ _).alloc (Nat.le_refl _) _), chg_then HC2.out (chg_alloc _ _ _ _)⟩
 ·rw [if_neg he] at HM1
  have HL : Hid (bgL x c t true n = []) := Lib.hid (by unfold bgL; rw [if_pos he])
  have HX : Hid (bgX x true n = x) := Lib.hid (by unfold bgX; rw [if_pos he])
  have hne : (headE x.s.most x.s.st true n != 0) = true := by simpa using he
  go_wp2
  go_returns
  rw [HL.out, HX.out]
  exact ⟨_, rfl, Evs.nil _ _, HM1.out, HC1.out⟩
theorem headE_leaf (most : Nat) (st : List Int) (n : Int) : headE most st false n = match st with | [] => 0 | y :: _ => if y < n then 5 else 0 := by
 unfold headE
 cases st with
 |nil => simp
 |cons y r => by_cases h : y < n <;> simp [h]
set_option maxHeartbeats 4000000 in
set_option maxRecDepth 100000 in
theorem begin_leaf {w : World} {k ks base : Nat} {x : CM} (hM : MR w k ks x) (hk : k < base) (hs : ks < base) (hb : base ≤ w.heap.size) (c t n : Int) (hn : 0 ≤ n ∧ n ≤ 9223372036854775807) :
  Calls Try.prog 37 #[.pointer (some ⟨k, 0, none⟩), .agg #[.int .i64 c, .int .i64 t, .bool false, .int .i64 n]] w fun e w' => ∃ v, e = .returned (.tuple #[v, .int .i64 (headE x.s.most x.s.st false n)]) ∧ Evs w' base v (bgL x c t false n) ∧ MR w' k ks (bgX x false n) ∧ Chg (FB base k ks) w w' := by
 have hB0 : Below w.heap.size w (w.alloc (.cells (hdC c t false n).toArray 32)) := (Below.refl _ _).alloc (Nat.le_refl _) _
 have HH := Lib.hid (Row.new w 32 (hdC c t false n))
 have HM := Lib.hid (hM.below hB0)
 have HC := Lib.hid (chg_below (base := base) (k := k) (ks := ks) hB0)
 have hW : w.heap.size + 1 = (w.alloc (.cells (hdC c t false n).toArray 32)).heap.size := by simp
 have hok := hM.st.2.1
 have HE := Lib.hid (headE_leaf x.s.most x.s.st n)
 clear hM
 go_enter Try.func37, Try.ntmps37
 go_upto_region 1 with fail
 have hX : w.alloc (.cells #[.int .i64 c, .int .i64 t, .bool false, .int .i64 n] 32) = w.alloc (.cells (hdC c t false n).toArray 32) := rfl
 rw [hX]
 clear hX hB0
 generalize w.alloc (.cells (hdC c t false n).toArray 32) = W at *
 generalize hhe : w.heap.size = hh at *
 obtain ⟨k0, k1, k2, k3, f0, f1, f2, f3⟩ := head_facts HH.out
 obtain ⟨q0, q1, q2, q3, q4, q5⟩ := mrow_facts HM.out.row
 have hlt := HM.out.lt
 have HD : Hid (∀ a, Calls Try.prog 34 #[.pointer (some ⟨ks, 0, none⟩)] (W.drewN a) fun e w' => e = .returned (.int .i64 x.s.depth) ∧ ∃ m, w' = (W.drewN a).drewN m) := Lib.hid (fun a => stSpec.depth (HM.out.st.draws a))
 have HF : Hid (∀ a, Calls Try.prog 41 #[.pointer (some ⟨ks, 0, none⟩)] (W.drewN a) fun e w' => e = .returned (.int .i64 x.s.last) ∧ ∃ m, w' = (W.drewN a).drewN m) := Lib.hid (fun a => stSpec.left (HM.out.st.draws a))
 have HMq := Lib.hid (fun a => HM.out.below (draws_below W a))
 have HHq := Lib.hid (fun a => Row.below HH.out (draws_below W a) HH.out.lt)
 have HCq := Lib.hid (fun a => chg_then HC.out (chg_below (draws_below W a)))
 by_cases hz0 : headE x.s.most x.s.st false n = 0
 ·have HL : Hid (bgL x c t false n = if 0 < n then [evLeaf x.p c t false n] else [evLeaf x.p c t false n] ++ [evEnd x.p]) := Lib.hid (by
   unfold bgL
   rw [if_neg (fun h => h hz0), if_neg (by simp)]
   by_cases h0 : n = 0
   ·rw [if_pos h0, if_neg (by omega)]; rfl
   ·rw [if_neg h0, if_pos (by omega)])
  have HX : Hid (bgX x false n = { x with n := n }) := Lib.hid (by unfold bgX; rw [if_neg (fun h => h hz0), if_neg (by simp)])
  have HZ := Lib.hid hz0
  rw [HE.out] at hz0
  cases hst : x.s.st with
  |nil =>
   rw [show x.s.depth = 0 by unfold SS.depth; rw [hst]; rfl] at HD
   clear HE hst HF hz0
   go_wp2
   go_quiet (first | exact Calls.quiet_of (HD.out _) | fail)
   obtain ⟨k0, k1, k2, k3, f0, f1, f2, f3⟩ := head_facts (HHq.out nq)
   obtain ⟨q0, q1, q2, q3, q4, q5⟩ := mrow_facts (HMq.out nq).row
   have g2 := (HMq.out nq).row.frozen 2
   have hlt := (HMq.out nq).lt
   have HM1 := Lib.hid ((HMq.out nq).set_n n)
   have HC1 := Lib.hid (chg_then (HCq.out nq) (chg_setk (W.drewN nq) 2 (.int .i64 n) base ks))
   have HH1 := Lib.hid (Row.chg (HHq.out nq) (chg_setk1 (W.drewN nq) k 2 (.int .i64 n)) (by omega))
   have hz : (W.drewN nq).heap.size = hh + 1 := by rw [hW]; rfl
   clear HMq HCq HHq HM HC HH
   generalize W.drewN nq = X at *
   have hzX : hh ≤ (X.setCell ⟨k, 2, none⟩ (.int .i64 n)).heap.size := by simp; omega
   go_upto_region 9 with fail
   clear k0 k1 k2 k3 f0 f1 f2 f3 q0 q1 q2 q3 q4 q5 g2 hlt
   generalize X.setCell ⟨k, 2, none⟩ (.int .i64 n) = Y at *
   obtain ⟨k0, k1, k2, k3, f0, f1, f2, f3⟩ := head_facts HH1.out
   have HV := Lib.hid (eventOf_any 2 c t false n HM1.out)
   go_wp2_with fail
   refine HV.out.mono ?_
   rintro e w2 ⟨rfl, hb2⟩
   have HM2 := Lib.hid ((HM1.out.below hb2).below ((Below.refl _ _).alloc (Nat.le_refl _) (evO (evLeaf x.p c t false n))))
   have HC2 := Lib.hid (chg_then (chg_then HC1.out (chg_below hb2)) (chg_alloc (evO (evLeaf x.p c t false n)) base k ks))
   have hz2 : hh ≤ w2.heap.size := Nat.le_trans hzX hb2.size
   have HE2 := Lib.hid ((evs_one w2 (evLeaf x.p c t false n)).mono (base' := base) (by omega))
   have hX2 : w2.alloc (.cells #[.int .i64 2, .int .i64 (x.p : Int), .int .i64 c, .int .i64 t, .bool false, .int .i64 n, .int .u8 0] 34) = w2.alloc (evO (evLeaf x.p c t false n)) := rfl
   have hz3 : base ≤ (w2.alloc (evO (evLeaf x.p c t false n))).heap.size := by simp; omega
   have hz4 : (w2.alloc (evO (evLeaf x.p c t false n))).heap.size = w2.heap.size + 1 := by simp
   clear hb2 HM1 HC1 HV k0 k1 k2 k3 f0 f1 f2 f3 HH1
   go_wp2_with fail
   clear hX2
   generalize w2.alloc (evO (evLeaf x.p c t false n)) = Z at *
   refine (endLeaf_any HM2.out hk HE2.out hz3 (by simp)).mono ?_
   rintro e w3 ⟨v3, rfl, he3, hb3⟩
   have he3 : Evs w3 base v3 (bgL x c t false n) := by rw [HL.out]; exact he3
   obtain ⟨o3, c3, rfl⟩ := he3.isSl
   have HE3 := Lib.hid he3
   have HM3 := Lib.hid (HM2.out.above hb3 hk hs)
   have HC3 := Lib.hid (chg_then HC2.out (chg_base hb3 hz3))
   clear he3 hb3 HM2 HE2 HC2
   go_wp2
   go_returns
   rw [HZ.out, HX.out]
   exact ⟨_, rfl, HE3.out, HM3.out, HC3.out⟩
  |cons y r =>
   obtain ⟨d, hd⟩ : ∃ d : Nat, x.s.depth = (d : Int) + 1 := ⟨r.length, by unfold SS.depth; rw [hst]; simp⟩
   have hl : x.s.last = y := by unfold SS.last; rw [hst]
   have hgd : decide (0 < (d : Int) + 1) = true := decide_eq_true (by omega)
   rw [hd] at HD
   rw [hl] at HF
   rw [hst] at hz0
   simp only at hz0
   have hy : ¬ y < n := fun h => by rw [if_pos h] at hz0; cases hz0
   clear hd hl hz0 HE hst
   go_wp2
   go_quiet (first | exact Calls.quiet_of (HD.out _) | exact Calls.quiet_of (HF.out _) | fail)
   obtain ⟨k0, k1, k2, k3, f0, f1, f2, f3⟩ := head_facts (HHq.out nq)
   obtain ⟨q0, q1, q2, q3, q4, q5⟩ := mrow_facts (HMq.out nq).row
   have g2 := (HMq.out nq).row.frozen 2
   have hlt := (HMq.out nq).lt
   have HM1 := Lib.hid ((HMq.out nq).set_n n)
   have HC1 := Lib.hid (chg_then (HCq.out nq) (chg_setk (W.drewN nq) 2 (.int .i64 n) base ks))
   have HH1 := Lib.hid (Row.chg (HHq.out nq) (chg_setk1 (W.drewN nq) k 2 (.int .i64 n)) (by omega))
   have hz : (W.drewN nq).heap.size = hh + 1 := by rw [hW]; rfl
   clear HMq HCq HHq HM HC HH
   generalize W.drewN nq = X at *
   have hzX : hh ≤ (X.setCell ⟨k, 2, none⟩ (.int .i64 n)).heap.size := by simp; omega
   go_upto_region 9 with fail
   clear k0 k1 k2 k3 f0 f1 f2 f3 q0 q1 q2 q3 q4 q5 g2 hlt
   generalize X.setCell ⟨k, 2, none⟩ (.int .i64 n) = Y at *
   obtain ⟨k0, k1, k2, k3, f0, f1, f2, f3⟩ := head_facts HH1.out
   have HV := Lib.hid (eventOf_any 2 c t false n HM1.out)
   go_wp2_with fail
   refine HV.out.mono ?_
   rintro e w2 ⟨rfl, hb2⟩
   have HM2 := Lib.hid ((HM1.out.below hb2).below ((Below.refl _ _).alloc (Nat.le_refl _) (evO (evLeaf x.p c t false n))))
   have HC2 := Lib.hid (chg_then (chg_then HC1.out (chg_below hb2)) (chg_alloc (evO (evLeaf x.p c t false n)) base k ks))
   have hz2 : hh ≤ w2.heap.size := Nat.le_trans hzX hb2.size
   have HE2 := Lib.hid ((evs_one w2 (evLeaf x.p c t false n)).mono (base' := base) (by omega))
   have hX2 : w2.alloc (.cells #[.int .i64 2, .int .i64 (x.p : Int), .int .i64 c, .int .i64 t, .bool false, .int .i64 n, .int .u8 0] 34) = w2.alloc (evO (evLeaf x.p c t false n)) := rfl
   have hz3 : base ≤ (w2.alloc (evO (evLeaf x.p c t false n))).heap.size := by simp; omega
   have hz4 : (w2.alloc (evO (evLeaf x.p c t false n))).heap.size = w2.heap.size + 1 := by simp
   clear hb2 HM1 HC1 HV k0 k1 k2 k3 f0 f1 f2 f3 HH1
   go_wp2_with fail
   clear hX2
   generalize w2.alloc (evO (evLeaf x.p c t false n)) = Z at *
   refine (endLeaf_any HM2.out hk HE2.out hz3 (by simp)).mono ?_
   rintro e w3 ⟨v3, rfl, he3, hb3⟩
   have he3 : Evs w3 base v3 (bgL x c t false n) := by rw [HL.out]; exact he3
   obtain ⟨o3, c3, rfl⟩ := he3.isSl
   have HE3 := Lib.hid he3
   have HM3 := Lib.hid (HM2.out.above hb3 hk hs)
   have HC3 := Lib.hid (chg_then HC2.out (chg_base hb3 hz3))
   clear he3 hb3 HM2 HE2 HC2
   go_wp2
   go_returns
   rw [HZ.out, HX.out]
   exact ⟨_, rfl, HE3.out, HM3.out, HC3.out⟩
 ·have HL : Hid (bgL x c t false n = []) := Lib.hid (by unfold bgL; rw [if_pos hz0])
  have HX : Hid (bgX x false n = x) := Lib.hid (by unfold bgX; rw [if_pos hz0])
  rw [HE.out] at hz0
  cases hst : x.s.st with
  |nil => rw [hst] at hz0; exact absurd rfl hz0
  |cons y r =>
   obtain ⟨d, hd⟩ : ∃ d : Nat, x.s.depth = (d : Int) + 1 := ⟨r.length, by unfold SS.depth; rw [hst]; simp⟩
   have hl : x.s.last = y := by unfold SS.last; rw [hst]
   have hgd : decide (0 < (d : Int) + 1) = true := decide_eq_true (by omega)
   rw [hd] at HD
   rw [hl] at HF
   rw [hst] at hz0
   simp only at hz0
   have hy : y < n := by
    by_cases h : y < n
    ·exact h
    ·rw [if_neg h] at hz0; exact absurd rfl hz0
   have HZ : Hid (headE x.s.most x.s.st false n = 5) := Lib.hid (by rw [HE.out, hst]; exact if_pos hy)
   clear hd hl hz0 HE hst
   go_wp2
   go_quiet (first | exact Calls.quiet_of (HD.out _) | exact Calls.quiet_of (HF.out _) | fail)
   have HM1 := Lib.hid (HMq.out nq)
   have HC1 := Lib.hid (HCq.out nq)
   go_wp2
   go_returns
   rw [HZ.out, HX.out]
   exact ⟨_, rfl, by rw [HL.out]; exact Evs.nil _ _, HM1.out, HC1.out⟩
theorem begin_any {w : World} {k ks base : Nat} {x : CM} (hM : MR w k ks x) (hk : k < base) (hs : ks < base) (hb : base ≤ w.heap.size) (c t : Int) (f : Bool) (n : Int) (hn : 0 ≤ n ∧ n ≤ 9223372036854775807) :
  Calls Try.prog 37 #[.pointer (some ⟨k, 0, none⟩), .agg #[.int .i64 c, .int .i64 t, .bool f, .int .i64 n]] w fun e w' => ∃ v, e = .returned (.tuple #[v, .int .i64 (headE x.s.most x.s.st f n)]) ∧ Evs w' base v (bgL x c t f n) ∧ MR w' k ks (bgX x f n) ∧ Chg (FB base k ks) w w' := by
 cases f
 ·exact begin_leaf hM hk hs hb c t n hn
 ·exact begin_cons hM hk hs hb c t n hn
end Go.Proofs.Ytiiimhamfibdbaa
/- What the landed code's machine does with a byte. -/
namespace Go.Proofs.Ytiiimhamfibdbaa
open Go.RowKit Go.PlainAid
set_option linter.unusedVariables false
section
variable (x : CM) (y : ByteArray) (c t : Int) (f : Bool) (n e : Int)
def thE : Int := if e = 2 then 0 else if e ≠ 0 then e else headE x.s.most x.s.st f n
def thL : List Ev := if e = 2 then [] else if e ≠ 0 then [] else if headE x.s.most x.s.st f n ≠ 0 then [] else bgL x c t f n ++ popE (bgX x f n).s.st x.p
def thX : CM := if e = 2 then { x with c := y } else if e ≠ 0 then x else if headE x.s.most x.s.st f n ≠ 0 then x else
 ⟨⟨x.s.most, popS (bgX x f n).s.st⟩, ⟨#[]⟩, (bgX x f n).n, x.p, decide ((bgX x f n).n = 0) && (popS (bgX x f n).s.st).isEmpty, x.er⟩
end
set_option maxRecDepth 100000 in
set_option maxHeartbeats 4000000 in
theorem takeHead_any {w : World} {k ks base : Nat} {x : CM} (b : Int) (hM : MR w k ks x) (hk : k < base) (hs : ks < base) (hb : base ≤ w.heap.size) (h0 : 0 ≤ b) (h1 : b ≤ 255) {l : List Int} (hl : IsB l) (hn : l.length ≤ 13) (hc : x.c = strOfNums l)
  {c t : Int} {f : Bool} {n : Int} {m : Nat} {er : Int} (hg : hdGet (l ++ [b]) = (c, t, f, n, m, er)) {y : ByteArray} (hy : strOfNums (l ++ [b]) = y) :
  Calls Try.prog 24 #[.pointer (some ⟨k, 0, none⟩), .int .u8 b] w fun e w' => ∃ v, e = .returned (.tuple #[v, .int .i64 (thE x f n er)]) ∧ Evs w' base v (thL x c t f n er) ∧ MR w' k ks (thX x y f n er) ∧ Chg (FB base k ks) w w' := by
 have hL : IsB (l ++ [b]) := hl.append (IsB.cons h0 h1 IsB.nil)
 have hbd := hdGet_bd (l ++ [b]) hL
 rw [hg] at hbd
 obtain ⟨_, _, _, _, hn0, hn1⟩ := hbd
 simp only at hn0 hn1
 have HG := Lib.hid (fun w => headGet_at (strOfNums (l ++ [b])) 0 (by rw [strOfNums_size]; simp; unfold maxLen; omega) (by decide) (came_get hl h0 h1 hg) w)
 have hcv := conv_at b
 have hsz1 : (strOfNums l).size ≤ 13 := by rw [strOfNums_size]; exact hn
 have hsz2 : (strOfNums [b]).size = 1 := by rw [strOfNums_size]; rfl
 have HJ := Lib.hid (str_join l b)
 rw [hy] at HG HJ
 clear hy
 obtain ⟨q0, q1, q2, q3, q4, q5⟩ := mrow_facts hM.row
 rw [hc] at q1
 have HM := Lib.hid hM
 have hlt := hM.lt
 clear hM hL hg
 go_enter Try.func24, Try.ntmps24
 go_wp2
 go_region
 rw [HJ.out]
 have HBA : Hid (Below w.heap.size w (w.alloc (.cells #[.int .u8 b] 5)).drew) := Lib.hid ((Below.refl _ _).alloc (Nat.le_refl _) _).drew
 generalize (w.alloc (.cells #[.int .u8 b] 5)).drew = A at *
 have HMA := Lib.hid (HM.out.below HBA.out)
 have HCA := Lib.hid (chg_below (base := base) (k := k) (ks := ks) HBA.out)
 have hzA : base ≤ A.heap.size := Nat.le_trans hb HBA.out.size
 clear q0 q1 q2 q3 q4 q5 hcv HM HBA hlt
 go_wp2_with fail
 refine (HG.out _).mono ?_
 rintro e w1 ⟨rfl, hb1⟩
 have HM1 := Lib.hid (HMA.out.below hb1)
 have HC1 := Lib.hid (chg_then HCA.out (chg_below hb1))
 have hz1 : base ≤ w1.heap.size := Nat.le_trans hzA hb1.size
 clear hb1 HMA HCA HG
 have HH2 := Lib.hid (Row.new w1 32 (hdC c t f n))
 have hB2 : Below w1.heap.size w1 (w1.alloc (.cells (hdC c t f n).toArray 32)) := (Below.refl _ _).alloc (Nat.le_refl _) _
 have HM2 := Lib.hid (HM1.out.below hB2)
 have HC2 := Lib.hid (chg_then HC1.out (chg_below hB2))
 have hz2 : base ≤ (w1.alloc (.cells (hdC c t f n).toArray 32)).heap.size := Nat.le_trans hz1 hB2.size
 have hX : w1.alloc (.cells #[.int .i64 c, .int .i64 t, .bool f, .int .i64 n] 32) = w1.alloc (.cells (hdC c t f n).toArray 32) := rfl
 clear hB2 HM1 HC1
 go_upto_region 3 with fail
 clear hX
 generalize w1.alloc (.cells (hdC c t f n).toArray 32) = W at *
 generalize w1.heap.size = hh at *
 obtain ⟨k0, k1, k2, k3, f0, f1, f2, f3⟩ := head_facts HH2.out
 obtain ⟨q0, q1, q2, q3, q4, q5⟩ := mrow_facts HM2.out.row
 have g1 := HM2.out.row.frozen 1
 have hlt := HM2.out.lt
 by_cases e2 : er = 2
 ·subst e2
  have HE : Hid (thE x f n 2 = 0) := Lib.hid (if_pos rfl)
  have HL : Hid (thL x c t f n 2 = []) := Lib.hid (if_pos rfl)
  have HX : Hid (thX x y f n 2 = { x with c := y }) := Lib.hid (if_pos rfl)
  have HM3 := Lib.hid (HM2.out.set_c y)
  have HC3 := Lib.hid (chg_then HC2.out (chg_setk W 1 (.string y) base ks))
  clear HM2 HC2 HH2 HJ
  go_wp2
  go_returns
  rw [HE.out, HX.out, HL.out]
  exact ⟨_, rfl, Evs.nil _ _, HM3.out, HC3.out⟩
 ·have e2b : (er == 2) = false := by simpa using e2
  by_cases e0 : er = 0
  ·subst e0
   have HB := Lib.hid (begin_any HM2.out hk hs hz2 c t f n ⟨hn0, by omega⟩)
   by_cases hz : headE x.s.most x.s.st f n = 0
   ·have HE : Hid (thE x f n 0 = 0) := Lib.hid hz
    have HL : Hid (thL x c t f n 0 = bgL x c t f n ++ popE (bgX x f n).s.st x.p) := Lib.hid (by unfold thL; rw [if_neg (by decide), if_neg (by simp), if_neg (fun h => h hz)])
    have HX : Hid (thX x y f n 0 = ⟨⟨x.s.most, popS (bgX x f n).s.st⟩, ⟨#[]⟩, (bgX x f n).n, x.p, decide ((bgX x f n).n = 0) && (popS (bgX x f n).s.st).isEmpty, x.er⟩) := Lib.hid (by unfold thX; rw [if_neg (by decide), if_neg (by simp), if_neg (fun h => h hz)])
    have HBX : Hid ((bgX x f n).s.most = x.s.most ∧ (bgX x f n).p = x.p ∧ (bgX x f n).er = x.er) := Lib.hid (by unfold bgX; split; exact ⟨rfl, rfl, rfl⟩; split <;> exact ⟨rfl, rfl, rfl⟩)
    have HBL : Hid ((bgL x c t f n).length ≤ 1000) := Lib.hid (by unfold bgL; split; simp; split; simp; split <;> simp)
    have hzb : (headE x.s.most x.s.st f n != 0) = false := by simpa using hz
    clear hz
    go_wp2_with fail
    refine HB.out.mono ?_
    rintro e w3 ⟨v3, rfl, he3, hm3, hc3⟩
    have HE3 := Lib.hid he3
    have HM3 := Lib.hid hm3
    have HC3 := Lib.hid (chg_then HC2.out hc3)
    have hz3 : base ≤ w3.heap.size := Nat.le_trans hz2 hc3.size
    obtain ⟨o3, c3, rfl⟩ := he3.isSl
    clear he3 hm3 hc3 HB HM2 HC2 HH2 k0 k1 k2 k3 f0 f1 f2 f3 q0 q1 q2 q3 q4 q5 g1 hlt
    obtain ⟨q0, q1, q2, q3, q4, q5⟩ := mrow_facts HM3.out.row
    have g1 := HM3.out.row.frozen 1
    have hlt := HM3.out.lt
    have HM4 := Lib.hid (HM3.out.set_c ⟨#[]⟩)
    have HC4 := Lib.hid (chg_then HC3.out (chg_setk w3 1 (.string ⟨#[]⟩) base ks))
    have HE4 := Lib.hid (HE3.out.aside (chg_setk1 w3 k 1 (.string ⟨#[]⟩)) (fun i hi => by omega))
    have hz4 : base ≤ (w3.setCell ⟨k, 1, none⟩ (.string ⟨#[]⟩)).heap.size := by simp; exact hz3
    go_wp2_with fail
    clear q0 q1 q2 q3 q4 q5 g1 hlt HM3 HC3 HE3
    generalize w3.setCell ⟨k, 1, none⟩ (.string ⟨#[]⟩) = Y at *
    refine (leave_any HM4.out hk hs HE4.out hz4 HBL.out).mono ?_
    rintro e w5 ⟨v5, rfl, he5, hm5, hc5⟩
    have he5 : Evs w5 base v5 (thL x c t f n 0) := by rw [HL.out, ← HBX.out.2.1]; exact he5
    obtain ⟨o5, c5, rfl⟩ := he5.isSl
    have HE5 := Lib.hid he5
    have HM5 := Lib.hid hm5
    have HC5 := Lib.hid (chg_then HC4.out hc5)
    clear he5 hm5 hc5 HM4 HC4 HE4
    go_wp2
    go_returns
    rw [HE.out]
    exact ⟨_, rfl, HE5.out, by rw [HX.out, ← HBX.out.1, ← HBX.out.2.1, ← HBX.out.2.2]; exact HM5.out, HC5.out⟩
   ·have HE : Hid (thE x f n 0 = headE x.s.most x.s.st f n) := Lib.hid rfl
    have HL : Hid (thL x c t f n 0 = []) := Lib.hid (if_pos hz)
    have HX : Hid (thX x y f n 0 = x) := Lib.hid (if_pos hz)
    have HBX : Hid (bgX x f n = x) := Lib.hid (by unfold bgX; rw [if_pos hz])
    have hzb : (headE x.s.most x.s.st f n != 0) = true := by simpa using hz
    clear hz
    go_wp2_with fail
    refine HB.out.mono ?_
    rintro e w3 ⟨v3, rfl, he3, hm3, hc3⟩
    rw [HBX.out] at hm3
    have HM3 := Lib.hid hm3
    have HC3 := Lib.hid (chg_then HC2.out hc3)
    obtain ⟨o3, c3, rfl⟩ := he3.isSl
    clear he3 hm3 hc3 HB HM2 HC2 HH2 k0 k1 k2 k3 f0 f1 f2 f3 q0 q1 q2 q3 q4 q5 g1 hlt
    go_wp2
    go_returns
    rw [HE.out, HX.out, HL.out]
    exact ⟨_, rfl, Evs.nil _ _, HM3.out, HC3.out⟩
  ·have e0b : (er != 0) = true := by simpa using e0
   have HE : Hid (thE x f n er = er) := Lib.hid (by unfold thE; rw [if_neg e2, if_pos e0])
   have HL : Hid (thL x c t f n er = []) := Lib.hid (by unfold thL; rw [if_neg e2, if_pos e0])
   have HX : Hid (thX x y f n er = x) := Lib.hid (by unfold thX; rw [if_neg e2, if_pos e0])
   clear HH2 HJ
   go_wp2
   go_returns
   rw [HE.out, HX.out, HL.out]
   exact ⟨_, rfl, Evs.nil _ _, HM2.out, HC2.out⟩
end Go.Proofs.Ytiiimhamfibdbaa
/- What a machine of the landed code holds, and the machine in plain words: they go on alike. Of numbers alone. -/
namespace Go.Proofs.Ytiiimhamfibdbaa
open Go.PlainAid
set_option linter.unusedVariables false
structure Rel (d : Nat) (x : CM) (m : EM) : Prop where
 most : x.s.most = d
 at_ : x.p = m.at_
 done : x.dn = m.done
 over : x.er = m.over
 st : m.over = 0 → m.st = pays x.s.st m.leaf
 leaf : m.over = 0 → x.n = m.leaf ∧ 0 ≤ m.leaf ∧ m.leaf ≤ 2305843009213693951
 pos : m.over = 0 → ∀ y ∈ m.st, 0 ≤ y
 hd : m.over = 0 → IsB m.hd ∧ m.hd.length ≤ 13 ∧ x.c = strOfNums m.hd
 no : m.over = 0 → 0 < m.leaf → m.hd = []
def CM.next (x : CM) (er : Int) : CM := if er = 0 then { x with p := x.p + 1 } else { x with er := er }
theorem rel_err {d : Nat} {m : EM} {x' : CM} (h1 : x'.s.most = d) (h2 : x'.p = m.at_) (h3 : x'.dn = m.done) {er : Int} (he : er ≠ 0) : Rel d (x'.next er) { m with over := er } := by
 unfold CM.next
 rw [if_neg he]
 exact ⟨h1, h2, h3, rfl, fun h => absurd h he, fun h => absurd h he, fun h => absurd h he, fun h => absurd h he, fun h => absurd h he⟩
theorem popS_mem {y : Int} : ∀ (l : List Int), y ∈ popS l → y ∈ l := by
 intro l
 induction l with
 |nil => intro h; exact h
 |cons x r ih =>
  intro h
  rw [popS] at h
  by_cases hx : x = 0
  ·rw [if_pos hx] at h; exact List.mem_cons_of_mem _ (ih h)
  ·rw [if_neg hx] at h; exact h
theorem pop_stay {l : List Int} (p : Nat) (h : ∀ y r, l = y :: r → y ≠ 0) : popE l p = [] ∧ popS l = l := by
 cases l with
 |nil => exact ⟨rfl, rfl⟩
 |cons y r => exact ⟨popE_stay r p (h y r rfl), popS_stay r (h y r rfl)⟩
theorem pays_mem {l : List Int} {n y : Int} (h : ∀ z ∈ l, 0 ≤ z) (hh : ∀ z r, l = z :: r → n ≤ z) (hy : y ∈ pays l n) : 0 ≤ y := by
 cases l with
 |nil => cases hy
 |cons z r =>
  have hz := hh z r rfl
  rcases List.mem_cons.1 hy with rfl | h2
  ·omega
  ·exact h y (List.mem_cons_of_mem _ h2)
theorem headE_ok {most : Nat} {st : List Int} {f : Bool} {n : Int} (h : headE most st f n = 0) : ∀ z r, st = z :: r → n ≤ z := by
 intro z r hs
 subst hs
 unfold headE at h
 by_cases hz : z < n
 ·simp only at h; rw [if_pos hz] at h; cases h
 ·omega
theorem rel_head {d : Nat} {m : EM} {b : Int} {x : CM} (ho : m.over = 0) (hd0 : m.done = false) (hl : m.leaf = 0) (hz : m.st.head? ≠ some 0)
  (h1 : x.s.most = d) (h2 : x.s.st = pays m.st 1) (h3 : x.n = 0) (h4 : x.p = m.at_) (h5 : x.dn = false) (h6 : x.er = 0) (hpos : ∀ y ∈ m.st, 0 ≤ y)
  (hb : IsB (m.hd ++ [b])) {c t : Int} {f : Bool} {n : Int} {g : Nat} {er : Int} (hg : hdGet (m.hd ++ [b]) = (c, t, f, n, g, er)) :
  thE x f n er = (m.step d b).1 ∧ thL x c t f n er = (m.step d b).2.1 ∧ Rel d ((thX x (strOfNums (m.hd ++ [b])) f n er).next (m.step d b).1) (m.step d b).2.2 := by
 have hbd := hdGet_bd (m.hd ++ [b]) hb
 rw [hg] at hbd
 obtain ⟨_, _, _, _, hn0, hn1⟩ := hbd
 simp only at hn0 hn1
 have hp1 : ∀ y ∈ pays m.st 1, 0 ≤ y := by
  intro y hy
  refine pays_mem hpos (fun z r hs => ?_) hy
  have := hpos z (by rw [hs]; exact List.mem_cons_self ..)
  have : z ≠ 0 := fun e => hz (by rw [hs, e]; rfl)
  omega
 have hstep : m.step d b = if er = 2 then (0, [], { m with st := pays m.st 1, hd := m.hd ++ [b], at_ := m.at_ + 1 })
   else if er ≠ 0 then (er, [], { m with over := er })
   else if headE d (pays m.st 1) f n ≠ 0 then (headE d (pays m.st 1) f n, [], { m with over := headE d (pays m.st 1) f n })
   else (0, headL (pays m.st 1) m.at_ c t f n, headM (pays m.st 1) m.at_ f n) := by
  unfold EM.step
  rw [if_neg (by simpa using ho), if_neg (by simp [hd0]), if_neg (by omega), if_neg hz, hg]
 rw [hstep]
 have hdd : x.dn = m.done := h5.trans hd0.symm
 by_cases e2 : er = 2
 ·subst e2
  have hsh := hdGet_short _ hb (by rw [hg])
  refine ⟨rfl, rfl, ?_⟩
  show Rel d (({ x with c := strOfNums (m.hd ++ [b]) } : CM).next 0) { m with st := pays m.st 1, hd := m.hd ++ [b], at_ := m.at_ + 1 }
  refine ⟨h1, by show x.p + 1 = _; rw [h4], hdd, h6.trans ho.symm, fun _ => ?_, fun _ => ⟨h3.trans hl.symm, by show 0 ≤ m.leaf; omega, by show m.leaf ≤ _; omega⟩, fun _ => hp1, fun _ => ⟨hb, hsh, rfl⟩, fun _ h => ?_⟩
  ·show pays m.st 1 = pays x.s.st m.leaf
   rw [hl, pays_zero, h2]
  ·have : (0 : Int) < m.leaf := h
   omega
 ·by_cases e0 : er = 0
  ·subst e0
   rw [if_neg (by decide), if_neg (by simp)]
   have hH : headE x.s.most x.s.st f n = headE d (pays m.st 1) f n := by rw [h1, h2]
   by_cases hz1 : headE d (pays m.st 1) f n = 0
   ·rw [if_neg (fun h => h hz1)]
    have hz2 := hH.trans hz1
    have hge := headE_ok hz1
    have hT : thE x f n 0 = 0 := hz2
    have hL : thL x c t f n 0 = bgL x c t f n ++ popE (bgX x f n).s.st x.p := by unfold thL; rw [if_neg (by decide), if_neg (by simp), if_neg (fun h => h hz2)]
    have hX : thX x (strOfNums (m.hd ++ [b])) f n 0 = ⟨⟨x.s.most, popS (bgX x f n).s.st⟩, ⟨#[]⟩, (bgX x f n).n, x.p, decide ((bgX x f n).n = 0) && (popS (bgX x f n).s.st).isEmpty, x.er⟩ := by unfold thX; rw [if_neg (by decide), if_neg (by simp), if_neg (fun h => h hz2)]
    rw [hT, hL, hX]
    refine ⟨rfl, ?_, ?_⟩
    ·show _ = headL (pays m.st 1) m.at_ c t f n
     cases f with
     |true =>
      have hB : bgL x c t true n = [evEnter x.p c t true n] := by unfold bgL; rw [if_neg (fun h => h hz2), if_pos rfl]
      have hY : (bgX x true n).s.st = n :: pays x.s.st n := by unfold bgX; rw [if_neg (fun h => h hz2), if_pos rfl]
      rw [hB, hY, headL_open, h2, h4]; rfl
     |false =>
      have hY : (bgX x false n).s.st = x.s.st := by unfold bgX; rw [if_neg (fun h => h hz2), if_neg (by simp)]
      by_cases hn : n = 0
      ·have hB : bgL x c t false n = [evLeaf x.p c t false n, evEnd x.p] := by unfold bgL; rw [if_neg (fun h => h hz2), if_neg (by simp), if_pos hn]
       rw [hB, hY, hn, headL_none, h2, h4]; rfl
      ·have hB : bgL x c t false n = [evLeaf x.p c t false n] := by unfold bgL; rw [if_neg (fun h => h hz2), if_neg (by simp), if_neg hn]
       rw [hB, hY, headL_leaf hn, h2, h4, (pop_stay m.at_ (fun y r h => by have := hge y r h; omega)).1]; rfl
    ·show Rel d (CM.next _ 0) (headM (pays m.st 1) m.at_ f n)
     unfold CM.next
     rw [if_pos rfl]
     cases f with
     |true =>
      have hY : (bgX x true n).s.st = n :: pays x.s.st n := by unfold bgX; rw [if_neg (fun h => h hz2), if_pos rfl]
      have hN : (bgX x true n).n = 0 := by unfold bgX; rw [if_neg (fun h => h hz2), if_pos rfl]; exact h3
      rw [headM_open, hY, hN, h2]
      refine ⟨h1, by show x.p + 1 = _; rw [h4]; rfl, by simp [EM.fin], by show x.er = 0; exact h6, fun _ => (pays_zero _).symm, fun _ => ⟨rfl, Int.le_refl _, by show (0 : Int) ≤ 2305843009213693951; decide⟩, fun _ y hy => ?_, fun _ => ⟨IsB.nil, Nat.zero_le _, rfl⟩, fun _ h => absurd h (by show ¬ (0 : Int) < 0; decide)⟩
      have hy := popS_mem _ hy
      rcases List.mem_cons.1 hy with rfl | hy
      ·exact hn0
      ·exact pays_mem hp1 hge hy
     |false =>
      have hY : (bgX x false n).s.st = x.s.st := by unfold bgX; rw [if_neg (fun h => h hz2), if_neg (by simp)]
      have hN : (bgX x false n).n = n := by unfold bgX; rw [if_neg (fun h => h hz2), if_neg (by simp)]
      rw [hY, hN, h2]
      by_cases hn : n = 0
      ·rw [hn, headM_none]
       exact ⟨h1, by show x.p + 1 = _; rw [h4]; rfl, by simp [EM.fin], h6, fun _ => (pays_zero _).symm, fun _ => ⟨rfl, Int.le_refl _, by show (0 : Int) ≤ 2305843009213693951; decide⟩, fun _ y hy => hp1 y (popS_mem _ hy), fun _ => ⟨IsB.nil, Nat.zero_le _, rfl⟩, fun _ h => absurd h (by show ¬ (0 : Int) < 0; decide)⟩
      ·rw [headM_leaf hn, (pop_stay m.at_ (fun y r h => by have := hge y r h; omega)).2]
       exact ⟨h1, by show x.p + 1 = _; rw [h4], by simp [hn], h6, fun _ => rfl, fun _ => ⟨rfl, hn0, hn1⟩, fun _ y hy => pays_mem hp1 hge hy, fun _ => ⟨IsB.nil, Nat.zero_le _, rfl⟩, fun _ _ => rfl⟩
   ·rw [if_pos hz1]
    have hz2 : headE x.s.most x.s.st f n ≠ 0 := by rw [hH]; exact hz1
    have hT : thE x f n 0 = headE d (pays m.st 1) f n := hH
    have hL : thL x c t f n 0 = [] := by unfold thL; rw [if_neg (by decide), if_neg (by simp), if_pos hz2]
    have hX : thX x (strOfNums (m.hd ++ [b])) f n 0 = x := by unfold thX; rw [if_neg (by decide), if_neg (by simp), if_pos hz2]
    rw [hT, hL, hX]
    exact ⟨rfl, rfl, rel_err h1 h4 hdd hz1⟩
  ·rw [if_neg e2, if_pos e0]
   have hT : thE x f n er = er := by unfold thE; rw [if_neg e2, if_pos e0]
   have hL : thL x c t f n er = [] := by unfold thL; rw [if_neg e2, if_pos e0]
   have hX : thX x (strOfNums (m.hd ++ [b])) f n er = x := by unfold thX; rw [if_neg e2, if_pos e0]
   rw [hT, hL, hX]
   exact ⟨rfl, rfl, rel_err h1 h4 hdd e0⟩
theorem rel_leaf {d : Nat} {m : EM} {b : Int} {x : CM} (h : Rel d x m) (ho : m.over = 0) (hd0 : m.done = false) (hl : 0 < m.leaf) :
  ([evByte x.p b] ++ if x.n = 1 then [evEnd x.p] else []) ++ popE (pays x.s.st 1) x.p = (m.step d b).2.1 ∧ (m.step d b).1 = 0 ∧
  Rel d ((⟨⟨x.s.most, popS (pays x.s.st 1)⟩, x.c, x.n - 1, x.p, decide (x.n - 1 = 0) && (popS (pays x.s.st 1)).isEmpty, x.er⟩ : CM).next 0) (m.step d b).2.2 := by
 obtain ⟨l1, l2, l3⟩ := h.leaf ho
 have hst := h.st ho
 have hpos := h.pos ho
 obtain ⟨_, _, hc⟩ := h.hd ho
 rw [h.no ho hl] at hc
 by_cases h1 : m.leaf = 1
 ·have hs : m.step d b = (0, evByte m.at_ b :: evEnd m.at_ :: popE m.st m.at_, EM.fin m.st (m.at_ + 1)) := by
   unfold EM.step
   rw [if_neg (by simpa using ho), if_neg (by simp [hd0]), if_pos hl, if_pos h1]
  have hst1 : pays x.s.st 1 = m.st := by rw [hst, h1]
  have hn : x.n = 1 := l1.trans h1
  rw [hs, hst1, hn, h.at_]
  refine ⟨rfl, rfl, ?_⟩
  unfold CM.next
  rw [if_pos rfl]
  exact ⟨h.most, rfl, by simp [EM.fin], h.over.trans ho, fun _ => (pays_zero _).symm, fun _ => ⟨rfl, Int.le_refl _, by show (0 : Int) ≤ 2305843009213693951; decide⟩, fun _ y hy => hpos y (popS_mem _ hy), fun _ => ⟨IsB.nil, Nat.zero_le _, hc⟩, fun _ h => absurd h (by show ¬ (0 : Int) < 0; decide)⟩
 ·have hs : m.step d b = (0, [evByte m.at_ b], { m with leaf := m.leaf - 1, at_ := m.at_ + 1 }) := by
   unfold EM.step
   rw [if_neg (by simpa using ho), if_neg (by simp [hd0]), if_pos hl, if_neg h1]
  have hn : ¬ x.n = 1 := fun e => h1 (l1.symm.trans e)
  have hn2 : ¬ x.n - 1 = 0 := by omega
  obtain ⟨p1, p2⟩ := pop_stay (l := pays x.s.st 1) x.p (fun y r hy => by
   have : ∃ z q, x.s.st = z :: q ∧ y = z - 1 := by
    cases hx : x.s.st with
    |nil => rw [hx] at hy; cases hy
    |cons z q => rw [hx] at hy; injection hy with hy _; exact ⟨z, q, rfl, hy.symm⟩
   obtain ⟨z, q, hz, rfl⟩ := this
   have := hpos (z - m.leaf) (by rw [hst, hz]; exact List.mem_cons_self ..)
   omega)
  rw [hs, p1, p2, if_neg hn, h.at_]
  refine ⟨rfl, rfl, ?_⟩
  unfold CM.next
  rw [if_pos rfl]
  refine ⟨h.most, rfl, by simp [hn2, hd0], h.over.trans ho |>.trans ho.symm, fun _ => ?_, fun _ => ⟨by show x.n - 1 = m.leaf - 1; rw [l1], by show 0 ≤ m.leaf - 1; omega, by show m.leaf - 1 ≤ _; omega⟩, hpos |> fun q _ => q, fun _ => ⟨(h.hd ho).1, (h.hd ho).2.1, (h.hd ho).2.2⟩, fun _ _ => h.no ho hl⟩
  show m.st = pays (pays x.s.st 1) (m.leaf - 1)
  rw [pays_pays, hst]
  congr 1
  omega
theorem take_fit {s : SS} (h : s.last ≠ 0) : s.takeE = 0 ∧ s.take = ⟨s.most, pays s.st 1⟩ := by
 obtain ⟨most, st⟩ := s
 refine ⟨by unfold SS.takeE; rw [if_neg h], ?_⟩
 cases st with
 |nil => rfl
 |cons x r => exact if_neg h
theorem take_full {s : SS} (h : s.last = 0) : s.takeE = 5 ∧ s.take = s := by
 obtain ⟨most, st⟩ := s
 refine ⟨by unfold SS.takeE; rw [if_pos h], ?_⟩
 cases st with
 |nil => rfl
 |cons x r => exact if_pos h
end Go.Proofs.Ytiiimhamfibdbaa
/- What the landed code's Push gives: the machine's step in plain words. -/
namespace Go.Proofs.Ytiiimhamfibdbaa
open Go.RowKit Go.PlainAid
set_option linter.unusedVariables false
set_option maxHeartbeats 4000000 in
set_option maxRecDepth 100000 in
theorem takeContent_any {w : World} {k ks base : Nat} {x : CM} (b : Int) (hM : MR w k ks x) (hk : k < base) (hs : ks < base) (hb : base ≤ w.heap.size) (hn : 0 < x.n) (hn2 : x.n ≤ 2305843009213693951) {LL : List Ev} (hLL : ([evByte x.p b] ++ if x.n = 1 then [evEnd x.p] else []) = LL) :
  Calls Try.prog 23 #[.pointer (some ⟨k, 0, none⟩), .int .u8 b] w fun e w' => ∃ v, e = .returned v ∧ Evs w' base v LL ∧ MR w' k ks { x with n := x.n - 1 } ∧ Chg (FB base k ks) w w' := by
 have HL : Hid ((if 0 < x.n - 1 then [evByte x.p b] else [evByte x.p b] ++ [evEnd x.p]) = LL) := Lib.hid (by
  rw [← hLL]
  by_cases h : x.n = 1
  ·rw [if_pos h, if_neg (by omega)]
  ·rw [if_neg h, if_pos (by omega), List.append_nil])
 obtain ⟨q0, q1, q2, q3, q4, q5⟩ := mrow_facts hM.row
 have g2 := hM.row.frozen 2
 have hlt := hM.lt
 have HM1 := Lib.hid (hM.set_n (x.n - 1))
 have HC1 := Lib.hid (chg_setk (k := k) w 2 (.int .i64 (x.n - 1)) base ks)
 have hz1 : base ≤ (w.setCell ⟨k, 2, none⟩ (.int .i64 (x.n - 1))).heap.size := by simp; exact hb
 clear hM hLL
 go_enter Try.func23, Try.ntmps23
 go_upto_region 2 with fail
 clear q0 q1 q2 q3 q4 q5 g2 hlt
 generalize w.setCell ⟨k, 2, none⟩ (.int .i64 (x.n - 1)) = W at *
 have HV := Lib.hid (event_any 3 HM1.out)
 go_wp2_with fail
 refine HV.out.mono ?_
 rintro e w1 ⟨rfl, hb1⟩
 have HM2 := Lib.hid ((HM1.out.below hb1).below ((Below.refl _ _).alloc (Nat.le_refl _) (evO ⟨3, x.p, 0, 0, false, 0, 0⟩)))
 have HC2 := Lib.hid (chg_then (chg_then HC1.out (chg_below hb1)) (chg_alloc (evO ⟨3, x.p, 0, 0, false, 0, 0⟩) base k ks))
 have HR2 : Hid (Row (w1.alloc (evO ⟨3, x.p, 0, 0, false, 0, 0⟩)) w1.heap.size 34 (evC ⟨3, x.p, 0, 0, false, 0, 0⟩)) := Lib.hid (Row.new w1 34 (evC ⟨3, x.p, 0, 0, false, 0, 0⟩))
 have hz2 : base ≤ w1.heap.size := Nat.le_trans hz1 hb1.size
 have hX2 : w1.alloc (.cells #[.int .i64 3, .int .i64 (x.p : Int), .int .i64 0, .int .i64 0, .bool false, .int .i64 0, .int .u8 0] 34) = w1.alloc (evO ⟨3, x.p, 0, 0, false, 0, 0⟩) := rfl
 clear hb1 HM1 HC1 HV
 go_upto_region 3 with fail
 clear hX2
 generalize w1.alloc (evO ⟨3, x.p, 0, 0, false, 0, 0⟩) = Z at *
 generalize w1.heap.size = hh at *
 obtain ⟨e0, e1, e2, e3, e4, e5, e6⟩ := ev_facts HR2.out
 have g6 := HR2.out.frozen 6
 have hhl := HR2.out.lt
 have HR3 : Hid (Row (Z.setCell ⟨hh, 6, none⟩ (.int .u8 b)) hh 34 (evC ⟨3, x.p, 0, 0, false, 0, b⟩)) := Lib.hid (HR2.out.set 6 (.int .u8 b))
 have hB3 : Below base Z (Z.setCell ⟨hh, 6, none⟩ (.int .u8 b)) := (Below.refl _ _).setCell hz2 _
 have HM3 := Lib.hid (HM2.out.above hB3 hk hs)
 have HC3 := Lib.hid (chg_then HC2.out (chg_base hB3 (by omega)))
 have hz3 : base ≤ (Z.setCell ⟨hh, 6, none⟩ (.int .u8 b)).heap.size := by simp; omega
 clear hB3 HR2 HM2 HC2
 go_upto_region 4 with fail
 clear e0 e1 e2 e3 e4 e5 e6 g6 hhl
 generalize Z.setCell ⟨hh, 6, none⟩ (.int .u8 b) = Y at *
 obtain ⟨e0, e1, e2, e3, e4, e5, e6⟩ := ev_facts HR3.out
 have HM4 := Lib.hid (HM3.out.below ((Below.refl _ _).alloc (Nat.le_refl _) (evO ⟨3, x.p, 0, 0, false, 0, b⟩)))
 have HC4 := Lib.hid (chg_then HC3.out (chg_alloc (evO ⟨3, x.p, 0, 0, false, 0, b⟩) base k ks))
 have HE4 := Lib.hid ((evs_one Y ⟨3, x.p, 0, 0, false, 0, b⟩).mono (base' := base) hz3)
 have hX4 : Y.alloc (.cells #[.int .i64 3, .int .i64 (x.p : Int), .int .i64 0, .int .i64 0, .bool false, .int .i64 0, .int .u8 b] 34) = Y.alloc (evO ⟨3, x.p, 0, 0, false, 0, b⟩) := rfl
 have hz4 : base ≤ (Y.alloc (evO ⟨3, x.p, 0, 0, false, 0, b⟩)).heap.size := by simp; omega
 clear HM3 HC3
 go_wp2_with fail
 generalize Y.alloc (evO ⟨3, x.p, 0, 0, false, 0, b⟩) = V at *
 refine (endLeaf_any HM4.out hk HE4.out hz4 (by simp)).mono ?_
 rintro e w5 ⟨v5, rfl, he5, hb5⟩
 have he5 : Evs w5 base v5 LL := by rw [← HL.out]; exact he5
 obtain ⟨o5, c5, rfl⟩ := he5.isSl
 have HE5 := Lib.hid he5
 have HM5 := Lib.hid (HM4.out.above hb5 hk hs)
 have HC5 := Lib.hid (chg_then HC4.out (chg_base hb5 hz4))
 clear he5 hb5 HM4 HC4 HE4 HR3 e0 e1 e2 e3 e4 e5 e6
 go_wp2
 go_returns
 exact ⟨_, rfl, HE5.out, HM5.out, HC5.out⟩
set_option maxHeartbeats 4000000 in
set_option maxRecDepth 100000 in
theorem take_any {w : World} {k ks d : Nat} {x : CM} {m : EM} (b : Int) (hM : MR w k ks x) (hR : Rel d x m) (ho : m.over = 0) (h0 : 0 ≤ b) (h1 : b ≤ 255) (hat : m.at_ ≤ 1000000) {er : Int} {l : List Ev} {m' : EM} (hs : m.step d b = (er, l, m')) :
  Calls Try.prog 16 #[.pointer (some ⟨k, 0, none⟩), .int .u8 b] w fun e w' => ∃ v x', e = .returned (.tuple #[v, .int .i64 er]) ∧ Evs w' w.heap.size v l ∧ MR w' k ks x' ∧ Chg (FB w.heap.size k ks) w w' ∧ x'.p = x.p ∧ x'.er = x.er ∧ Rel d (x'.next er) m' := by
 have hk := hM.lt
 have hks := hM.lts
 obtain ⟨q0, q1, q2, q3, q4, q5⟩ := mrow_facts hM.row
 have hdn := hR.done
 by_cases hd : m.done = true
 ·have hst : m.step d b = (6, [], { m with over := 6 }) := by
   unfold EM.step
   rw [if_neg (by simpa using ho), if_pos hd]
  rw [hst] at hs
  injection hs with s1 s2
  injection s2 with s2 s3
  subst s1 s2 s3
  have HF := Lib.hid (rel_err (x' := x) hR.most hR.at_ hR.done (er := 6) (by decide))
  have HM := Lib.hid hM
  rw [hdn, hd] at q4
  clear hM hR hst hd hdn
  go_enter Try.func16, Try.ntmps16
  go_wp2
  go_returns
  exact ⟨_, x, rfl, Evs.nil _ _, HM.out, chg_draws _ w 0, rfl, rfl, HF.out⟩
 ·have hd0 : m.done = false := by simpa using hd
  have HT := Lib.hid (take_code hM.st)
  rw [hdn, hd0] at q4
  by_cases hl : x.s.last = 0
  ·have hno : ¬ 0 < m.leaf := by
    intro hle
    have hs1 := hR.st ho
    have hp1 := hR.pos ho
    unfold SS.last at hl
    cases hx : x.s.st with
    |nil => rw [hx] at hl; cases hl
    |cons z q =>
     rw [hx] at hl hs1
     have hl : z = 0 := hl
     have := hp1 (z - m.leaf) (by rw [hs1]; exact List.mem_cons_self ..)
     omega
   have hlz : m.leaf = 0 := by have := (hR.leaf ho).2.1; omega
   have hst0 : m.st = x.s.st := by rw [hR.st ho, hlz, pays_zero]
   have hhd : m.st.head? = some 0 := by
    rw [hst0]
    unfold SS.last at hl
    cases hx : x.s.st with
    |nil => rw [hx] at hl; cases hl
    |cons z q => rw [hx] at hl; exact congrArg some hl
   have hst : m.step d b = (5, [], { m with over := 5 }) := by
    unfold EM.step
    rw [if_neg (by simpa using ho), if_neg (by simp [hd0]), if_neg hno, if_pos hhd]
   rw [hst] at hs
   injection hs with s1 s2
   injection s2 with s2 s3
   subst s1 s2 s3
   have HF := Lib.hid (rel_err (x' := x) hR.most hR.at_ hR.done (er := 5) (by decide))
   rw [(take_full hl).1, (take_full hl).2] at HT
   have HM := Lib.hid hM
   clear hM hR hst hd hdn hno hlz hst0 hhd hl
   go_enter Try.func16, Try.ntmps16
   go_wp2_with fail
   refine HT.out.mono ?_
   rintro e w1 ⟨rfl, hs1, hc1⟩
   have HM1 := Lib.hid (HM.out.stack hs1 hc1)
   have HC1 := Lib.hid (chg_stack (base := w.heap.size) (k := k) hc1)
   clear hs1 hc1 HT HM q0 q1 q2 q3 q4 q5
   go_wp2
   go_returns
   exact ⟨_, x, rfl, Evs.nil _ _, HM1.out, HC1.out, rfl, rfl, HF.out⟩
  ·rw [(take_fit hl).1, (take_fit hl).2] at HT
   obtain ⟨l1, l2, l3⟩ := hR.leaf ho
   by_cases hle : 0 < m.leaf
   ·obtain ⟨r1, r2, r3⟩ := rel_leaf (b := b) hR ho hd0 hle
    rw [hs] at r1 r2 r3
    simp only at r1 r2 r3
    subst r2
    have hn0 : 0 < x.n := by omega
    have hn1 : x.n ≤ 2305843009213693951 := by omega
    obtain ⟨LL, hLL⟩ : ∃ LL, ([evByte x.p b] ++ if x.n = 1 then [evEnd x.p] else []) = LL := ⟨_, rfl⟩
    rw [hLL] at r1
    have HLn : Hid (LL.length ≤ 1000) := Lib.hid (by rw [← hLL]; split <;> simp)
    have HLL := Lib.hid hLL
    have HF := Lib.hid r3
    have HL := Lib.hid r1
    have HM := Lib.hid hM
    clear hM hR hs hd hdn hl r1 r3 hLL
    go_enter Try.func16, Try.ntmps16
    go_wp2_with fail
    refine HT.out.mono ?_
    rintro e w1 ⟨rfl, hs1, hc1⟩
    have HM1 := Lib.hid (HM.out.stack hs1 hc1)
    have HC1 := Lib.hid (chg_stack (base := w.heap.size) (k := k) hc1)
    have hz1 := hc1.size
    clear hs1 hc1 HT HM q0 q1 q2 q3 q4 q5
    obtain ⟨q0, q1, q2, q3, q4, q5⟩ := mrow_facts HM1.out.row
    simp only at q0 q1 q2 q3 q4 q5
    go_wp2_with fail
    refine (takeContent_any (base := w.heap.size) b HM1.out hk hks hz1 hn0 hn1 HLL.out).mono ?_
    rintro e w2 ⟨v2, rfl, he2, hm2, hc2⟩
    obtain ⟨o2, c2, rfl⟩ := he2.isSl
    have HE2 := Lib.hid he2
    have HM2 := Lib.hid hm2
    have HC2 := Lib.hid (chg_then HC1.out hc2)
    have hz2 := Nat.le_trans hz1 hc2.size
    clear he2 hm2 hc2 HM1 HC1 q0 q1 q2 q3 q4 q5
    go_wp2_with fail
    refine (leave_any HM2.out hk hks HE2.out hz2 HLn.out).mono ?_
    rintro e w3 ⟨v3, rfl, he3, hm3, hc3⟩
    have he3 : Evs w3 w.heap.size v3 l := by rw [← HL.out]; exact he3
    obtain ⟨o3, c3, rfl⟩ := he3.isSl
    have HE3 := Lib.hid he3
    have HM3 := Lib.hid hm3
    have HC3 := Lib.hid (chg_then HC2.out hc3)
    clear he3 hm3 hc3 HM2 HC2 HE2
    go_wp2
    go_returns
    exact ⟨_, _, rfl, HE3.out, HM3.out, HC3.out, rfl, rfl, HF.out⟩
   ·have hlz : m.leaf = 0 := by omega
    have hst0 : m.st = x.s.st := by rw [hR.st ho, hlz, pays_zero]
    have hz : m.st.head? ≠ some 0 := by
     rw [hst0]
     intro h
     cases hx : x.s.st with
     |nil => rw [hx] at h; cases h
     |cons z q =>
      rw [hx] at h
      injection h with h
      exact hl (by unfold SS.last; rw [hx]; exact h)
    obtain ⟨i1, i2, i3⟩ := hR.hd ho
    obtain ⟨c, t, f, n, g, e1, hg⟩ : ∃ c t f n g e1, hdGet (m.hd ++ [b]) = (c, t, f, n, g, e1) := ⟨_, _, _, _, _, _, rfl⟩
    have hn0 : x.n = 0 := by omega
    obtain ⟨r1, r2, r3⟩ := rel_head (x := { x with s := ⟨x.s.most, pays x.s.st 1⟩ }) ho hd0 hlz hz hR.most (by show pays x.s.st 1 = _; rw [hst0]) hn0 hR.at_ (hR.done.trans hd0) (hR.over.trans ho) (hR.pos ho) (i1.append (IsB.cons h0 h1 IsB.nil)) hg
    rw [hs] at r1 r2 r3
    simp only at r1 r2 r3
    obtain ⟨y, hy⟩ : ∃ y, strOfNums (m.hd ++ [b]) = y := ⟨_, rfl⟩
    rw [hy] at r3
    have HTH := Lib.hid (fun (w1 : World) (h : MR w1 k ks { x with s := ⟨x.s.most, pays x.s.st 1⟩ }) (hz1 : w.heap.size ≤ w1.heap.size) => takeHead_any (base := w.heap.size) b h hk hks hz1 h0 h1 i1 i2 i3 hg hy)
    have HF := Lib.hid r3
    have HL := Lib.hid r2
    have HER := Lib.hid r1
    have HM := Lib.hid hM
    have hPE : ∀ (z : CM), (thX z y f n e1).p = z.p ∧ (thX z y f n e1).er = z.er := by
     intro z
     unfold thX
     split
     ·exact ⟨rfl, rfl⟩
     ·split
      ·exact ⟨rfl, rfl⟩
      ·split <;> exact ⟨rfl, rfl⟩
    have HPE := Lib.hid (hPE { x with s := ⟨x.s.most, pays x.s.st 1⟩ })
    clear hM hR hs hd hdn hl r1 r2 r3 hg hy i1 i2 i3 hPE hz hst0
    go_enter Try.func16, Try.ntmps16
    go_wp2_with fail
    refine HT.out.mono ?_
    rintro e w1 ⟨rfl, hs1, hc1⟩
    have HM1 := Lib.hid (HM.out.stack hs1 hc1)
    have HC1 := Lib.hid (chg_stack (base := w.heap.size) (k := k) hc1)
    have hz1 := hc1.size
    clear hs1 hc1 HT HM q0 q1 q2 q3 q4 q5
    obtain ⟨q0, q1, q2, q3, q4, q5⟩ := mrow_facts HM1.out.row
    simp only at q0 q1 q2 q3 q4 q5
    rw [hn0] at q2
    go_wp2_with fail
    refine (HTH.out w1 HM1.out hz1).mono ?_
    rintro e w2 ⟨v2, rfl, he2, hm2, hc2⟩
    rw [HL.out] at he2
    obtain ⟨o2, c2, rfl⟩ := he2.isSl
    have HE2 := Lib.hid he2
    have HM2 := Lib.hid hm2
    have HC2 := Lib.hid (chg_then HC1.out hc2)
    clear he2 hm2 hc2 HM1 HC1 q0 q1 q2 q3 q4 q5 HTH
    go_wp2
    go_returns
    rw [← HER.out]
    exact ⟨_, _, rfl, HE2.out, HM2.out, HC2.out, HPE.out.1, HPE.out.2, by rw [HER.out]; exact HF.out⟩
end Go.Proofs.Ytiiimhamfibdbaa
/- The landed code's machine is one: what its calls give, and what its memory is: its own block and its stack's. -/
namespace Go.Proofs.Ytiiimhamfibdbaa
open Go.RowKit Go.PlainAid
set_option linter.unusedVariables false
def MAt : EvPred := fun w k F d m => ∃ ks x, (∀ i, F i ↔ (i = k ∨ i = ks)) ∧ MR w k ks x ∧ Rel d x m
theorem chg_narrow {w w' : World} {k ks : Nat} {F : Nat → Prop} (h : Chg (FB w.heap.size k ks) w w') (hF : ∀ i, F i ↔ (i = k ∨ i = ks)) : Chg F w w' :=
 ⟨h.os, h.tape, h.output, h.size, fun i hi hf => h.block i hi (fun g => by
  rcases g with g | g | g
  ·exact hf ((hF i).2 (.inl g))
  ·exact hf ((hF i).2 (.inr g))
  ·omega)⟩
set_option maxHeartbeats 4000000 in
set_option maxRecDepth 100000 in
theorem push_code {w : World} {k : Nat} {F : Nat → Prop} {d : Nat} {m : EM} (b : Int) (h : MAt w k F d m) (h0 : 0 ≤ b) (h1 : b ≤ 255) (hat : m.at_ ≤ 1000000) :
  Calls Try.prog 10 #[.pointer (some ⟨k, 0, none⟩), .int .u8 b] w fun e w' => ∃ v F', e = .returned (.tuple #[v, .int .i64 (m.step d b).1]) ∧ Evs w' w.heap.size v (m.step d b).2.1 ∧ (∀ i, F' i → F i ∨ w.heap.size ≤ i) ∧ (∀ i, v.ownBlock = some i → ¬ F' i) ∧ MAt w' k F' d (m.step d b).2.2 ∧ Chg F w w' := by
 obtain ⟨ks, x, hF, hM, hR⟩ := h
 obtain ⟨er, l, m', hs⟩ : ∃ er l m', m.step d b = (er, l, m') := ⟨_, _, _, rfl⟩
 rw [hs]
 simp only
 have hov := hR.over
 have hpb : x.p ≤ 1000000 := by rw [hR.at_]; exact hat
 have hle : er ≠ 0 → l = [] := by
  intro he
  have := EM.step_err (d := d) (m := m) (x := b) (by rw [hs]; exact he)
  rw [hs] at this
  exact this.1
 obtain ⟨q0, q1, q2, q3, q4, q5⟩ := mrow_facts hM.row
 have hlt := hM.lt
 have hlts := hM.lts
 have HFN : Hid (∀ (w' : World) (v : Value), Evs w' w.heap.size v l → ∀ i, v.ownBlock = some i → ¬ F i) := Lib.hid (by
  intro w' v he i hi hf
  have := (he.lt i hi).1
  rcases (hF i).1 hf with e | e <;> omega)
 by_cases ho : m.over = 0
 ·have HT := Lib.hid (take_any b hM hR ho h0 h1 hat hs)
  rw [hov, ho] at q5
  have HF := Lib.hid hF
  clear hM hR hs hF hov
  go_enter Try.func10, Try.ntmps10
  go_wp2_with fail
  refine HT.out.mono ?_
  rintro e w1 ⟨v1, x1, rfl, he1, hm1, hc1, hp1, hq1, hr1⟩
  obtain ⟨o1, c1, rfl⟩ := he1.isSl
  have HE1 := Lib.hid he1
  have HM1 := Lib.hid hm1
  have HC1 := Lib.hid hc1
  have HR1 := Lib.hid hr1
  clear he1 hm1 hc1 hr1 HT q0 q1 q2 q3 q4 q5
  obtain ⟨q0, q1, q2, q3, q4, q5⟩ := mrow_facts HM1.out.row
  have g3 := HM1.out.row.frozen 3
  have g5 := HM1.out.row.frozen 5
  have hlt1 := HM1.out.lt
  by_cases he : er = 0
  ·subst he
   rw [hp1] at q3
   have HM2 := Lib.hid (HM1.out.set_p (x.p + 1))
   have HC2 := Lib.hid (chg_then HC1.out (chg_setk w1 3 (.int .i64 ((x.p : Int) + 1)) w.heap.size ks))
   have HE2 := Lib.hid (HE1.out.aside (chg_setk1 w1 k 3 (.int .i64 ((x.p : Int) + 1))) (fun i hi => by omega))
   have HX : Hid (x1.next 0 = { x1 with p := x.p + 1 }) := Lib.hid (by unfold CM.next; rw [if_pos rfl, hp1])
   clear HM1 HC1 HE1
   go_wp2
   go_returns
   exact ⟨_, F, rfl, HE2.out, fun i hi => .inl hi, HFN.out _ _ HE2.out, ⟨ks, _, HF.out, HM2.out, HX.out ▸ HR1.out⟩, chg_narrow HC2.out HF.out⟩
  ·have heb : (er != 0) = true := by simpa using he
   have HM2 := Lib.hid (HM1.out.set_e er)
   have HC2 := Lib.hid (chg_then HC1.out (chg_setk w1 5 (.int .i64 er) w.heap.size ks))
   have HX : Hid (x1.next er = { x1 with er := er }) := Lib.hid (by unfold CM.next; rw [if_neg he])
   have HL : Hid (l = []) := Lib.hid (hle he)
   clear hle HM1 HC1 HE1 he
   go_wp2
   go_returns
   exact ⟨.slice none 0 0, F, rfl, by rw [HL.out]; exact Evs.nil _ _, fun i hi => .inl hi, fun i hi => (by cases hi), ⟨ks, _, HF.out, HM2.out, HX.out ▸ HR1.out⟩, chg_narrow HC2.out HF.out⟩
 ·have hst := EM.step_over (d := d) (x := b) ho
  rw [hst] at hs
  injection hs with s1 s2
  injection s2 with s2 s3
  subst s1 s2 s3
  rw [hov] at q5
  have hob : (m.over != 0) = true := by simpa using ho
  have HFM := Lib.hid hM
  have HFR := Lib.hid hR
  clear hM hR hst
  go_enter Try.func10, Try.ntmps10
  go_wp2
  go_quiet (fail)
  go_wp2
  go_returns
  exact ⟨.slice none 0 0, F, rfl, Evs.nil _ _, fun i hi => .inl hi, fun i hi => (by cases hi), ⟨ks, x, hF, HFM.out.below (draws_below _ _), HFR.out⟩, chg_draws _ _ _⟩
theorem done_code {w : World} {k : Nat} {F : Nat → Prop} {d : Nat} {m : EM} (h : MAt w k F d m) :
  Calls Try.prog 12 #[.pointer (some ⟨k, 0, none⟩)] w fun e w' => e = .returned (.bool m.done) ∧ ∃ n, w' = w.drewN n := by
 obtain ⟨ks, x, hF, hM, hR⟩ := h
 obtain ⟨q0, q1, q2, q3, q4, q5⟩ := mrow_facts hM.row
 rw [hR.done] at q4
 clear hM hR
 go_enter Try.func12, Try.ntmps12
 go_wp2
 go_ret
 exact ⟨rfl, 0, rfl⟩
theorem rel_new (depth : Int) : Rel (evMost depth) ⟨SS.new depth, ⟨#[]⟩, 0, 0, false, 0⟩ EM.new :=
 ⟨rfl, rfl, rfl, rfl, fun _ => rfl, fun _ => ⟨rfl, Int.le_refl _, by show (0 : Int) ≤ 2305843009213693951; decide⟩, fun _ y hy => (by cases hy), fun _ => ⟨IsB.nil, Nat.zero_le _, rfl⟩, fun _ h => absurd h (by show ¬ (0 : Int) < 0; decide)⟩
theorem st_one {w : World} {ks : Nat} {F : Nat → Prop} {s : SS} (h : StAt w ks F s) : StAt w ks (fun i => i = ks) s := ⟨fun i => Iff.rfl, h.2⟩
set_option maxHeartbeats 1600000 in
set_option maxRecDepth 100000 in
theorem evnew_code (depth : Int) (w : World) (hd : -9223372036854775808 ≤ depth ∧ depth ≤ 9223372036854775807) :
  Calls Try.prog 8 #[.int .i64 depth] w fun e w' => ∃ k F, e = .returned (.pointer (some ⟨k, 0, none⟩)) ∧ (∀ i, F i → w.heap.size ≤ i) ∧ MAt w' k F (evMost depth) EM.new ∧ Below w.heap.size w w' := by
 have HN := Lib.hid (new_code depth w hd)
 have HR := Lib.hid (rel_new depth)
 clear hd
 go_enter Try.func8, Try.ntmps8
 go_wp2_with fail
 refine HN.out.mono ?_
 rintro e w1 ⟨ks, F, rfl, hF, hs, hb⟩
 have HS := Lib.hid hs
 have HB := Lib.hid hb
 have hks : w.heap.size ≤ ks := hF ks ((hs.1 ks).2 rfl)
 have hkl : ks < w1.heap.size := by obtain ⟨_, _, J, _, hr⟩ := hs; exact hr.lt
 clear hs hb hF HN
 go_wp2
 go_returns
 have hB2 : Below w1.heap.size w1 (w1.alloc (.cells (mC ks ⟨#[]⟩ 0 0 false 0).toArray 53)) := (Below.refl _ _).alloc (Nat.le_refl _) _
 refine ⟨w1.heap.size, fun i => i = w1.heap.size ∨ i = ks, rfl, fun i hi => ?_, ⟨ks, ⟨SS.new depth, ⟨#[]⟩, 0, 0, false, 0⟩, fun i => Iff.rfl, ⟨stSpec.below (st_one HS.out) hB2, by omega, Row.new w1 53 (mC ks ⟨#[]⟩ 0 0 false 0)⟩, HR.out⟩, HB.out.alloc HB.out.size _⟩
 have := HB.out.size
 omega
theorem MAt.lt {w : World} {k : Nat} {F : Nat → Prop} {d : Nat} {m : EM} (h : MAt w k F d m) : ∀ i, F i → i < w.heap.size := by
 obtain ⟨ks, x, hF, hM, hR⟩ := h
 intro i hi
 rcases (hF i).1 hi with rfl | rfl
 ·exact hM.lt
 ·exact hM.lts
theorem MAt.aside {w w' : World} {k : Nat} {F F' : Nat → Prop} {d : Nat} {m : EM} (h : MAt w k F d m) (hc : Chg F' w w') (hF' : ∀ i, F i → ¬ F' i) : MAt w' k F d m := by
 obtain ⟨ks, x, hF, hM, hR⟩ := h
 exact ⟨ks, x, hF, hM.chg hc (hF' k ((hF k).2 (.inl rfl))) (hF' ks ((hF ks).2 (.inr rfl))), hR⟩
theorem evSpec : EvSpec MAt where
 lt := fun h => h.lt
 aside := fun h hc hF => h.aside hc hF
 new := evnew_code
 push := fun b h h0 h1 hat => push_code b h h0 h1 hat
 done := done_code
end Go.Proofs.Ytiiimhamfibdbaa
