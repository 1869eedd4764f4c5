/- A list of revoked certificates that came in: how its rows lie in memory, and that an argument is one. Of any program. -/
import Derived.Test.YtiiimhamfibdbaaGreatB0
import Derived.Test.YtiiimhamfibdbaaGreatF1
import Derived.OpenShut
import Derived.ChangeArms
import Derived.Deep.Slices
import Derived.Test.YtiiimhamfibdbaaGreatChecked
namespace Go.Proofs.YtiiimhamfibdbaaGreat
open Go.RowKit Go.ChangeShapes Go.WideShapes Go.Deep
set_option linter.unusedVariables false
theorem cell_keep {w w' : World} {p : Addr} {v : Value} (h : w.cell? p = some v) (hb : Below w.heap.size w w') : w'.cell? p = some v := by
 have hlt : p.block < w.heap.size := by
  rcases Nat.lt_or_ge p.block w.heap.size with h1 | h1
  ·exact h1
  ·exfalso
   unfold World.cell? at h
   rw [Array.getElem?_eq_none h1] at h
   simp at h
 rw [hb.cell hlt]; exact h
def at3 (ad : Addr) (i k : Nat) : Addr := ⟨(ad.add (i * 3)).block, (ad.add (i * 3)).off + k, none⟩
structure CameExt (w : World) (ad : Addr) (i : Nat) (x : ExtV) (oo : Option Addr) (co : Nat) : Prop where
 c0 : w.cell? (ad.add (i * 3)) = some (.slice oo x.oid.length co)
 c1 : w.cell? (at3 ad i 1) = some (.bool x.crit)
 c2 : w.cell? (at3 ad i 2) = some (.string x.val)
 oid : Came w oo (ivs .u64 x.oid)
 cap : x.oid.length ≤ co ∧ co ≤ maxLen
def CameExts (w : World) (oa : Option Addr) (l : List ExtV) : Prop := ∀ i (h : i < l.length), ∃ ad oo co, oa = some ad ∧ CameExt w ad i l[i] oo co
structure CameAttr (w : World) (ad : Addr) (i : Nat) (x : AttrV) (oo : Option Addr) (co : Nat) : Prop where
 c0 : w.cell? (ad.add (i * 3)) = some (.slice oo x.oid.length co)
 c1 : w.cell? (at3 ad i 1) = some (.int .i64 x.tag)
 c2 : w.cell? (at3 ad i 2) = some (.string x.text)
 oid : Came w oo (ivs .u64 x.oid)
 cap : x.oid.length ≤ co ∧ co ≤ maxLen
def CameAttrs (w : World) (oa : Option Addr) (l : List AttrV) : Prop := ∀ i (h : i < l.length), ∃ ad oo co, oa = some ad ∧ CameAttr w ad i l[i] oo co
structure CameSet (w : World) (ad : Addr) (i : Nat) (l : List AttrV) (oo : Option Addr) (co : Nat) : Prop where
 c0 : w.cell? (ad.add i) = some (.slice oo l.length co)
 set : CameAttrs w oo l
 cap : l.length ≤ co ∧ co ≤ maxLen
def CameSets (w : World) (oa : Option Addr) (l : List (List AttrV)) : Prop := ∀ i (h : i < l.length), ∃ ad oo co, oa = some ad ∧ CameSet w ad i l[i] oo co
structure CameEntry (w : World) (ad : Addr) (i : Nat) (x : EntryV) (oo : Option Addr) (co : Nat) : Prop where
 c0 : w.cell? (ad.add (i * 3)) = some (.string x.serial)
 c1 : w.cell? (at3 ad i 1) = some (.string x.date)
 c2 : w.cell? (at3 ad i 2) = some (.slice oo x.exts.length co)
 exts : CameExts w oo x.exts
 cap : x.exts.length ≤ co ∧ co ≤ maxLen
def CameEntries (w : World) (oa : Option Addr) (l : List EntryV) : Prop := ∀ i (h : i < l.length), ∃ ad oo co, oa = some ad ∧ CameEntry w ad i l[i] oo co
section
variable {w w' : World}
theorem CameExts.below {oa : Option Addr} {l : List ExtV} (h : CameExts w oa l) (hb : Below w.heap.size w w') : CameExts w' oa l := fun i hi => by
 obtain ⟨ad, oo, co, h1, h2⟩ := h i hi
 exact ⟨ad, oo, co, h1, cell_keep h2.c0 hb, cell_keep h2.c1 hb, cell_keep h2.c2 hb, h2.oid.below hb, h2.cap⟩
theorem CameAttrs.below {oa : Option Addr} {l : List AttrV} (h : CameAttrs w oa l) (hb : Below w.heap.size w w') : CameAttrs w' oa l := fun i hi => by
 obtain ⟨ad, oo, co, h1, h2⟩ := h i hi
 exact ⟨ad, oo, co, h1, cell_keep h2.c0 hb, cell_keep h2.c1 hb, cell_keep h2.c2 hb, h2.oid.below hb, h2.cap⟩
theorem CameSets.below {oa : Option Addr} {l : List (List AttrV)} (h : CameSets w oa l) (hb : Below w.heap.size w w') : CameSets w' oa l := fun i hi => by
 obtain ⟨ad, oo, co, h1, h2⟩ := h i hi
 exact ⟨ad, oo, co, h1, cell_keep h2.c0 hb, h2.set.below hb, h2.cap⟩
theorem CameEntries.below {oa : Option Addr} {l : List EntryV} (h : CameEntries w oa l) (hb : Below w.heap.size w w') : CameEntries w' oa l := fun i hi => by
 obtain ⟨ad, oo, co, h1, h2⟩ := h i hi
 exact ⟨ad, oo, co, h1, cell_keep h2.c0 hb, cell_keep h2.c1 hb, cell_keep h2.c2 hb, h2.exts.below hb, h2.cap⟩
end
structure ExtV.Fits (x : ExtV) : Prop where
 oin : ∀ y ∈ x.oid, inK .u64 y
 val : x.val.size ≤ maxLen
structure AttrV.Fits (a : AttrV) : Prop where
 oin : ∀ y ∈ a.oid, inK .u64 y
 tag : InI a.tag
 text : a.text.size ≤ maxLen
structure EntryV.Fits (x : EntryV) : Prop where
 serial : x.serial.size ≤ maxLen
 date : x.date.size ≤ maxLen
 exts : ∀ y ∈ x.exts, y.Fits
structure CrlV.Fits (c : CrlV) : Prop where
 ain : ∀ y ∈ c.alg, inK .u64 y
 attrs : ∀ s ∈ c.issuer, ∀ a ∈ s, a.Fits
 this : c.this.size ≤ maxLen
 next : c.next.size ≤ maxLen
 entries : ∀ x ∈ c.entries, x.Fits
 exts : ∀ x ∈ c.exts, x.Fits
 sig : c.sig.size ≤ maxLen
structure CrlR where
 oa : Option Addr
 ca : Nat
 oi : Option Addr
 ci : Nat
 oe : Option Addr
 ce : Nat
 ox : Option Addr
 cx : Nat
def crlV (c : CrlV) (r : CrlR) : Value := .agg #[.bool c.v2, .slice r.oa c.alg.length r.ca, .slice r.oi c.issuer.length r.ci, .string c.this, .string c.next, .slice r.oe c.entries.length r.ce, .slice r.ox c.exts.length r.cx, .string c.sig]
structure CrlCap (c : CrlV) (r : CrlR) : Prop where
 a : c.alg.length ≤ r.ca ∧ r.ca ≤ maxLen
 i : c.issuer.length ≤ r.ci ∧ r.ci ≤ maxLen
 e : c.entries.length ≤ r.ce ∧ r.ce ≤ maxLen
 x : c.exts.length ≤ r.cx ∧ r.cx ≤ maxLen
structure CameCrl (w : World) (c : CrlV) (r : CrlR) : Prop where
 alg : Came w r.oa (ivs .u64 c.alg)
 sets : CameSets w r.oi c.issuer
 entries : CameEntries w r.oe c.entries
 exts : CameExts w r.ox c.exts
theorem CameCrl.below {w w' : World} {c : CrlV} {r : CrlR} (h : CameCrl w c r) (hb : Below w.heap.size w w') : CameCrl w' c r := ⟨h.alg.below hb, h.sets.below hb, h.entries.below hb, h.exts.below hb⟩
section
variable {H : Type} {enc : TypeId × Value → H} {P : Program} {w : World} {base : Nat} {spare : Nat → Bool} {held : Bool}
theorem trod_rows3 {t e : TypeId} {f0 f1 f2 : Field} {a : Option Addr} {len cap : Nat} {d : DataW H} {p : List MemPlace} (ht : P.underlying t = some (.slice e)) (he : P.underlying e = some (.struct #[f0, f1, f2]))
  (ce : P.cellsOf e = 3) (o0 : f0.offset = 0) (o1 : f1.offset = 1) (o2 : f2.offset = 2) (c0 : P.cellsOf f0.type = 1) (c1 : P.cellsOf f1.type = 1) (c2 : P.cellsOf f2.type = 1)
  (h : DataW.Trod enc P w base spare held t (.slice a len cap) d p) : len ≤ cap ∧ cap ≤ maxLen ∧ ∀ i, i < len → ∃ (ad : Addr) (v0 v1 v2 : Value) (n : Nat) (y0 y1 y2 : DataW H × List MemPlace), a = some ad ∧
   w.cell? (ad.add (i * 3)) = some v0 ∧ w.cell? (at3 ad i 1) = some v1 ∧ w.cell? (at3 ad i 2) = some v2 ∧
   DataW.trod enc P w base spare held n f0.type [v0] = some y0 ∧ DataW.trod enc P w base spare held n f1.type [v1] = some y1 ∧ DataW.trod enc P w base spare held n f2.type [v2] = some y2 := by
 obtain ⟨fuel, hf⟩ := h
 rcases open_slice ht hf with ⟨hcs, _⟩ | ⟨x, ln, cp, m, n, D, Pl, hcs, hb, hl, hm, hmm, _, hx⟩
 ·simp [Value.cells] at hcs
  obtain ⟨rfl, rfl, rfl⟩ := hcs
  exact ⟨Nat.le_refl _, Nat.zero_le _, fun i hi => absurd hi (Nat.not_lt_zero _)⟩
 ·simp [Value.cells] at hcs
  obtain ⟨rfl, rfl, rfl⟩ := hcs
  have hlz : len ≤ m := by rw [hmm]; split <;> omega
  refine ⟨hl, hm, fun i hi => ?_⟩
  obtain ⟨cs', h1, h2⟩ := hx i (by omega)
  rw [ce] at h1
  obtain ⟨_, hlen, hcell⟩ := World.cells?_some h1
  obtain ⟨xs, k, hk, hxy, _, hxl, hf2⟩ := DataW.trod_struct he h2
  match xs, hxl, cs', hlen with
  |[y0, y1, y2], _, [v0, v1, v2], _ =>
   have g0 := hf2 0 f0 rfl
   have g1 := hf2 1 f1 rfl
   have g2 := hf2 2 f2 rfl
   simp [o0, o1, o2, c0, c1, c2] at g0 g1 g2
   have e0 := hcell 0 (by omega)
   have e1 := hcell 1 (by omega)
   have e2 := hcell 2 (by omega)
   have z0 : ∀ q : Addr, q.add 0 = q := fun q => by unfold Addr.add; split <;> simp_all
   have z1 : ∀ (q : Addr) (j : Nat), q.add (j + 1) = ⟨q.block, q.off + (j + 1), none⟩ := fun q j => by unfold Addr.add; rw [if_neg (by omega)]
   rw [z0] at e0
   rw [z1] at e1 e2
   exact ⟨x, v0, v1, v2, k, y0, y1, y2, rfl, by simpa using e0, by simpa [at3] using e1, by simpa [at3] using e2, g0, g1, g2⟩
theorem choose_list {α : Type} {n : Nat} {Q : Nat → α → Prop} (h : ∀ i, i < n → ∃ x, Q i x) : ∃ l : List α, l.length = n ∧ ∀ i (hi : i < l.length), Q i l[i] := by
 obtain ⟨f, hf⟩ : ∃ f : (i : Nat) → i < n → α, ∀ i hi, Q i (f i hi) := ⟨fun i hi => (h i hi).choose, fun i hi => (h i hi).choose_spec⟩
 refine ⟨List.ofFn (fun i : Fin n => f i.1 i.2), by simp, fun i hi => ?_⟩
 simp at hi ⊢
 exact hf i hi
theorem sl_of {n : Nat} {t : TypeId} {v : Value} {y : DataW H × List MemPlace} {e : TypeId} (ht : P.underlying t = some (.slice e)) (h : DataW.trod enc P w base spare held n t [v] = some y) : ∃ oa len cap, v = .slice oa len cap ∧ DataW.Trod enc P w base spare held t (.slice oa len cap) y.1 y.2 := by
 rcases open_slice ht h with ⟨hcs, _⟩ | ⟨x, ln, cp, m, n', D, Pl, hcs, _⟩
 ·injection hcs with hcs _
  subst hcs
  exact ⟨_, _, _, rfl, n, h⟩
 ·injection hcs with hcs _
  subst hcs
  exact ⟨_, _, _, rfl, n, h⟩
structure Str3 (P : Program) (t a b c : TypeId) : Prop where
 ex : ∃ f0 f1 f2 : Field, P.underlying t = some (.struct #[f0, f1, f2]) ∧ f0.offset = 0 ∧ f1.offset = 1 ∧ f2.offset = 2 ∧ f0.type = a ∧ f1.type = b ∧ f2.type = c
 size : P.cellsOf t = 3
structure CrlTypes (P : Program) (tCrl tOid tU tIss tSet tAttr tEnts tEnt tExts tExt tBool tInt tStr : TypeId) : Prop where
 u : P.underlying tU = some (.int .u64)
 uc : P.cellsOf tU = 1
 b : P.underlying tBool = some .bool
 bc : P.cellsOf tBool = 1
 i : P.underlying tInt = some (.int .i64)
 ic : P.cellsOf tInt = 1
 s : P.underlying tStr = some .string
 sc : P.cellsOf tStr = 1
 oid : P.underlying tOid = some (.slice tU)
 oidc : P.cellsOf tOid = 1
 ext : Str3 P tExt tOid tBool tStr
 exts : P.underlying tExts = some (.slice tExt)
 extsc : P.cellsOf tExts = 1
 attr : Str3 P tAttr tOid tInt tStr
 set : P.underlying tSet = some (.slice tAttr)
 setc : P.cellsOf tSet = 1
 iss : P.underlying tIss = some (.slice tSet)
 issc : P.cellsOf tIss = 1
 ent : Str3 P tEnt tStr tStr tExts
 ents : P.underlying tEnts = some (.slice tEnt)
 entsc : P.cellsOf tEnts = 1
 crl : ∃ f0 f1 f2 f3 f4 f5 f6 f7 : Field, P.underlying tCrl = some (.struct #[f0, f1, f2, f3, f4, f5, f6, f7]) ∧ (f0.offset = 0 ∧ f1.offset = 1 ∧ f2.offset = 2 ∧ f3.offset = 3 ∧ f4.offset = 4 ∧ f5.offset = 5 ∧ f6.offset = 6 ∧ f7.offset = 7) ∧
  f0.type = tBool ∧ f1.type = tOid ∧ f2.type = tIss ∧ f3.type = tStr ∧ f4.type = tStr ∧ f5.type = tEnts ∧ f6.type = tExts ∧ f7.type = tStr
 crlc : P.cellsOf tCrl = 8
variable {tCrl tOid tU tIss tSet tAttr tEnts tEnt tExts tExt tBool tInt tStr : TypeId}
theorem came_exts (T : CrlTypes P tCrl tOid tU tIss tSet tAttr tEnts tEnt tExts tExt tBool tInt tStr) {a : Option Addr} {len cap : Nat} {d : DataW H} {p : List MemPlace} (h : DataW.Trod enc P w base spare held tExts (.slice a len cap) d p) :
  ∃ l : List ExtV, l.length = len ∧ len ≤ cap ∧ cap ≤ maxLen ∧ CameExts w a l ∧ ∀ x ∈ l, x.Fits := by
 obtain ⟨f0, f1, f2, he, o0, o1, o2, rfl, rfl, rfl⟩ := T.ext.ex
 obtain ⟨h1, h2, h3⟩ := trod_rows3 T.exts he T.ext.size o0 o1 o2 T.oidc T.bc T.sc h
 have each : ∀ i, i < len → ∃ x : ExtV, (∃ ad oo co, a = some ad ∧ CameExt w ad i x oo co) ∧ x.Fits := by
  intro i hi
  obtain ⟨ad, v0, v1, v2, n, y0, y1, y2, rfl, k0, k1, k2, g0, g1, g2⟩ := h3 i hi
  obtain ⟨oo, ln, co, rfl, ho⟩ := sl_of T.oid g0
  obtain ⟨l, rfl, q1, q2, q3, q4⟩ := came_ints T.oid T.u T.uc ho
  obtain ⟨c, ec, _⟩ := DataW.trod_bool T.b g1
  obtain ⟨s, es, _, ws⟩ := DataW.trod_string T.s g2
  injection ec with ec _
  injection es with es _
  subst ec; subst es
  exact ⟨⟨l, c, s⟩, ⟨ad, oo, co, rfl, k0, k1, k2, q3, q1, q2⟩, q4, ws⟩
 obtain ⟨l, hl, hq⟩ := choose_list each
 exact ⟨l, hl, h1, h2, fun i hi => (hq i hi).1, fun x hx => by obtain ⟨i, hi, rfl⟩ := List.getElem_of_mem hx; exact (hq i hi).2⟩
theorem came_attrs (T : CrlTypes P tCrl tOid tU tIss tSet tAttr tEnts tEnt tExts tExt tBool tInt tStr) {a : Option Addr} {len cap : Nat} {d : DataW H} {p : List MemPlace} (h : DataW.Trod enc P w base spare held tSet (.slice a len cap) d p) :
  ∃ l : List AttrV, l.length = len ∧ len ≤ cap ∧ cap ≤ maxLen ∧ CameAttrs w a l ∧ ∀ x ∈ l, x.Fits := by
 obtain ⟨f0, f1, f2, he, o0, o1, o2, rfl, rfl, rfl⟩ := T.attr.ex
 obtain ⟨h1, h2, h3⟩ := trod_rows3 T.set he T.attr.size o0 o1 o2 T.oidc T.ic T.sc h
 have each : ∀ i, i < len → ∃ x : AttrV, (∃ ad oo co, a = some ad ∧ CameAttr w ad i x oo co) ∧ x.Fits := by
  intro i hi
  obtain ⟨ad, v0, v1, v2, n, y0, y1, y2, rfl, k0, k1, k2, g0, g1, g2⟩ := h3 i hi
  obtain ⟨oo, ln, co, rfl, ho⟩ := sl_of T.oid g0
  obtain ⟨l, rfl, q1, q2, q3, q4⟩ := came_ints T.oid T.u T.uc ho
  obtain ⟨c, ec, _, wc⟩ := DataW.trod_int T.i g1
  obtain ⟨s, es, _, ws⟩ := DataW.trod_string T.s g2
  injection ec with ec _
  injection es with es _
  subst ec; subst es
  exact ⟨⟨l, c, s⟩, ⟨ad, oo, co, rfl, k0, k1, k2, q3, q1, q2⟩, q4, inK_of wc, ws⟩
 obtain ⟨l, hl, hq⟩ := choose_list each
 exact ⟨l, hl, h1, h2, fun i hi => (hq i hi).1, fun x hx => by obtain ⟨i, hi, rfl⟩ := List.getElem_of_mem hx; exact (hq i hi).2⟩
theorem came_sets (T : CrlTypes P tCrl tOid tU tIss tSet tAttr tEnts tEnt tExts tExt tBool tInt tStr) {a : Option Addr} {len cap : Nat} {d : DataW H} {p : List MemPlace} (h : DataW.Trod enc P w base spare held tIss (.slice a len cap) d p) :
  ∃ l : List (List AttrV), l.length = len ∧ len ≤ cap ∧ cap ≤ maxLen ∧ CameSets w a l ∧ ∀ s ∈ l, ∀ x ∈ s, x.Fits := by
 obtain ⟨fuel, hf⟩ := h
 rcases open_slice T.iss hf with ⟨hcs, _⟩ | ⟨x, ln, cp, m, n, D, Pl, hcs, hb, hl, hm, hmm, _, hx⟩
 ·simp [Value.cells] at hcs
  obtain ⟨rfl, rfl, rfl⟩ := hcs
  exact ⟨[], rfl, Nat.le_refl _, Nat.zero_le _, fun i hi => absurd hi (Nat.not_lt_zero _), by simp⟩
 ·simp [Value.cells] at hcs
  obtain ⟨rfl, rfl, rfl⟩ := hcs
  have hlz : len ≤ m := by rw [hmm]; split <;> omega
  have each : ∀ i, i < len → ∃ s : List AttrV, (∃ ad oo co, some x = some ad ∧ CameSet w ad i s oo co) ∧ ∀ y ∈ s, y.Fits := by
   intro i hi
   obtain ⟨cs', h1, h2⟩ := hx i (by omega)
   rw [T.setc] at h1
   obtain ⟨_, hlen, hcell⟩ := World.cells?_some h1
   match cs', hlen with
   |[v], _ =>
    have e0 := hcell 0 (by omega)
    have z0 : ∀ q : Addr, q.add 0 = q := fun q => by unfold Addr.add; split <;> simp_all
    rw [z0, Nat.mul_one] at e0
    obtain ⟨oo, ln, co, rfl, ho⟩ := sl_of T.set h2
    obtain ⟨l, rfl, q1, q2, q3, q4⟩ := came_attrs T ho
    exact ⟨l, ⟨x, oo, co, rfl, by simpa using e0, q3, q1, q2⟩, q4⟩
  obtain ⟨l, hl', hq⟩ := choose_list each
  exact ⟨l, hl', hl, hm, fun i hi => (hq i hi).1, fun s hs => by obtain ⟨i, hi, rfl⟩ := List.getElem_of_mem hs; exact (hq i hi).2⟩
theorem came_entries (T : CrlTypes P tCrl tOid tU tIss tSet tAttr tEnts tEnt tExts tExt tBool tInt tStr) {a : Option Addr} {len cap : Nat} {d : DataW H} {p : List MemPlace} (h : DataW.Trod enc P w base spare held tEnts (.slice a len cap) d p) :
  ∃ l : List EntryV, l.length = len ∧ len ≤ cap ∧ cap ≤ maxLen ∧ CameEntries w a l ∧ ∀ x ∈ l, x.Fits := by
 obtain ⟨f0, f1, f2, he, o0, o1, o2, t0, t1, t2⟩ := T.ent.ex
 obtain ⟨h1, h2, h3⟩ := trod_rows3 T.ents he T.ent.size o0 o1 o2 (by rw [t0]; exact T.sc) (by rw [t1]; exact T.sc) (by rw [t2]; exact T.extsc) h
 rw [t0, t1, t2] at h3
 have each : ∀ i, i < len → ∃ x : EntryV, (∃ ad oo co, a = some ad ∧ CameEntry w ad i x oo co) ∧ x.Fits := by
  intro i hi
  obtain ⟨ad, v0, v1, v2, n, y0, y1, y2, rfl, k0, k1, k2, g0, g1, g2⟩ := h3 i hi
  obtain ⟨oo, ln, co, rfl, ho⟩ := sl_of T.exts g2
  obtain ⟨l, rfl, q1, q2, q3, q4⟩ := came_exts T ho
  obtain ⟨c, ec, _, wc⟩ := DataW.trod_string T.s g0
  obtain ⟨s, es, _, ws⟩ := DataW.trod_string T.s g1
  injection ec with ec _
  injection es with es _
  subst ec; subst es
  exact ⟨⟨c, s, l⟩, ⟨ad, oo, co, rfl, k0, k1, k2, q3, q1, q2⟩, wc, ws, q4⟩
 obtain ⟨l, hl, hq⟩ := choose_list each
 exact ⟨l, hl, h1, h2, fun i hi => (hq i hi).1, fun x hx => by obtain ⟨i, hi, rfl⟩ := List.getElem_of_mem hx; exact (hq i hi).2⟩
theorem came_crl (T : CrlTypes P tCrl tOid tU tIss tSet tAttr tEnts tEnt tExts tExt tBool tInt tStr) {b0 : Nat} {r : Reach} {v : Value} {d : DataW H} {p : List MemPlace} (hv : Value.okWide P w r b0 tCrl v) (h : DataW.Trod enc P w base spare held tCrl v d p) :
  ∃ (c : CrlV) (q : CrlR), v = crlV c q ∧ CrlCap c q ∧ CameCrl w c q ∧ c.Fits := by
 obtain ⟨f0, f1, f2, f3, f4, f5, f6, f7, ht, ⟨o0, o1, o2, o3, o4, o5, o6, o7⟩, t0, t1, t2, t3, t4, t5, t6, t7⟩ := T.crl
 simp only [Value.okWide, ht] at hv
 obtain ⟨cs, rfl, h2, _⟩ := hv
 rw [T.crlc] at h2
 obtain ⟨fuel, hf⟩ := h
 obtain ⟨xs, k, _, _, hl, hx, hi⟩ := DataW.trod_struct ht hf
 obtain ⟨l⟩ := cs
 match l, h2 with
 |[u0, u1, u2, u3, u4, u5, u6, u7], _ =>
  have g0 := hi 0 f0 rfl
  have g1 := hi 1 f1 rfl
  have g2 := hi 2 f2 rfl
  have g3 := hi 3 f3 rfl
  have g4 := hi 4 f4 rfl
  have g5 := hi 5 f5 rfl
  have g6 := hi 6 f6 rfl
  have g7 := hi 7 f7 rfl
  rw [t0, T.bc, o0] at g0
  rw [t1, T.oidc, o1] at g1
  rw [t2, T.issc, o2] at g2
  rw [t3, T.sc, o3] at g3
  rw [t4, T.sc, o4] at g4
  rw [t5, T.entsc, o5] at g5
  rw [t6, T.extsc, o6] at g6
  rw [t7, T.sc, o7] at g7
  match xs, hx with
  |[y0, y1, y2, y3, y4, y5, y6, y7], _ =>
   obtain ⟨v2, e0, _⟩ := DataW.trod_bool (cs := [u0]) T.b g0
   obtain ⟨oa, la, ca, rfl, hA⟩ := sl_of (v := u1) T.oid g1
   obtain ⟨oi, li, ci, rfl, hI⟩ := sl_of (v := u2) T.iss g2
   obtain ⟨th, e3, _, w3⟩ := DataW.trod_string (cs := [u3]) T.s g3
   obtain ⟨nx, e4, _, w4⟩ := DataW.trod_string (cs := [u4]) T.s g4
   obtain ⟨oe, le, ce, rfl, hE⟩ := sl_of (v := u5) T.ents g5
   obtain ⟨ox, lx, cx, rfl, hX⟩ := sl_of (v := u6) T.exts g6
   obtain ⟨sg, e7, _, w7⟩ := DataW.trod_string (cs := [u7]) T.s g7
   injection e0 with e0 _
   injection e3 with e3 _
   injection e4 with e4 _
   injection e7 with e7 _
   subst e0; subst e3; subst e4; subst e7
   obtain ⟨A, rfl, a1, a2, a3, a4⟩ := came_ints T.oid T.u T.uc hA
   obtain ⟨I, rfl, i1, i2, i3, i4⟩ := came_sets T hI
   obtain ⟨E, rfl, x1, x2, x3, x4⟩ := came_entries T hE
   obtain ⟨X, rfl, z1, z2, z3, z4⟩ := came_exts T hX
   exact ⟨⟨v2, A, I, th, nx, E, X, sg⟩, ⟨oa, ca, oi, ci, oe, ce, ox, cx⟩, rfl, ⟨⟨a1, a2⟩, ⟨i1, i2⟩, ⟨x1, x2⟩, ⟨z1, z2⟩⟩, ⟨a3, i3, x3, z3⟩, a4, i4, w3, w4, x4, z4, w7⟩
end
end Go.Proofs.YtiiimhamfibdbaaGreat
/- The types of a list of revoked certificates, in this program. -/
namespace Go.Proofs.YtiiimhamfibdbaaGreat
open Go.RowKit Go.ChangeShapes Go.WideShapes Go.Deep
theorem crlTypes : CrlTypes Tryz.prog 48 43 138 44 75 77 45 79 46 110 4 3 9 where
 u := Tryz.underlying138
 uc := by kernel_rfl
 b := Tryz.underlying4
 bc := by kernel_rfl
 i := Tryz.underlying3
 ic := by kernel_rfl
 s := Tryz.underlying9
 sc := by kernel_rfl
 oid := Tryz.underlying43
 oidc := by kernel_rfl
 ext := ⟨⟨_, _, _, Tryz.underlying110, rfl, rfl, rfl, rfl, rfl, rfl⟩, by kernel_rfl⟩
 exts := Tryz.underlying46
 extsc := by kernel_rfl
 attr := ⟨⟨_, _, _, Tryz.underlying77, rfl, rfl, rfl, rfl, rfl, rfl⟩, by kernel_rfl⟩
 set := Tryz.underlying75
 setc := by kernel_rfl
 iss := Tryz.underlying44
 issc := by kernel_rfl
 ent := ⟨⟨_, _, _, Tryz.underlying79, rfl, rfl, rfl, rfl, rfl, rfl⟩, by kernel_rfl⟩
 ents := Tryz.underlying45
 entsc := by kernel_rfl
 crl := ⟨_, _, _, _, _, _, _, _, Tryz.underlying48, ⟨rfl, rfl, rfl, rfl, rfl, rfl, rfl, rfl⟩, rfl, rfl, rfl, rfl, rfl, rfl, rfl, rfl⟩
 crlc := by kernel_rfl
end Go.Proofs.YtiiimhamfibdbaaGreat
