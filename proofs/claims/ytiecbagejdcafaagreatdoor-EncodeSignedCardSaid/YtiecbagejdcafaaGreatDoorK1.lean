/- What layer 19's functions answer, whatever their code: within the sizes that its statements name. -/
import Derived.Test.YtiecbagejdcafaaGreatDoorG2
import Derived.Test.YtiecbagejdcafaaGreatDoorW4
namespace Go.Proofs.YtiecbagejdcafaaGreatDoor
open Go.RowKit Go.PlainAid
set_option linter.unusedVariables false
structure EncSpec : Prop where
 element : ∀ (c t : Int) (k : Bool) (n0 : Int) (b : ByteArray), InI c → InI t → b.size ≤ 100000 → ∀ w : World,
  Calls Tryz.prog 19 #[.agg #[.int .i64 c, .int .i64 t, .bool k, .int .i64 n0], .string b] w fun e w' => e = .returned (.string (if idOk c t = true then hpS c t k (b.size : Int) ++ b else ⟨#[]⟩)) ∧ Below w.heap.size w w'
 name : ∀ (oi : Option Addr) (ci : Nat) (l : List (List AttrV)), l.length ≤ 8 → (∀ s ∈ l, s.length ≤ 8 ∧ ∀ a ∈ s, a.Small) → (∀ s ∈ l, ∀ a ∈ s, a.Fits) → l.length ≤ ci ∧ ci ≤ maxLen → ∀ w : World, Tab w → CameSets w oi l →
  Calls Tryz.prog 15 #[.slice oi l.length ci] w fun e w' => e = .returned (.tuple #[.string (nameS l), .bool (nameOk l)]) ∧ Below w.heap.size w w'
 exts : ∀ (ox : Option Addr) (cx : Nat) (l : List ExtV), l.length ≤ 10 → (∀ x ∈ l, x.Small) → l.length ≤ cx ∧ cx ≤ maxLen → ∀ w : World, Tab w → CameExts w ox l →
  Calls Tryz.prog 17 #[.slice ox l.length cx] w fun e w' => e = .returned (.tuple #[.string (extsS l), .bool (extsOk l)]) ∧ Below w.heap.size w w'
 tbs : ∀ (c : CrlV) (r : CrlR), c.Small → c.Fits → CrlCap c r → ∀ w : World, Tab w → CameCrl w c r →
  Calls Tryz.prog 13 #[crlV c r] w fun e w' => e = .returned (.tuple #[.string (tbsS c), .int .i64 (tbsE c)]) ∧ Below w.heap.size w w'
 encode : ∀ (c : CrlV) (r : CrlR), c.Small → c.Fits → CrlCap c r → ∀ w : World, Tab w → CameCrl w c r →
  Calls Tryz.prog 11 #[crlV c r] w fun e w' => e = .returned (.tuple #[.string (crlS c), .int .i64 (tbsE c)]) ∧ Below w.heap.size w w'
end Go.Proofs.YtiecbagejdcafaaGreatDoor
/- Layer 19's laws' awake: answers that the document fixes. -/
namespace Go.Proofs.YtiecbagejdcafaaGreatDoor
open Go.RowKit Go.PlainAid
set_option linter.unusedVariables false
def smallA : AttrV := ⟨[2, 5, 4, 3], 12, ⟨#[97]⟩⟩
def smallV : CrlV := ⟨true, [1, 2], [[smallA]], ⟨#[50, 48, 50, 52, 48, 49, 48, 49, 48, 48, 48, 48, 48, 48]⟩, ⟨#[]⟩, [], [], ⟨#[]⟩⟩
theorem came_row {W : World} {g : Nat} {t : TypeId} {l : List Value} (h : Row W g t l) : Came W (some ⟨g, 0, none⟩) l := fun j u hj => ⟨_, rfl, by rw [addr_at, h.cell, Nat.zero_add]; exact hj⟩
theorem infoCrl : (Tryz.prog.info? 27).map (·.size) = some 8 := by kernel_rfl
def crlC (c : CrlV) (r : CrlR) : List Value := [.bool c.v2, .slice r.oa c.alg.length r.ca, .slice r.oi c.issuer.length r.ci, .string c.this, .string c.next, .slice r.oe c.entries.length r.ce, .slice r.ox c.exts.length r.cx, .string c.sig]
theorem crl_load {W : World} {g : Nat} {c : CrlV} {r : CrlR} (h : Row W g 27 (crlC c r)) : (loadVar 27 ⟨g, 0, none⟩).run Tryz.prog W = .ok (crlV c r) W :=
 run_loadVar_mid _ _ 0 _ (crlC c r) _ h.whole Tryz.underlying27 rfl infoCrl
theorem came_set1 {W : World} {g3 g4 : Nat} {a : AttrV} {o2 : Option Addr} {c2 : Nat} (h4 : Row W g4 44 [.slice (some ⟨g3, 0, none⟩) 1 1]) (h3 : Row W g3 46 [.slice o2 a.oid.length c2, .int .i64 a.tag, .string a.text])
  (h2 : Came W o2 (ivs .u64 a.oid)) (hc : a.oid.length ≤ c2 ∧ c2 ≤ maxLen) : CameSets W (some ⟨g4, 0, none⟩) [[a]] := by
 intro i hi
 obtain rfl : i = 0 := by simpa using hi
 refine ⟨_, some ⟨g3, 0, none⟩, 1, rfl, ?_, ?_, (by show 1 ≤ 1; omega), (by unfold maxLen; omega)⟩
 ·rw [addr_at, h4.cell]; rfl
 ·intro k hk
  obtain rfl : k = 0 := by simpa using hk
  refine ⟨_, o2, c2, rfl, ?_, ?_, ?_, h2, hc⟩
  ·rw [addr_at, h3.cell]; rfl
  ·show W.cell? ⟨g3, 0 + 1, none⟩ = _; rw [h3.cell]; rfl
  ·show W.cell? ⟨g3, 0 + 2, none⟩ = _; rw [h3.cell]; rfl
set_option maxRecDepth 100000 in
set_option maxHeartbeats 8000000 in
theorem small19_any (w : World) :
  Calls Tryz.prog 22 #[] w fun e w' => ∃ r, e = .returned (crlV smallV r) ∧ CrlCap smallV r ∧ CameCrl w' smallV r ∧ Below w.heap.size w w' := by
 obtain ⟨r, hr⟩ : ∃ r : CrlR, r = ⟨some ⟨w.heap.size + 1, 0, none⟩, 2, some ⟨w.heap.size + 1 + 1 + 1 + 1, 0, none⟩, 1, none, 0, none, 0⟩ := ⟨_, rfl⟩
 obtain ⟨w1, h1⟩ : ∃ w1, w1 = w.alloc (.cells (crlC smallV r).toArray 27) := ⟨_, rfl⟩
 obtain ⟨w2, h2⟩ : ∃ w2, w2 = w1.alloc (.cells (ivs .u64 [1, 2]).toArray 51) := ⟨_, rfl⟩
 obtain ⟨w3, h3⟩ : ∃ w3, w3 = w2.alloc (.cells (ivs .u64 smallA.oid).toArray 51) := ⟨_, rfl⟩
 obtain ⟨w4, h4⟩ : ∃ w4, w4 = w3.alloc (.cells [Value.slice (some ⟨w2.heap.size, 0, none⟩) smallA.oid.length 4, .int .i64 smallA.tag, .string smallA.text].toArray 46) := ⟨_, rfl⟩
 obtain ⟨w5, h5⟩ : ∃ w5, w5 = w4.alloc (.cells [Value.slice (some ⟨w3.heap.size, 0, none⟩) 1 1].toArray 44) := ⟨_, rfl⟩
 have s1 : w1.heap.size = w.heap.size + 1 := by rw [h1]; simp
 have s2 : w2.heap.size = w.heap.size + 1 + 1 := by rw [h2]; simp [s1]
 have s3 : w3.heap.size = w.heap.size + 1 + 1 + 1 := by rw [h3]; simp [s2]
 have s4 : w4.heap.size = w.heap.size + 1 + 1 + 1 + 1 := by rw [h4]; simp [s3]
 have R0 : Row w5 w.heap.size 27 (crlC smallV r) := by rw [h5, h4, h3, h2, h1]; exact ((((Row.new w _ _).alloc _).alloc _).alloc _).alloc _
 have R1 : Row w5 w1.heap.size 51 (ivs .u64 [1, 2]) := by rw [h5, h4, h3, h2]; exact (((Row.new w1 _ _).alloc _).alloc _).alloc _
 have R2 : Row w5 w2.heap.size 51 (ivs .u64 smallA.oid) := by rw [h5, h4, h3]; exact ((Row.new w2 _ _).alloc _).alloc _
 have R3 : Row w5 w3.heap.size 46 [.slice (some ⟨w2.heap.size, 0, none⟩) smallA.oid.length 4, .int .i64 smallA.tag, .string smallA.text] := by rw [h5, h4]; exact (Row.new w3 _ _).alloc _
 have R4 : Row w5 w4.heap.size 44 [.slice (some ⟨w3.heap.size, 0, none⟩) 1 1] := by rw [h5]; exact Row.new w4 _ _
 have B : Below w.heap.size w w5 := by
  rw [h5, h4, h3, h2, h1]
  have b1 := (Below.refl w.heap.size w).alloc (Nat.le_refl _) (.cells (crlC smallV r).toArray 27)
  have b2 := b1.alloc b1.size (.cells (ivs .u64 [1, 2]).toArray 51)
  have b3 := b2.alloc b2.size (.cells (ivs .u64 smallA.oid).toArray 51)
  rw [← h1, ← h2, ← h3] at *
  have b4 := b3.alloc b3.size (.cells [Value.slice (some ⟨w2.heap.size, 0, none⟩) smallA.oid.length 4, .int .i64 smallA.tag, .string smallA.text].toArray 46)
  exact b4.alloc b4.size _
 have hcap : CrlCap smallV r := by rw [hr]; exact ⟨(show 2 ≤ 2 ∧ 2 ≤ maxLen by unfold maxLen; omega), (show 1 ≤ 1 ∧ 1 ≤ maxLen by unfold maxLen; omega), (show 0 ≤ 0 ∧ 0 ≤ maxLen by unfold maxLen; omega), (show 0 ≤ 0 ∧ 0 ≤ maxLen by unfold maxLen; omega)⟩
 have hcame : CameCrl w5 smallV r := by
  rw [hr]
  refine ⟨by rw [← s1]; exact came_row R1, ?_, fun i hi => absurd hi (Nat.not_lt_zero _), fun i hi => absurd hi (Nat.not_lt_zero _)⟩
  rw [← s4]
  exact came_set1 R4 R3 (came_row R2) (by decide +kernel)
 have HW : Hid (w5 = ((((w.alloc (.cells (crlC smallV r).toArray 27)).alloc (.cells (ivs .u64 [1, 2]).toArray 51)).alloc (.cells (ivs .u64 smallA.oid).toArray 51)).alloc (.cells [Value.slice (some ⟨w.heap.size + 1 + 1, 0, none⟩) smallA.oid.length 4, .int .i64 smallA.tag, .string smallA.text].toArray 46)).alloc (.cells [Value.slice (some ⟨w.heap.size + 1 + 1 + 1, 0, none⟩) 1 1].toArray 44)) := Lib.hid (by rw [← s3, ← s2, h5, h4, h3, h2, h1])
 have HR0 := Lib.hid R0
 have HF := Lib.hid (⟨hcap, hcame, B⟩ : CrlCap smallV r ∧ CameCrl w5 smallV r ∧ Below w.heap.size w w5)
 clear h1 h2 h3 h4 h5 s1 s2 s3 s4 R0 R1 R2 R3 R4 B hcap hcame
 have HRR := Lib.hid hr
 clear hr
 go_enter Tryz.func22, Tryz.ntmps22
 go_wp2_with fail
 have hw := HW.out
 rw [HRR.out] at hw
 refine (?_ : ∀ W, W = w5 → bodyPost _ _ _ _ _ W) _ hw.symm
 rintro _ rfl
 exact bodyPost_ret (results_cell Tryz.results22 _ (ad := ⟨w.heap.size, 0, none⟩) rfl (crl_load HR0.out)) rfl ⟨r, rfl, HF.out⟩
def extA : ExtV := ⟨[2, 5, 29, 20], false, ⟨#[2, 1, 1]⟩⟩
def extB : ExtV := ⟨[1, 2], false, ⟨#[]⟩⟩
theorem awk_exts : extsOk [extA] = true ∧ extsS [extA] = ⟨#[48, 12, 48, 10, 6, 3, 85, 29, 20, 4, 3, 2, 1, 1]⟩ := ⟨by decide +kernel, by decide +kernel⟩
theorem awk_good : tbsE smallV = 0 := by decide +kernel
theorem awk_bad : tbsE { smallV with this := ⟨#[50, 48, 50, 52]⟩ } = 7 := by decide +kernel
theorem awk_gram : tbsE { smallV with v2 := false, exts := [extB] } = 8 := by decide +kernel
theorem awk_elem : (if idOk 0 5 = true then hpS 0 5 false ((⟨#[]⟩ : ByteArray).size : Int) ++ ⟨#[]⟩ else ⟨#[]⟩) = (⟨#[5, 0]⟩ : ByteArray) := by decide +kernel
theorem came_ext1 {W : World} {g : Nat} {x : ExtV} {o2 : Option Addr} {c2 : Nat} (h : Row W g 53 [.slice o2 x.oid.length c2, .bool x.crit, .string x.val]) (h2 : Came W o2 (ivs .u64 x.oid)) (hc : x.oid.length ≤ c2 ∧ c2 ≤ maxLen) : CameExts W (some ⟨g, 0, none⟩) [x] := by
 intro k hk
 obtain rfl : k = 0 := by simpa using hk
 refine ⟨_, o2, c2, rfl, ?_, ?_, ?_, h2, hc⟩
 ·rw [addr_at, h.cell]; rfl
 ·show W.cell? ⟨g, 0 + 1, none⟩ = _; rw [h.cell]; rfl
 ·show W.cell? ⟨g, 0 + 2, none⟩ = _; rw [h.cell]; rfl
theorem inK_all {l : List Int} (h : (l.all fun y => decide (0 ≤ y ∧ y ≤ 1000)) = true) : ∀ y ∈ l, inK .u64 y := fun y hy => by
 have := of_decide_eq_true (List.all_eq_true.1 h y hy)
 show 0 ≤ y ∧ y ≤ 18446744073709551615
 omega
theorem extA_small : extA.Small := ⟨by decide, inK_all (by decide), by decide +kernel⟩
theorem extB_small : extB.Small := ⟨by decide, inK_all (by decide), by decide +kernel⟩
theorem smallA_small : smallA.Small := ⟨by decide, inK_all (by decide), by decide +kernel⟩
theorem smallA_fits : smallA.Fits := ⟨inK_all (by decide), (show -9223372036854775808 ≤ (12 : Int) ∧ (12 : Int) ≤ 9223372036854775807 by omega), by decide +kernel⟩
theorem extB_fits : extB.Fits := ⟨inK_all (by decide), by decide +kernel⟩
theorem nil_all {α : Type} {p : α → Prop} : ∀ x ∈ ([] : List α), p x := fun x h => absurd h List.not_mem_nil
theorem one_all {α : Type} {p : α → Prop} {a : α} (h : p a) : ∀ x ∈ [a], p x := fun x hx => by obtain rfl := List.mem_singleton.1 hx; exact h
theorem smallV_any {v2 : Bool} {t : ByteArray} {xs : List ExtV} (ht : t.size ≤ 50) (hx : xs.length ≤ 10) (hxs : ∀ x ∈ xs, x.Small) (hf : ∀ x ∈ xs, x.Fits) : CrlV.Small { smallV with v2 := v2, this := t, exts := xs } ∧ CrlV.Fits { smallV with v2 := v2, this := t, exts := xs } :=
  ⟨⟨(show 2 ≤ 20 by omega), inK_all (l := [1, 2]) (by decide), (show 1 ≤ 8 by omega), one_all ⟨(show 1 ≤ 8 by omega), one_all smallA_small⟩, ht, (show 0 ≤ 50 by omega), (show 0 ≤ 12 by omega), nil_all, hx, hxs, (show 0 ≤ 300 by omega)⟩,
   ⟨inK_all (l := [1, 2]) (by decide), one_all (one_all smallA_fits), by unfold maxLen; exact Nat.le_trans ht (by decide), Nat.zero_le _, nil_all, hf, Nat.zero_le _⟩⟩
theorem smallV_both : smallV.Small ∧ smallV.Fits := smallV_any (v2 := true) (t := smallV.this) (xs := []) (by decide +kernel) (Nat.zero_le _) nil_all nil_all
end Go.Proofs.YtiecbagejdcafaaGreatDoor
/- Layer 19's laws' awake: they answer. -/
namespace Go.Proofs.YtiecbagejdcafaaGreatDoor
open Go.RowKit Go.PlainAid
set_option linter.unusedVariables false
theorem small19_lit (w : World) :
  Calls Tryz.prog 22 #[] w fun e w' => ∃ r : CrlR, e = .returned (.agg #[.bool true, .slice r.oa 2 r.ca, .slice r.oi 1 r.ci, .string smallV.this, .string ⟨#[]⟩, .slice r.oe 0 r.ce, .slice r.ox 0 r.cx, .string ⟨#[]⟩]) ∧ CrlCap smallV r ∧ CameCrl w' smallV r ∧ Below w.heap.size w w' := small19_any w
set_option maxRecDepth 100000 in
set_option maxHeartbeats 16000000 in
theorem awake19_any (hE : EncSpec) (w : World) (hT : Tab w) : Calls Tryz.prog 9 #[] w fun e w' => e = .returned (.bool true) ∧ Below w.heap.size w w' := by
 obtain ⟨x1, h1⟩ : ∃ x1, x1 = w.alloc (.cells (ivs .u64 extA.oid).toArray 51) := ⟨_, rfl⟩
 obtain ⟨x2, h2⟩ : ∃ x2, x2 = x1.alloc (.cells [Value.slice (some ⟨w.heap.size, 0, none⟩) extA.oid.length 4, .bool extA.crit, .string extA.val].toArray 53) := ⟨_, rfl⟩
 have s1 : x1.heap.size = w.heap.size + 1 := by rw [h1]; simp
 have R1 : Row x2 w.heap.size 51 (ivs .u64 extA.oid) := by rw [h2, h1]; exact (Row.new w _ _).alloc _
 have R2 : Row x2 x1.heap.size 53 [.slice (some ⟨w.heap.size, 0, none⟩) extA.oid.length 4, .bool extA.crit, .string extA.val] := by rw [h2]; exact Row.new x1 _ _
 have hc1 : CameExts x2 (some ⟨w.heap.size + 1, 0, none⟩) [extA] := by rw [← s1]; exact came_ext1 R2 (came_row R1) (show 4 ≤ 4 ∧ 4 ≤ maxLen by unfold maxLen; omega)
 have HB2 : Hid (Below w.heap.size w x2) := Lib.hid (by
  have b := (Below.refl w.heap.size w).alloc (Nat.le_refl _) (.cells (ivs .u64 extA.oid).toArray 51)
  rw [h2, h1]; exact b.alloc b.size _)
 have HX := Lib.hid (hE.exts (some ⟨w.heap.size + 1, 0, none⟩) 1 [extA] (by decide) (one_all extA_small) (show 1 ≤ 1 ∧ 1 ≤ maxLen by unfold maxLen; omega) x2 (hT.on HB2.out) hc1)
 rw [awk_exts.1, awk_exts.2] at HX
 have HW : Hid (x2 = (w.alloc (.cells #[.int .u64 2, .int .u64 5, .int .u64 29, .int .u64 20] 51)).alloc (.cells #[Value.slice (some ⟨w.heap.size, 0, none⟩) 4 4, .bool false, .string ⟨#[2, 1, 1]⟩] 53)) := Lib.hid (by rw [h2, h1]; rfl)
 clear h1 h2 s1 R1 R2 hc1
 go_enter Tryz.func9, Tryz.ntmps9
 go_wp2_with fail
 rw [← HW.out]
 refine HX.out.mono ?_
 rintro e w1 ⟨rfl, hb⟩
 have HB := Lib.hid (HB2.out.trans (hb.mono HB2.out.size))
 clear HX hb HB2 HW
 go_wp2_with fail
 refine (hE.exts none 0 [] (Nat.zero_le _) nil_all ⟨Nat.le_refl _, Nat.zero_le _⟩ _ (hT.on HB.out) (fun i hi => absurd hi (Nat.not_lt_zero _))).mono ?_
 rintro e w2 ⟨rfl, hb⟩
 replace HB := Lib.hid (HB.out.trans (hb.mono HB.out.size))
 clear hb
 rw [show extsS [] = ⟨#[]⟩ from rfl, show extsOk [] = false from rfl]
 go_wp2_with fail
 refine (small19_lit _).mono ?_
 rintro e w3 ⟨r1, rfl, hcap1, hcame1, hb⟩
 replace HB := Lib.hid (HB.out.trans (hb.mono HB.out.size))
 clear hb
 have HE1 := Lib.hid (hE.encode smallV r1 smallV_both.1 smallV_both.2 hcap1 w3 (hT.on HB.out) hcame1)
 rw [awk_good] at HE1
 clear hcap1 hcame1
 generalize hCS : crlS smallV = CS at *
 have HCS := Lib.hid hCS
 clear hCS
 go_wp2_with fail
 refine HE1.out.mono ?_
 rintro e w4 ⟨rfl, hb⟩
 replace HB := Lib.hid (HB.out.trans (hb.mono HB.out.size))
 clear hb HE1
 go_wp2_with fail
 refine (small19_lit _).mono ?_
 rintro e w5 ⟨r2, rfl, hcap2, hcame2, hb⟩
 replace HB := Lib.hid (HB.out.trans (hb.mono HB.out.size))
 clear hb
 go_upto_region 5 with (fail)
 have HK5 : Hid (Row (w5.alloc (.cells #[Value.bool true, .slice r2.oa 2 r2.ca, .slice r2.oi 1 r2.ci, .string smallV.this, .string ⟨#[]⟩, .slice r2.oe 0 r2.ce, .slice r2.ox 0 r2.cx, .string ⟨#[]⟩] 27)) w5.heap.size 27 [Value.bool true, .slice r2.oa 2 r2.ca, .slice r2.oi 1 r2.ci, .string smallV.this, .string ⟨#[]⟩, .slice r2.oe 0 r2.ce, .slice r2.ox 0 r2.cx, .string ⟨#[]⟩]) := Lib.hid (Row.new w5 _ [Value.bool true, .slice r2.oa 2 r2.ca, .slice r2.oi 1 r2.ci, .string smallV.this, .string ⟨#[]⟩, .slice r2.oe 0 r2.ce, .slice r2.ox 0 r2.cx, .string ⟨#[]⟩])
 have HB5 : Hid (Below w5.heap.size w5 (w5.alloc (.cells #[Value.bool true, .slice r2.oa 2 r2.ca, .slice r2.oi 1 r2.ci, .string smallV.this, .string ⟨#[]⟩, .slice r2.oe 0 r2.ce, .slice r2.ox 0 r2.cx, .string ⟨#[]⟩] 27))) := Lib.hid ((Below.refl _ _).alloc (Nat.le_refl _) _)
 generalize (w5.alloc (.cells #[Value.bool true, .slice r2.oa 2 r2.ca, .slice r2.oi 1 r2.ci, .string smallV.this, .string ⟨#[]⟩, .slice r2.oe 0 r2.ce, .slice r2.ox 0 r2.cx, .string ⟨#[]⟩] 27)) = X5 at *
 have f3 := HK5.out.frozen 3
 have z3 : X5.cell? ⟨w5.heap.size, 3, none⟩ = some (.string smallV.this) := HK5.out.cell 3
 have HK6 : Hid (Row (X5.setCell ⟨w5.heap.size, 3, none⟩ (.string ⟨#[50, 48, 50, 52]⟩)) w5.heap.size 27 [Value.bool true, .slice r2.oa 2 r2.ca, .slice r2.oi 1 r2.ci, .string ⟨#[50, 48, 50, 52]⟩, .string ⟨#[]⟩, .slice r2.oe 0 r2.ce, .slice r2.ox 0 r2.cx, .string ⟨#[]⟩]) := Lib.hid (HK5.out.set 3 _)
 have HB6 : Hid (Below w5.heap.size w5 (X5.setCell ⟨w5.heap.size, 3, none⟩ (.string ⟨#[50, 48, 50, 52]⟩))) := Lib.hid (HB5.out.setCell (Nat.le_refl _) _)
 go_upto_region 6 with (fail)
 generalize (X5.setCell ⟨w5.heap.size, 3, none⟩ (.string ⟨#[50, 48, 50, 52]⟩)) = X6 at *
 clear f3 z3 HK5 HB5
 have z0 : X6.cell? ⟨w5.heap.size, 0, none⟩ = some (Value.bool true) := HK6.out.cell 0
 have z1 : X6.cell? ⟨w5.heap.size, 1, none⟩ = some (.slice r2.oa 2 r2.ca) := HK6.out.cell 1
 have z2 : X6.cell? ⟨w5.heap.size, 2, none⟩ = some (.slice r2.oi 1 r2.ci) := HK6.out.cell 2
 have z3 : X6.cell? ⟨w5.heap.size, 3, none⟩ = some (.string ⟨#[50, 48, 50, 52]⟩) := HK6.out.cell 3
 have z4 : X6.cell? ⟨w5.heap.size, 4, none⟩ = some (.string ⟨#[]⟩) := HK6.out.cell 4
 have z5 : X6.cell? ⟨w5.heap.size, 5, none⟩ = some (.slice r2.oe 0 r2.ce) := HK6.out.cell 5
 have z6 : X6.cell? ⟨w5.heap.size, 6, none⟩ = some (.slice r2.ox 0 r2.cx) := HK6.out.cell 6
 have z7 : X6.cell? ⟨w5.heap.size, 7, none⟩ = some (.string ⟨#[]⟩) := HK6.out.cell 7
 have hsm := smallV_any (v2 := true) (t := ⟨#[50, 48, 50, 52]⟩) (xs := []) (by decide +kernel) (Nat.zero_le _) nil_all nil_all
 have HT := Lib.hid (hE.tbs { smallV with this := ⟨#[50, 48, 50, 52]⟩ } r2 hsm.1 hsm.2 ⟨hcap2.a, hcap2.i, hcap2.e, hcap2.x⟩ X6 (hT.on (HB.out.trans (HB6.out.mono HB.out.size))) ⟨(hcame2.below HB6.out).alg, (hcame2.below HB6.out).sets, (hcame2.below HB6.out).entries, (hcame2.below HB6.out).exts⟩)
 rw [awk_bad] at HT
 clear hsm hcap2 hcame2
 generalize tbsS { smallV with this := ⟨#[50, 48, 50, 52]⟩ } = T6 at *
 go_wp2_with fail
 refine HT.out.mono ?_
 rintro e w6 ⟨rfl, hb⟩
 replace HB := Lib.hid ((HB.out.trans (HB6.out.mono HB.out.size)).trans (hb.mono (HB.out.trans (HB6.out.mono HB.out.size)).size))
 clear hb HT HB6 HK6 z0 z1 z2 z3 z4 z5 z6 z7
 go_wp2_with fail
 refine (small19_lit _).mono ?_
 rintro e w7 ⟨r3, rfl, hcap3, hcame3, hb⟩
 replace HB := Lib.hid (HB.out.trans (hb.mono HB.out.size))
 clear hb
 go_upto_region 8 with (fail)
 have HK7 : Hid (Row (w7.alloc (.cells #[Value.bool true, .slice r3.oa 2 r3.ca, .slice r3.oi 1 r3.ci, .string smallV.this, .string ⟨#[]⟩, .slice r3.oe 0 r3.ce, .slice r3.ox 0 r3.cx, .string ⟨#[]⟩] 27)) w7.heap.size 27 [Value.bool true, .slice r3.oa 2 r3.ca, .slice r3.oi 1 r3.ci, .string smallV.this, .string ⟨#[]⟩, .slice r3.oe 0 r3.ce, .slice r3.ox 0 r3.cx, .string ⟨#[]⟩]) := Lib.hid (Row.new w7 _ [Value.bool true, .slice r3.oa 2 r3.ca, .slice r3.oi 1 r3.ci, .string smallV.this, .string ⟨#[]⟩, .slice r3.oe 0 r3.ce, .slice r3.ox 0 r3.cx, .string ⟨#[]⟩])
 have HB7 : Hid (Below w7.heap.size w7 (w7.alloc (.cells #[Value.bool true, .slice r3.oa 2 r3.ca, .slice r3.oi 1 r3.ci, .string smallV.this, .string ⟨#[]⟩, .slice r3.oe 0 r3.ce, .slice r3.ox 0 r3.cx, .string ⟨#[]⟩] 27))) := Lib.hid ((Below.refl _ _).alloc (Nat.le_refl _) _)
 generalize (w7.alloc (.cells #[Value.bool true, .slice r3.oa 2 r3.ca, .slice r3.oi 1 r3.ci, .string smallV.this, .string ⟨#[]⟩, .slice r3.oe 0 r3.ce, .slice r3.ox 0 r3.cx, .string ⟨#[]⟩] 27)) = X7 at *
 have f0 := HK7.out.frozen 0
 have z0 : X7.cell? ⟨w7.heap.size, 0, none⟩ = some (.bool true) := HK7.out.cell 0
 have HK8 : Hid (Row (X7.setCell ⟨w7.heap.size, 0, none⟩ (.bool false)) w7.heap.size 27 [Value.bool false, .slice r3.oa 2 r3.ca, .slice r3.oi 1 r3.ci, .string smallV.this, .string ⟨#[]⟩, .slice r3.oe 0 r3.ce, .slice r3.ox 0 r3.cx, .string ⟨#[]⟩]) := Lib.hid (HK7.out.set 0 _)
 have HB8 : Hid (Below w7.heap.size w7 (X7.setCell ⟨w7.heap.size, 0, none⟩ (.bool false))) := Lib.hid (HB7.out.setCell (Nat.le_refl _) _)
 go_upto_region 9 with (fail)
 generalize (X7.setCell ⟨w7.heap.size, 0, none⟩ (.bool false)) = X8 at *
 clear f0 z0 HK7 HB7
 have hlt := HK8.out.lt
 obtain ⟨X9, g0⟩ : ∃ X9, X9 = (X8.setCell ⟨w7.heap.size, 6, none⟩ (.slice (some ⟨X8.heap.size + 1, 0, none⟩) 1 1)) := ⟨_, rfl⟩
 obtain ⟨y1, g1⟩ : ∃ y1, y1 = X9.alloc (.cells (ivs .u64 extB.oid).toArray 51) := ⟨_, rfl⟩
 obtain ⟨y2, g2⟩ : ∃ y2, y2 = y1.alloc (.cells [Value.slice (some ⟨X8.heap.size, 0, none⟩) extB.oid.length 2, .bool extB.crit, .string extB.val].toArray 53) := ⟨_, rfl⟩
 have s0 : X9.heap.size = X8.heap.size := by rw [g0]; simp
 have s1 : y1.heap.size = X8.heap.size + 1 := by rw [g1]; simp [s0]
 have R1 : Row y2 X9.heap.size 51 (ivs .u64 extB.oid) := by rw [g2, g1]; exact (Row.new X9 _ _).alloc _
 have R2 : Row y2 y1.heap.size 53 [.slice (some ⟨X8.heap.size, 0, none⟩) extB.oid.length 2, .bool extB.crit, .string extB.val] := by rw [g2]; exact Row.new y1 _ _
 have HR9 : Hid (Row y2 w7.heap.size 27 [Value.bool false, .slice r3.oa 2 r3.ca, .slice r3.oi 1 r3.ci, .string smallV.this, .string ⟨#[]⟩, .slice r3.oe 0 r3.ce, .slice (some ⟨X8.heap.size + 1, 0, none⟩) 1 1, .string ⟨#[]⟩]) := Lib.hid (by rw [g2, g1, g0]; exact ((HK8.out.set 6 _).alloc _).alloc _)
 have HB9 : Hid (Below w7.heap.size w7 y2) := Lib.hid (by
  have b0 := HB8.out.setCell (p := ⟨w7.heap.size, 6, none⟩) (Nat.le_refl _) (.slice (some ⟨X8.heap.size + 1, 0, none⟩) 1 1)
  rw [← g0] at b0
  have b := b0.alloc b0.size (.cells (ivs .u64 extB.oid).toArray 51)
  rw [g2, g1]; exact b.alloc b.size _)
 have HX9 : Hid (CameExts y2 (some ⟨X8.heap.size + 1, 0, none⟩) [extB]) := Lib.hid (by
  rw [s1] at R2
  rw [s0] at R1
  exact came_ext1 R2 (came_row R1) (show 2 ≤ 2 ∧ 2 ≤ maxLen by unfold maxLen; omega))
 have HW : Hid (y2 = ((X8.setCell ⟨w7.heap.size, 6, none⟩ (.slice (some ⟨X8.heap.size + 1, 0, none⟩) 1 1)).alloc (.cells #[.int .u64 1, .int .u64 2] 51)).alloc (.cells #[Value.slice (some ⟨X8.heap.size, 0, none⟩) 2 2, .bool false, .string ⟨#[]⟩] 53)) := Lib.hid (by rw [g2, g1, g0]; rfl)
 have RQ8 := (HK8.out.alloc (.cells #[.int .u64 1, .int .u64 2] 51)).alloc (.cells #[Value.slice (some ⟨X8.heap.size, 0, none⟩) 2 2, .bool false, .string ⟨#[]⟩] 53)
 have q6 : ((X8.alloc (.cells #[.int .u64 1, .int .u64 2] 51)).alloc (.cells #[Value.slice (some ⟨X8.heap.size, 0, none⟩) 2 2, .bool false, .string ⟨#[]⟩] 53)).cell? ⟨w7.heap.size, 6, none⟩ = some (.slice r3.ox 0 r3.cx) := RQ8.cell 6
 have f6 := RQ8.frozen 6
 clear g0 g1 g2 s0 s1 R1 R2 HB8 HK8 RQ8
 go_upto_region 10 with (fail)
 rw [← HW.out]
 clear HW q6 f6
 have z0 : y2.cell? ⟨w7.heap.size, 0, none⟩ = some (Value.bool false) := HR9.out.cell 0
 have z1 : y2.cell? ⟨w7.heap.size, 1, none⟩ = some (.slice r3.oa 2 r3.ca) := HR9.out.cell 1
 have z2 : y2.cell? ⟨w7.heap.size, 2, none⟩ = some (.slice r3.oi 1 r3.ci) := HR9.out.cell 2
 have z3 : y2.cell? ⟨w7.heap.size, 3, none⟩ = some (.string smallV.this) := HR9.out.cell 3
 have z4 : y2.cell? ⟨w7.heap.size, 4, none⟩ = some (.string ⟨#[]⟩) := HR9.out.cell 4
 have z5 : y2.cell? ⟨w7.heap.size, 5, none⟩ = some (.slice r3.oe 0 r3.ce) := HR9.out.cell 5
 have z6 : y2.cell? ⟨w7.heap.size, 6, none⟩ = some (.slice (some ⟨X8.heap.size + 1, 0, none⟩) 1 1) := HR9.out.cell 6
 have z7 : y2.cell? ⟨w7.heap.size, 7, none⟩ = some (.string ⟨#[]⟩) := HR9.out.cell 7
 have hsm := smallV_any (v2 := false) (t := smallV.this) (xs := [extB]) (by decide +kernel) (by decide) (one_all extB_small) (one_all extB_fits)
 have HT := Lib.hid (hE.tbs { smallV with v2 := false, exts := [extB] } { r3 with ox := some ⟨X8.heap.size + 1, 0, none⟩, cx := 1 } hsm.1 hsm.2 ⟨hcap3.a, hcap3.i, hcap3.e, (show 1 ≤ 1 ∧ 1 ≤ maxLen by unfold maxLen; omega)⟩ y2 (hT.on (HB.out.trans (HB9.out.mono HB.out.size))) ⟨(hcame3.below HB9.out).alg, (hcame3.below HB9.out).sets, (hcame3.below HB9.out).entries, HX9.out⟩)
 rw [awk_gram] at HT
 clear hsm hcap3 hcame3 HX9
 generalize tbsS { smallV with v2 := false, exts := [extB] } = T8 at *
 go_wp2_with fail
 refine HT.out.mono ?_
 rintro e w8 ⟨rfl, hb⟩
 replace HB := Lib.hid ((HB.out.trans (HB9.out.mono HB.out.size)).trans (hb.mono (HB.out.trans (HB9.out.mono HB.out.size)).size))
 clear hb HT HB9 HR9 z0 z1 z2 z3 z4 z5 z6 z7
 go_wp2_with fail
 refine (small19_lit _).mono ?_
 rintro e w9 ⟨r4, rfl, hcap4, hcame4, hb⟩
 replace HB := Lib.hid (HB.out.trans (hb.mono HB.out.size))
 clear hb
 have HE2 := Lib.hid (refEncode_any smallV r4 smallV_both.1 hcap4 w9 hcame4)
 rw [awk_good, HCS.out] at HE2
 clear hcap4 hcame4
 go_wp2_with fail
 refine HE2.out.mono ?_
 rintro e w10 ⟨rfl, hb⟩
 replace HB := Lib.hid (HB.out.trans (hb.mono HB.out.size))
 clear hb HE2
 have HL := Lib.hid (hE.element 0 5 false 0 ⟨#[]⟩ (by unfold InI; omega) (by unfold InI; omega) (Nat.zero_le _) w10)
 rw [awk_elem] at HL
 go_wp2_with fail
 refine HL.out.mono ?_
 rintro e w11 ⟨rfl, hb⟩
 replace HB := Lib.hid (HB.out.trans (hb.mono HB.out.size))
 clear hb HL
 go_wp2
 go_returns
 exact ⟨rfl, HB.out⟩
end Go.Proofs.YtiecbagejdcafaaGreatDoor
