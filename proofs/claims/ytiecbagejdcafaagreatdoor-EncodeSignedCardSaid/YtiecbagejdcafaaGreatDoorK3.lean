/- What number's Put and Get give: the landed code's contracts. Of every value and every text. -/
import Derived.Test.YtiecbagejdcafaaGreatDoorN1
import Derived.Test.YtiecbagejdcafaaGreatDoorK2
import Derived.Laws.BytesArg
import Derived.Handy
import Derived.Deep.RegionWith
import Derived.Deep.RegionHeld3
namespace Go.Proofs.YtiecbagejdcafaaGreatDoor
open Go.RowKit Go.PlainAid
set_option linter.unusedVariables false
theorem i8_wrap (m : Int) : IntKind.i8.wrap m = (m + 128) % 256 - 128 := by
 simp only [IntKind.wrap, IntKind.bits, IntKind.signed]; simp <;> omega
theorem i8_small {m : Int} (h : -128 ≤ m ∧ m ≤ 127) : (m != wrap64 (IntKind.i8.wrap m)) = false := by
 rw [i8_wrap, show wrap64 ((m + 128) % 256 - 128) = m by unfold wrap64; omega]; simp
theorem i8_big {m : Int} (h : ¬ (-128 ≤ m ∧ m ≤ 127)) : (m != wrap64 (IntKind.i8.wrap m)) = true := by
 have : m ≠ wrap64 ((m + 128) % 256 - 128) := by unfold wrap64; omega
 rw [i8_wrap]; simpa using this
theorem len8 : Tryz.prog.arrayLen 119 = 8 := by kernel_rfl
theorem elem8 : Tryz.prog.elem 119 = 5 := by kernel_rfl
theorem rest8 (g r : Nat) (hr : r ≤ 7) (w : World) : (Instr.sliceAt 119 (.pointer (some ⟨g, 0, none⟩)) (some (.int .i64 (r : Int))) none none).run Tryz.prog w = .ok (.slice (some ⟨g, r, none⟩) (8 - r) (8 - r)) w := by
 rw [run_sliceAt_array_l (ht := by rw [len8, elem8]; exact Tryz.underlying119) (h0 := by omega) (h1 := by rw [len8]; omega), elem8, Tryz.sizeOf5, len8]
 simp only [Result.andThen_ok, slicedAt, Int.toNat_natCast]
 rw [if_neg (by omega), Nat.mul_one, addr0]
set_option maxHeartbeats 1600000 in
theorem numPut_any (n : Int) (hn : -9223372036854775808 ≤ n ∧ n ≤ 9223372036854775807) (w : World) :
  Calls Tryz.prog 53 #[.int .i64 n] w fun e w' => e = .returned (.string (strOfNums (hiI n))) ∧ Below w.heap.size w w' := by
 obtain ⟨n0, n1⟩ := hn
 go_enter Tryz.func53, Tryz.ntmps53
 go_wp2
 go_loopw [0, 4] (fun mv iv wr => ∃ (m : Int) (k : Nat) (T L : List Int), mv = .int .i64 m ∧ iv = .int .i64 (k : Int) ∧ (-9223372036854775808 ≤ m ∧ m ≤ 9223372036854775807) ∧ k ≤ 7 ∧ Hid ((loI m).length ≤ k + 1) ∧ Hid (hiI m ++ T = hiI n) ∧ Hid (L.drop k = m % 256 :: T) ∧ Hid (L.length = 8) ∧ Hid (Row wr w.heap.size 119 (u8s L)) ∧ Hid (Below w.heap.size w wr)) (fun _ iv _ => (intOf iv).toNat)
 case atStart => exact ⟨n, 7, [], [0, 0, 0, 0, 0, 0, 0, n % 256], rfl, rfl, ⟨n0, n1⟩, by decide, Lib.hid (loI_le8 ⟨n0, n1⟩), Lib.hid (by simp), Lib.hid rfl, Lib.hid rfl, Lib.hid (Row.new w 119 (u8s [0, 0, 0, 0, 0, 0, 0, n % 256])), Lib.hid (by go_grown)⟩
 case round =>
  obtain ⟨m, k, T, L, rfl, rfl, ⟨m0, m1⟩, hk, HK, HT, HD, HL, HR, HB⟩ := hrel
  by_cases hs : -128 ≤ m ∧ m ≤ 127
  ·have hne := i8_small hs
   have HF : Hid (hiI n = L.drop k) := Lib.hid (by rw [HD.out, ← HT.out, hiI_small hs]; rfl)
   have hsl := rest8 w.heap.size k hk wr
   have hcv := run_convert_bytes_arg (P := Tryz.prog) wr 83 5 Tryz.underlying83 Tryz.underlying5 w.heap.size k (8 - k) (8 - k) (L.drop k) (by rw [List.length_drop, HL.out]) (fun i hi => by
    have hlt : k + i < L.length := by rw [HL.out]; omega
    rw [HR.out.cell (k + i), u8s_at hlt]
    simp [List.getD, hlt]) 9 Tryz.underlying9
   rw [← HF.out] at hcv
   go_wp2
   go_returns
   exact ⟨rfl, HB.out⟩
  ·have hne := i8_big hs
   obtain ⟨j, rfl⟩ : ∃ j, k = j + 1 := ⟨k - 1, by have h1 := HK.out; have h2 := loI_ge1 (m / 256); rw [loI_big hs, List.length_cons] at h1; omega⟩
   have hj : j < L.length := by rw [HL.out]; omega
   have h0 := (HR.out.cell j).trans (u8s_at hj)
   have f0 := HR.out.frozen j
   go_wp2
   go_roundw
   case rel =>
    refine ⟨m / 256, j, m % 256 :: T, L.set j (m / 256 % 256), by simp, by simp, by omega, by omega, Lib.hid (by have := HK.out; rw [loI_big hs, List.length_cons] at this; omega), Lib.hid (by rw [← HT.out, hiI_big hs]; simp), Lib.hid ?_, Lib.hid (by rw [List.length_set]; exact HL.out), Lib.hid ?_, Lib.hid (HB.out.setCell (Nat.le_refl _) _)⟩
    ·rw [← HD.out, List.drop_eq_getElem_cons (by rw [List.length_set]; exact hj), List.getElem_set_self, List.drop_set_of_lt (by omega)]
    ·have := HR.out.set j (.int .u8 (m / 256 % 256))
     rwa [show (u8s L).set j (.int .u8 (m / 256 % 256)) = u8s (L.set j (m / 256 % 256)) by simp [u8s, List.map_set]] at this
   case measure => simp [intOf]
theorem row_keptN {a W w5 : World} {g : Nat} {t : TypeId} {l : List Value} (hb : Below W.heap.size W w5) (hR : Row a g t l) (hd : W.heap = a.heap) : Row w5 g t l := by
 have h : Row W g t l := by unfold Row; rw [hd]; exact hR
 exact h.below hb h.lt
theorem num_kept {a W w5 : World} {g : Nat} {x : Int} (hb : Below W.heap.size W w5) (hR : Row a g 154 [.int .u8 x]) (hd : W.heap = a.heap) : w5.cell? ⟨g, 0, none⟩ = some (.int .u8 x) ∧ w5.frozen? ⟨g, 0, none⟩ = false :=
 ⟨(row_keptN hb hR hd).cell 0, (row_keptN hb hR hd).frozen 0⟩
theorem below_keptN {o a W w5 : World} (hb : Below W.heap.size W w5) (hB : Below o.heap.size o a) (hd : W.heap = a.heap) (h1 : W.os = a.os) (h2 : W.tape = a.tape) (h3 : W.output = a.output) : Below o.heap.size o w5 := by
 have h : Below o.heap.size o W := ⟨h1.trans hB.os, h2.trans hB.tape, h3.trans hB.output, by rw [hd]; exact hB.size, by intro k hk; rw [hd]; exact hB.block k hk⟩
 exact h.trans (hb.mono h.size)
end Go.Proofs.YtiecbagejdcafaaGreatDoor
/- Package encode in the landed code: an entry, entries. Within the sizes that layer 19's statements name. -/
namespace Go.Proofs.YtiecbagejdcafaaGreatDoor
open Go.RowKit Go.PlainAid
set_option linter.unusedVariables false
set_option maxRecDepth 100000 in
set_option maxHeartbeats 8000000 in
theorem encIsInt_any (b : ByteArray) (hb : b.size ≤ maxLen) (w : World) :
  Calls Tryz.prog 80 #[.string b] w fun e w' => e = .returned (.bool (numOk (bl b))) ∧ Below w.heap.size w w' := by
 have hb9 : (b.size : Int) ≤ 9223372036854775807 := by unfold maxLen at hb; omega
 have HW := Lib.hid (numOk_wrong b)
 have HX0 := Lib.hid (bt_nonneg b)
 have HX1 := Lib.hid (bt_le b)
 have HGB := Lib.hid (get_bt b)
 have HST := Lib.hid (fun (i : Nat) (z : Int) hok hi hk hx hy h0 => nm_step 2 b.size b.size i (bt b 0) (bt b 1) z hok hi hk hx hy h0)
 have HOK := Lib.hid (nmOk_iff 2 b.size b.size (bt b 0) (bt b 1))
 have HRG := Lib.hid (And.intro (nW_range 2 b.size b.size (bt b 0) (bt b 1)) (nW_len 2 b.size b.size (bt b 0) (bt b 1)))
 have HAR := Lib.hid (nmAt_range 2 (bt b 0))
 unfold nmWrong at HW
 generalize hat : nW 2 (b.size : Int) b.size (bt b 0) (bt b 1) = at_ at *
 have HS := Lib.hid (nmStart_any 2 b.size)
 have HF0 : Hid (∀ ok, nmOk 2 b.size = ok → 0 ≤ (if ok = true then nmFirst 2 else 0) ∧ (if ok = true then nmFirst 2 else 0) ≤ 5 ∧ (ok = true → nmOk 2 b.size = true ∧ (if ok = true then nmFirst 2 else 0) = nmAt 2 (bt b 0) 0 ∧ ¬ (0 ≤ at_ ∧ at_ ≤ 0)) ∧ (ok = false → at_ ≠ -1)) := Lib.hid (by
  intro ok h
  have h2 := HOK.out
  rw [h] at h2
  cases ok
  ·simp; simp at h2; omega
  ·simp [nmFirst, nmAt]; simp at h2; exact ⟨h, by omega⟩)
 generalize hok : nmOk 2 b.size = ok0 at *
 have HF1 := Lib.hid (HF0.out ok0 rfl)
 clear HF0
 generalize (if ok0 = true then nmFirst 2 else 0) = s0 at *
 go_enter Tryz.func80, Tryz.ntmps80
 go_wp2_with fail
 refine (HS.out _).mono ?_
 rintro e w1 ⟨rfl, hB1⟩
 go_wp2
 go_loopw [4, 5] (fun ov iv wr => ∃ (ok : Bool) (i : Nat) (s : Int), ov = .bool ok ∧ iv = .int .i64 (i : Int) ∧ i ≤ b.size ∧ (0 ≤ s ∧ s ≤ 5) ∧ Hid (Row wr w1.heap.size 154 [.int .u8 s]) ∧ Hid (Below w.heap.size w wr) ∧ Hid (ok = true → ok0 = true ∧ s = nmAt 2 (bt b 0) i ∧ ¬ (0 ≤ at_ ∧ at_ ≤ (i : Int))) ∧ Hid (ok = false → at_ ≠ -1)) (fun _ iv _ => b.size - (intOf iv).toNat)
 case atStart => exact ⟨ok0, 0, s0, rfl, rfl, by omega, ⟨HF1.out.1, HF1.out.2.1⟩, Lib.hid (Row.new w1 154 _), Lib.hid (hB1.alloc hB1.size _), Lib.hid HF1.out.2.2.1, Lib.hid HF1.out.2.2.2⟩
 case round =>
  obtain ⟨ok, i, s, rfl, rfl, hi, ⟨s0, s1⟩, HR, HB, HT, HN⟩ := hrel
  cases ok
  ·have HF : Hid (false = numOk (bl b)) := Lib.hid (by have h1 := HW.out; have h2 := HN.out rfl; cases hn : numOk (bl b); rfl; exact absurd (h1.1 hn) h2)
   go_wp2
   go_returns
   exact ⟨rets1 (congrArg Value.bool HF.out), HB.out⟩
  ·by_cases hlt : i < b.size
   ·have hbt := HGB.out i hlt
    have hx0 := HX0.out i
    have hx1 := HX1.out i
    obtain ⟨x, hX⟩ : ∃ x, bt b i = x := ⟨_, rfl⟩
    rw [hX] at hbt hx0 hx1
    have HX := Lib.hid hX
    have HP := Lib.hid (nmPush_any s x ⟨s0, s1⟩ ⟨hx0, hx1⟩)
    have HSP : Hid (0 ≤ (nmPush s x).1 ∧ (nmPush s x).1 ≤ 5 ∧ ((nmPush s x).2 = true → ok0 = true ∧ (nmPush s x).1 = nmAt 2 (bt b 0) (i + 1) ∧ ¬ (0 ≤ at_ ∧ at_ ≤ ((i + 1 : Nat) : Int))) ∧ ((nmPush s x).2 = false → at_ ≠ -1)) := Lib.hid (by
     obtain ⟨t1, t2, t3⟩ := HT.out rfl
     have h := HST.out i x t1 hlt (Int.le_refl _) (by rintro rfl; exact hX.symm) (by rintro rfl; exact hX.symm) t3
     have hr := HAR.out (i + 1)
     rw [← t2] at h
     rw [h]
     split
     ·exact ⟨by decide, by decide, (by intro h; cases h), (by intro _; omega)⟩
     ·exact ⟨hr.1, hr.2, (fun _ => ⟨t1, rfl, by omega⟩), (by intro h; cases h)⟩)
    have h0 := HR.out.cell 0
    have f0 := HR.out.frozen 0
    have hls := HR.out.lt
    clear hX
    generalize nmPush s x = p at *
    obtain ⟨s', ok'⟩ := p
    simp only at HP HSP
    go_wp2
    go_region_with (go_at_call 106; refine (HP.out _).mono ?_; rintro e w5 ⟨rfl, hb5⟩; obtain ⟨hc5, hf5⟩ := num_kept hb5 HR.out rfl)
    all_goals
     have HR5 := Lib.hid ((row_keptN hb5 HR.out rfl).set 0 (.int .u8 s'))
     have HB5 := Lib.hid ((below_keptN hb5 HB.out rfl rfl rfl rfl).setCell (p := ⟨w1.heap.size, 0, none⟩) hB1.size (.int .u8 s'))
     clear hb5 hc5 hf5 h0 f0 hls
     go_wp2
     go_roundw
     case rel => exact ⟨ok', i + 1, s', rfl, by simp, by omega, ⟨HSP.out.1, HSP.out.2.1⟩, HR5, HB5, Lib.hid HSP.out.2.2.1, Lib.hid HSP.out.2.2.2⟩
     case measure => simp [intOf]; omega
   ·have HF : Hid (true = numOk (bl b)) := Lib.hid (by have h1 := HW.out; have h2 := HT.out rfl; have h3 := HRG.out; exact (h1.2 (by omega)).symm)
    have hne : ¬ (i : Int) < (b.size : Int) := by omega
    go_wp2
    go_returns
    exact ⟨rets1 (congrArg Value.bool HF.out), HB.out⟩
theorem serOk_is (s : ByteArray) : serOk s = numOk (bl s) := by
 unfold serOk
 rw [Bool.eq_iff_iff, decide_eq_true_iff]
 constructor
 ·rintro ⟨_, h⟩; exact (numOk_wrong s).2 h
 ·intro h
  have h1 := (numOk_iff.1 h).1
  rw [bl_length] at h1
  exact ⟨by omega, (numOk_wrong s).1 h⟩
theorem entS_le (x : EntryV) (hs : x.Small) : (entryS x).size ≤ 4701 := by
 unfold entryS
 split
 ·rename_i h; rw [encS_size]; exact entryF_len hs h
 ·exact Nat.zero_le _
theorem extsS_le (l : List ExtV) (hl : l.length ≤ 10) (hs : ∀ x ∈ l, x.Small) : (extsS l).size ≤ 4584 := by
 unfold extsS
 split
 ·rename_i h; rw [encS_size]; exact extsF_len hl hs h
 ·exact Nat.zero_le _
theorem ent_end (x : EntryV) (hs : x.Small) (m : ByteArray) (hm : m = if x.exts.isEmpty = true then ⟨#[]⟩ else extsS x.exts) : seqS (!entryOk x) (encS (lf 2 (bl x.serial)) ++ momS x.date ++ m) = entryS x := by
 unfold entryS
 cases h : entryOk x with
 |false => show seqS true _ = _; unfold seqS; rw [if_pos rfl, if_neg (by decide)]
 |true =>
  obtain ⟨h1, h2, h3⟩ := entryOk_iff.1 h
  have hm2 : m = encS (if x.exts.isEmpty = true then .nil else extsF x.exts) := by
   rw [hm]
   split
   ·rfl
   ·rename_i he
    unfold extsS
    rw [if_pos (some_exts h3 he)]
  have hj : encS (lf 2 (bl x.serial)) ++ momS x.date ++ m = encS (.leaf 0 2 (bl x.serial) ((dateF x.date).app (if x.exts.isEmpty = true then .nil else extsF x.exts))) := by
   rw [hm2, momS_ok h2, encS_leaf, encS_app, ByteArray.append_assoc]
  have hk := entryF_len hs h
  have hk2 : (encS (.leaf 0 2 (bl x.serial) ((dateF x.date).app (if x.exts.isEmpty = true then .nil else extsF x.exts)))).size ≤ 10000 := by
   rw [← hj, ByteArray.size_append, ByteArray.size_append]
   have := lf_size (t := 2) (by decide) (by decide) x.serial (by have := hs.serial; omega)
   have := momS_le x.date
   have := hs.serial
   have : m.size ≤ 4584 := by
    rw [hm]
    split
    ·exact Nat.zero_le _
    ·exact extsS_le _ hs.many hs.exts
   omega
  show seqS false _ = _
  rw [if_pos rfl, hj]
  exact seqS_ok _ (by omega)
set_option maxRecDepth 100000 in
set_option maxHeartbeats 8000000 in
theorem encEntry_any (x : EntryV) (oo : Option Addr) (co : Nat) (hs : x.Small) (hcap : x.exts.length ≤ co ∧ co ≤ maxLen) (w : World) (hT : Tab w) (hc : CameExts w oo x.exts) :
  Calls Tryz.prog 56 #[.agg #[.string x.serial, .string x.date, .slice oo x.exts.length co]] w fun e w' => e = .returned (.tuple #[.string (entryS x), .bool (entryOk x)]) ∧ Below w.heap.size w w' := by
 have HX := Lib.hid (fun W (hb : Below w.heap.size w W) => encExts_any oo co x.exts hs.many hs.exts hcap W (hc.below hb))
 have HM := Lib.hid (fun W (hb : Below w.heap.size w W) => encMom_any x.date (by have := hs.date; omega) W (hT.on hb))
 have HI := Lib.hid (encIsInt_any x.serial (by have := hs.serial; unfold maxLen; omega))
 have HL := Lib.hid (encPrim_lf 2 x.serial (by decide) (by have := hs.serial; omega))
 have HOK : Hid (entryOk x = (numOk (bl x.serial) && wOk x.date && (x.exts.isEmpty || extsOk x.exts))) := Lib.hid (by unfold entryOk; rw [serOk_is])
 have HE := Lib.hid (ent_end x hs)
 have s1 := lf_size (t := 2) (by decide) (by decide) x.serial (by have := hs.serial; omega)
 have s1' := hs.serial
 have s2 := momS_le x.date
 have s3 := extsS_le x.exts hs.many hs.exts
 have hm9 : (x.exts.length : Int) ≤ 10 := by have := hs.many; omega
 have HEM : Hid (x.exts.length = 0 → x.exts.isEmpty = true) := Lib.hid (fun h => by rw [List.length_eq_zero_iff.1 h]; rfl)
 have HNE : Hid (x.exts.length ≠ 0 → x.exts.isEmpty = false) := Lib.hid (fun h => by cases hx : x.exts with | nil => rw [hx] at h; exact absurd rfl h | cons _ _ => rfl)
 obtain ⟨ser, dat, exs⟩ := x
 dsimp only at *
 clear hc hs hcap hT
 generalize entryOk ⟨ser, dat, exs⟩ = EOK at *
 generalize entryS ⟨ser, dat, exs⟩ = R at *
 generalize encS (lf 2 (bl ser)) = S2 at *
 generalize momS dat = SD at *
 generalize extsS exs = SX at *
 generalize extsOk exs = OX at *
 generalize wOk dat = OD at *
 generalize numOk (bl ser) = OI at *
 generalize exs.isEmpty = em at *
 generalize exs.length = n at *
 have HR1 : Hid (Row ((w.alloc (.cells #[.string ser, .string dat, .slice oo n co] 49)).alloc (.cells #[.pointer none, .slice none 0 0, .bool false] 87)) w.heap.size 49 [.string ser, .string dat, .slice oo n co]) := Lib.hid ((Row.new w _ [.string ser, .string dat, .slice oo n co]).alloc _)
 have HP1 : Hid (PAt ((w.alloc (.cells #[.string ser, .string dat, .slice oo n co] 49)).alloc (.cells #[.pointer none, .slice none 0 0, .bool false] 87)) (w.heap.size + 1) (w.heap.size + 1) ⟨#[]⟩ false) := Lib.hid (by have := PAt.new (w.alloc (.cells #[.string ser, .string dat, .slice oo n co] 49)) (Nat.le_refl _); simpa using this)
 have HB1 : Hid (Below w.heap.size w ((w.alloc (.cells #[.string ser, .string dat, .slice oo n co] 49)).alloc (.cells #[.pointer none, .slice none 0 0, .bool false] 87))) := Lib.hid (((Below.refl _ _).alloc (Nat.le_refl _) _).alloc (by simp) _)
 go_enter Tryz.func56, Tryz.ntmps56
 go_upto_region 2 with (fail)
 generalize (w.alloc (.cells #[.string ser, .string dat, .slice oo n co] 49)).alloc (.cells #[.pointer none, .slice none 0 0, .bool false] 87) = w1 at *
 have HG := Lib.hid (fun W (h : Below w1.heap.size w1 W) => (show W.cell? ⟨w.heap.size, 0, none⟩ = some (.string ser) from (HR1.out.below h HR1.out.lt).cell 0))
 have HG2 := Lib.hid (fun W (h : Below (w.heap.size + 1) w1 W) => (show W.cell? ⟨w.heap.size, 0, none⟩ = some (.string ser) from (HR1.out.below h (by omega)).cell 0))
 have HL2 := Lib.hid (fun W (h : Below w1.heap.size w1 W) => (HL.out W).mono (fun e w' ⟨he, hb⟩ => (⟨he, h.trans (hb.mono h.size)⟩ : _ ∧ Below w1.heap.size w1 w')))
 have HI2 := Lib.hid (fun W (h : Below w1.heap.size w1 W) => (HI.out W).mono (fun e w' ⟨he, hb⟩ => (⟨he, h.trans (hb.mono h.size)⟩ : _ ∧ Below w1.heap.size w1 w')))
 have hlt1 := HP1.out.lt
 have HA2 := Lib.hid (fun W (h : Below w1.heap.size w1 W) => (partsAdd_any (w.heap.size + 1) (w.heap.size + 1) ⟨#[]⟩ S2 false OI W (HP1.out.keep h) (by show 0 + _ ≤ _; omega) (Nat.le_trans (Nat.le_of_lt hlt1) h.size)).mono (fun e w' ⟨he, hp, hb⟩ => (⟨he, hp, (h.mono (Nat.le_of_lt hlt1)).trans hb⟩ : _ ∧ _ ∧ Below (w.heap.size + 1) w1 w')))
 have hd : Below w1.heap.size w1 w1.drew := (Below.refl _ _).drew
 have y0 : w1.drew.cell? ⟨w.heap.size, 0, none⟩ = some (.string ser) := HG.out _ hd
 clear HL HI
 go_region_held3 (fun w' => w'.cell? ⟨w.heap.size, 0, none⟩ = some (.string ser)) (first | exact y0 | assumption) (first
  |(go_at_call 27; with_reducible refine (HL2.out _ (by assumption)).mono ?_; rintro e w5 ⟨rfl, hb5⟩; have y0 := HG.out _ hb5)
  |(go_at_call 80; with_reducible refine (HI2.out _ (by assumption)).mono ?_; rintro e w5 ⟨rfl, hb5⟩; have y0 := HG.out _ hb5)
  |(go_at_call 48; with_reducible refine (HA2.out _ (by assumption)).mono ?_; rintro e w5 ⟨rfl, hp5, hb5⟩; have y0 := HG2.out _ hb5))
 obtain ⟨w2, hw2⟩ : ∃ x, x = w5 := ⟨_, rfl⟩
 subst hw2
 have HB2 := Lib.hid (HB1.out.trans (hb5.mono (by omega)))
 have HR2 := Lib.hid (HR1.out.below hb5 (by omega))
 have HP2 : Hid (PAt w2 (w.heap.size + 1) (w.heap.size + 1) S2 (!OI)) := Lib.hid (hp5.as ⟨e_app _, Bool.false_or _⟩)
 clear hp5 hb5 HB1 HR1 HP1 hd hlt1 HA2 HL2 HI2 HG HG2
 have z1 : w2.cell? ⟨w.heap.size, 1, none⟩ = some (.string dat) := HR2.out.cell 1
 go_wp2_with fail
 refine (HM.out _ HB2.out).mono ?_
 rintro e w3 ⟨rfl, hb⟩
 have HB3 := Lib.hid (HB2.out.trans (hb.mono HB2.out.size))
 have HP3 := Lib.hid (HP2.out.keep hb)
 have HR3 := Lib.hid (HR2.out.below hb HR2.out.lt)
 clear hb HB2 HP2 HR2
 clear z1 HM
 go_wp2_with fail
 refine (partsAdd_any (w.heap.size + 1) (w.heap.size + 1) _ _ _ _ w3 HP3.out (by omega) (Nat.le_of_lt HP3.out.lt)).mono ?_
 rintro e w4 ⟨rfl, hP, hb⟩
 have HB4 := Lib.hid (HB3.out.trans (hb.mono (by omega)))
 have HP4 := Lib.hid hP
 have HR4 := Lib.hid (HR3.out.below hb (by omega))
 clear hP hb HB3 HP3 HR3
 have z2 : w4.cell? ⟨w.heap.size, 2, none⟩ = some (.slice oo n co) := HR4.out.cell 2
 by_cases h0 : n = 0
 ·have hem := HEM.out h0
  have hg0 : ¬ (0 : Int) < (n : Int) := by omega
  have HF := HE.out ⟨#[]⟩ (by rw [hem]; rfl)
  rw [app_e] at HF
  have HFX : Hid ((!(!OI || !OD)) = EOK) := Lib.hid (by rw [HOK.out, hem]; cases OI <;> cases OD <;> rfl)
  have HFS : Hid (seqS (!OI || !OD) (S2 ++ SD) = R) := Lib.hid (by rw [← HF, ← HFX.out, Bool.not_not])
  clear HE HX HEM HNE HOK hem HF h0
  have HQ := Lib.hid (encSeq_any (w.heap.size + 1) (w.heap.size + 1) (S2 ++ SD) (!OI || !OD) w4 (HP4.out.as (⟨by first | with_reducible rfl | simp only [e_app], by first | rfl | simp⟩)) (by rw [ByteArray.size_append]; omega) (Nat.le_of_lt HP4.out.lt))
  rw [HFS.out, HFX.out] at HQ
  clear HFS
  go_wp2_with fail
  refine HQ.out.mono ?_
  rintro e w5 ⟨rfl, hb⟩
  have HB5 := Lib.hid (HB4.out.trans (hb.mono (by omega)))
  clear hb HQ
  go_wp2
  go_returns
  exact ⟨rfl, HB5.out⟩
 ·have hem := HNE.out h0
  have hg0 : (0 : Int) < (n : Int) := by omega
  have HF := HE.out SX (by rw [hem]; rfl)
  have HFX : Hid ((!(!OI || !OD || !OX)) = EOK) := Lib.hid (by rw [HOK.out, hem]; cases OI <;> cases OD <;> cases OX <;> rfl)
  have HFS : Hid (seqS (!OI || !OD || !OX) (S2 ++ SD ++ SX) = R) := Lib.hid (by rw [← HF, ← HFX.out, Bool.not_not])
  clear HE HEM HNE HOK hem HF h0
  go_wp2_with fail
  refine (HX.out _ HB4.out).mono ?_
  rintro e w5 ⟨rfl, hb⟩
  have HB5 := Lib.hid (HB4.out.trans (hb.mono HB4.out.size))
  have HP5 := Lib.hid (HP4.out.keep hb)
  have HR5 := Lib.hid (HR4.out.below hb HR4.out.lt)
  clear hb HB4 HP4 HR4
  clear HX
  go_wp2_with fail
  refine (partsAdd_any (w.heap.size + 1) (w.heap.size + 1) _ _ _ _ w5 HP5.out (by rw [ByteArray.size_append]; omega) (Nat.le_of_lt HP5.out.lt)).mono ?_
  rintro e w6 ⟨rfl, hP, hb⟩
  have HB6 := Lib.hid (HB5.out.trans (hb.mono (by omega)))
  have HP6 := Lib.hid hP
  have HR6 := Lib.hid (HR5.out.below hb (by omega))
  clear hP hb HB5 HP5 HR5
  have HQ := Lib.hid (encSeq_any (w.heap.size + 1) (w.heap.size + 1) (S2 ++ SD ++ SX) (!OI || !OD || !OX) w6 (HP6.out.as (⟨by first | with_reducible rfl | simp only [e_app], by first | rfl | simp⟩)) (by rw [ByteArray.size_append, ByteArray.size_append]; omega) (Nat.le_of_lt HP6.out.lt))
  rw [HFS.out, HFX.out] at HQ
  clear HFS
  go_wp2_with fail
  refine HQ.out.mono ?_
  rintro e w7 ⟨rfl, hb⟩
  have HB7 := Lib.hid (HB6.out.trans (hb.mono (by omega)))
  clear hb HQ
  go_wp2
  go_returns
  exact ⟨rfl, HB7.out⟩
end Go.Proofs.YtiecbagejdcafaaGreatDoor
/- Package encode in the landed code: entries. Within the sizes that layer 19's statements name. -/
namespace Go.Proofs.YtiecbagejdcafaaGreatDoor
open Go.RowKit Go.PlainAid
set_option linter.unusedVariables false
set_option maxRecDepth 100000 in
set_option maxHeartbeats 8000000 in
theorem encSeqEntry_any (oa : Option Addr) (ca : Nat) (l : List EntryV) (hl : l.length ≤ 12) (hs : ∀ x ∈ l, x.Small) (hcap : l.length ≤ ca ∧ ca ≤ maxLen) (w : World) (hT : Tab w) (hc : CameEntries w oa l) :
  Calls Tryz.prog 55 #[.slice oa l.length ca, .func (.func 56) #[] #[]] w fun e w' => e = .returned (.tuple #[.string (if l.all entryOk = true then encS (sq (joinF (l.map entryF))) else ⟨#[]⟩), .bool (l.all entryOk)]) ∧ Below w.heap.size w w' := by
 have HLN : Hid (∀ i, (catS ((l.take i).map entryS)).size ≤ 56412) := Lib.hid (fun i => rows_take_len entryS l 4701 12 i (fun x hx => entS_le x (hs x hx)) hl)
 have HFN : Hid (∀ x ∈ l, (entryS x).size ≤ 4701) := Lib.hid (fun x hx => entS_le x (hs x hx))
 have HEN : Hid (seqS (!l.all entryOk) (catS (l.map entryS)) = if l.all entryOk = true then encS (sq (joinF (l.map entryF))) else ⟨#[]⟩) := Lib.hid (rows_end entryS entryOk entryF l (fun x hx h => by unfold entryS; rw [if_pos h]) (by have := HLN.out l.length; rw [List.take_length] at this; omega))
 have HC := Lib.hid hc
 have HS := Lib.hid hs
 have HTab := Lib.hid hT
 have hl9 : (l.length : Int) ≤ 12 := by omega
 generalize (if l.all entryOk = true then encS (sq (joinF (l.map entryF))) else ⟨#[]⟩) = R at *
 have HP1 : Hid (PAt (w.alloc (.cells #[.pointer none, .slice none 0 0, .bool false] 87)) w.heap.size w.heap.size ⟨#[]⟩ false) := Lib.hid (PAt.new w (Nat.le_refl _))
 have HB1 : Hid (Below w.heap.size w (w.alloc (.cells #[.pointer none, .slice none 0 0, .bool false] 87))) := Lib.hid ((Below.refl _ _).alloc (Nat.le_refl _) _)
 clear hc hs hT hcap
 go_enter Tryz.func55, Tryz.ntmps55
 go_upto_region 2 with (fail)
 generalize w.alloc (.cells #[.pointer none, .slice none 0 0, .bool false] 87) = w1 at *
 go_wp2_with fail
 go_loopg [11] l.length (fun gk iv wr => ∃ (i : Nat), iv = .int .i64 (i : Int) ∧ i ≤ l.length ∧ l.length - i ≤ gk ∧ Hid (PAt wr w.heap.size w.heap.size (catS ((l.take i).map entryS)) (!(l.take i).all entryOk)) ∧ Hid (Below w.heap.size w wr))
 case atStart => exact ⟨0, rfl, by omega, by omega, HP1, HB1⟩
 case round =>
  clear HP1 HB1
  obtain ⟨i, rfl, hi, hgk, HP1, HB1⟩ := hrel
  obtain ⟨w1, hw1⟩ : ∃ x, x = wr := ⟨_, rfl⟩
  subst hw1
  by_cases hlt : i < l.length
  ·have hlt2 : (i : Int) < (l.length : Int) := by omega
   obtain ⟨ad, oo, co, ho, hX⟩ := HC.out.below HB1.out i hlt
   subst ho
   obtain ⟨k0, k1, k2, hoid, hcap⟩ := hX
   have HCL := Lib.hid (encEntry_any l[i] oo co (HS.out _ (List.getElem_mem hlt)) hcap)
   have HD := Lib.hid hoid
   have hsn := HFN.out _ (List.getElem_mem hlt)
   have HTK := Lib.hid (rows_take entryS hlt)
   have HAL := Lib.hid (take_all hlt entryOk)
   have HLI := HLN.out i
   replace k1 : w1.cell? ⟨(ad.add (i * 3)).block, (ad.add (i * 3)).off + 1, none⟩ = some (.string l[i].date) := k1
   replace k2 : w1.cell? ⟨(ad.add (i * 3)).block, (ad.add (i * 3)).off + 2, none⟩ = some (.slice oo l[i].exts.length co) := k2
   clear hoid hcap
   generalize entryS l[i] = SX at *
   generalize entryOk l[i] = OX at *
   generalize l[i].serial = ser at *
   generalize l[i].date = dat at *
   generalize l[i].exts = exs at *
   generalize exs.length = xn at *
   have HB2 : Hid (Below w.heap.size w (w1.alloc (.cells #[.string ser, .string dat, .slice oo xn co] 49))) := Lib.hid (HB1.out.alloc HB1.out.size _)
   have HP2 : Hid (PAt (w1.alloc (.cells #[.string ser, .string dat, .slice oo xn co] 49)) w.heap.size w.heap.size (catS ((l.take i).map entryS)) (!(l.take i).all entryOk)) := Lib.hid (HP1.out.keep ((Below.refl _ _).alloc (Nat.le_refl _) _))
   have HD2 : Hid (CameExts (w1.alloc (.cells #[.string ser, .string dat, .slice oo xn co] 49)) oo exs) := Lib.hid (HD.out.below ((Below.refl _ _).alloc (Nat.le_refl _) _))
   have HCL2 := Lib.hid (HCL.out _ (HTab.out.on HB2.out) HD2.out)
   clear HB1 HP1 HD HD2 HCL
   go_wp2_with fail
   refine HCL2.out.mono ?_
   rintro e w3 ⟨rfl, hb⟩
   have HB3 := Lib.hid (HB2.out.trans (hb.mono HB2.out.size))
   have HP3 := Lib.hid (HP2.out.keep hb)
   clear hb HB2 HP2 HCL2 k0 k1 k2
   go_wp2_with fail
   refine (partsAdd_any w.heap.size w.heap.size _ _ _ _ w3 HP3.out (by omega) (Nat.le_of_lt HP3.out.lt)).mono ?_
   rintro e w4 ⟨rfl, hP, hb⟩
   have HB4 := Lib.hid (HB3.out.trans hb)
   have HP4 : Hid (PAt w4 w.heap.size w.heap.size (catS ((l.take (i + 1)).map entryS)) (!(l.take (i + 1)).all entryOk)) := Lib.hid (hP.as ⟨HTK.out.symm, by rw [HAL.out, Bool.not_and]⟩)
   clear hP hb HB3 HP3 HTK HAL
   go_wp2_with fail
   go_roundg (l.length - (i + 1))
   case measure => omega
   case rel => exact ⟨i + 1, by simp, by omega, by omega, HP4, HB4⟩
  ·have hlt2 : ¬ (i : Int) < (l.length : Int) := by omega
   obtain rfl : i = l.length := by omega
   rw [List.take_length] at HP1
   have HLI := HLN.out l.length
   rw [List.take_length] at HLI
   have HQ := Lib.hid (encSeq_any w.heap.size w.heap.size _ _ w1 HP1.out (by omega) (Nat.le_of_lt HP1.out.lt))
   rw [HEN.out, Bool.not_not] at HQ
   clear HP1 HEN HLN HFN HC HS HTab
   go_wp2_with fail
   refine HQ.out.mono ?_
   rintro e w3 ⟨rfl, hb⟩
   have HB3 := Lib.hid (HB1.out.trans hb)
   clear hb HQ HB1
   go_wp2
   go_returns
   exact ⟨rfl, HB3.out⟩
end Go.Proofs.YtiecbagejdcafaaGreatDoor
