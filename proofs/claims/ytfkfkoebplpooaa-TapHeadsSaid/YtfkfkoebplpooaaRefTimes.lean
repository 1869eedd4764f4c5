/- What the reference's product of two numbers by bytes gives. -/
import Derived.Test.YtfkfkoebplpooaaRefBig
import Derived.StillTailTactics
import Derived.Deep.OwnRows
import Derived.Deep.LoopGhost
import Derived.IntWalk
namespace Go.Proofs.Ytfkfkoebplpooaa
open Go.RowKit Go.PlainAid
theorem made_list (z : Value) (n : Nat) : madeCells #[z] n = (List.replicate n z).toArray := by
  rw [← toList_madeCells_one]
theorem nvs_at {l : List Nat} {p : Nat} (h : p < l.length) : (nvs l)[p]? = some (.int .i64 ((l.getD p 0 : Nat) : Int)) := by
  simp [nvs, List.getD, List.getElem?_eq_getElem h]
theorem Row.at {w : World} {g : Nat} {t : TypeId} {l : List Nat} {p : Nat} (h : Row w g t (nvs l)) (hp : p < l.length) : w.cell? ⟨g, p, none⟩ = some (.int .i64 ((l.getD p 0 : Nat) : Int)) := by
  rw [h.cell, nvs_at hp]
def TimesPost (a b : List Nat) (w : World) (e : Ending) (w' : World) : Prop :=
  ∃ l : List Nat, l.length = a.length + b.length + 1 ∧ (∀ x ∈ l, x ≤ 255) ∧ num l = num a * num b ∧ NewSl 3 (nvs l) w e w'
set_option maxRecDepth 100000 in
set_option maxHeartbeats 1000000 in
theorem times_any (a b : List Nat) (va vb : Value) (ga gb : Nat) (hab : a.length + b.length ≤ 1000) (ha1 : ∀ x ∈ a, x ≤ 255) (hb1 : ∀ x ∈ b, x ≤ 255) (w : World) (hsa : Sl w 3 va (nvs a) ga) (hsb : Sl w 3 vb (nvs b) gb) :
    Calls Try.prog 41 #[va, vb] w (TimesPost a b w) := by
  obtain ⟨spa, rfl, hma, hra⟩ := id hsa
  obtain ⟨spb, rfl, hmb, hrb⟩ := id hsb
  obtain ⟨i0, hi, hz0, hz1, hz2⟩ := info_parts infoI64b
  rw [nvs_length] at hma hmb ⊢
  rw [nvs_length]
  unfold maxLen at hma hmb
  have HSA := Lib.hid hsa
  have HSB := Lib.hid hsb
  have HA1 := Lib.hid ha1
  have HB1 := Lib.hid hb1
  clear hsa hsb ha1 hb1 hra hrb
  go_enter Try.func41, Try.ntmps41
  obtain ⟨N, hN⟩ : ∃ N : Nat, N = a.length + b.length + 1 := ⟨_, rfl⟩
  have hNc : (a.length : Int) + (b.length : Int) + 1 = (N : Int) := by omega
  have HN := Lib.hid hN
  have HNC := Lib.hid hNc
  clear hN hNc
  go_wp2_with (at_make; refine wpList_make_row _ rfl _ _ 71 rfl 3 i0 (.int .i64 0) Try.underlying71 hi hz0 hz1 rfl .i64 .i64 N (congrArg (Value.int .i64) HNC.out) (congrArg (Value.int .i64) HNC.out) ?b1 ?b2 ?_)
  case b1 => rw [hz2]; have := HN.out; omega
  case b2 => have := HN.out; omega
  have hr1 := Row.new w 3 (nvs (List.replicate N 0))
  have hb1 : Below w.heap.size w (w.alloc (.cells (nvs (List.replicate N 0)).toArray 3)) := (Below.refl _ _).alloc (Nat.le_refl _) _
  rw [show madeCells #[Value.int .i64 0] N = (nvs (List.replicate N 0)).toArray by rw [made_list]; simp [nvs]]
  generalize w.alloc (.cells (nvs (List.replicate N 0)).toArray 3) = w1 at *
  have HR1 := Lib.hid hr1
  have HTS : Hid (TI a b 0 0 (List.replicate N 0)) := Lib.hid (by rw [HN.out]; exact TI_start a b)
  have HNL : Hid (N = a.length + b.length + 1) := HN
  have hnn : (N : Int) ≤ 1001 := by have := HN.out; omega
  clear hr1
  go_wp2
  go_loopg [6] a.length (fun gn iv wr => ∃ i : Nat, ∃ l : List Nat, i ≤ a.length ∧ gn = a.length - i ∧ iv = .int .i64 i ∧ Hid (TI a b i 0 l) ∧ Hid (Row wr w.heap.size 3 (nvs l)) ∧ Below w.heap.size w wr)
  case atStart => exact ⟨0, _, by omega, rfl, rfl, HTS, HR1, hb1⟩
  case round =>
    obtain ⟨i, l, hi, rfl, rfl, HT, HR, hB⟩ := hrel
    clear hb1 HR1 HTS
    by_cases hlt : i < a.length
    · go_wp2
      go_loopg [7] b.length (fun gn kv wr => ∃ k : Nat, ∃ l : List Nat, k ≤ b.length ∧ gn = b.length - k ∧ kv = .int .i64 k ∧ Hid (TI a b i k l) ∧ Hid (Row wr w.heap.size 3 (nvs l)) ∧ Below w.heap.size w wr)
      case atStart => exact ⟨0, _, by omega, rfl, rfl, HT, HR, hB⟩
      case round =>
        clear HT HR hB
        obtain ⟨k, l, hk, rfl, rfl, HT, HR, hB⟩ := hrel
        by_cases hltk : k < b.length
        · have hN2 := HN.out
          have hz := HT.out.1
          have c1 : wr.cell? ⟨w.heap.size, i + k, none⟩ = some (.int .i64 ((l.getD (i + k) 0 : Nat) : Int)) := HR.out.at (by omega)
          have c2 : wr.cell? ⟨ga, i, none⟩ = some (.int .i64 ((a.getD i 0 : Nat) : Int)) := by
            obtain ⟨sp, _, _, h⟩ := HSA.out.keep hB
            rw [h.cell, List.getElem?_append_left (by rw [nvs_length]; exact hlt), nvs_at hlt]
          have c3 : wr.cell? ⟨gb, k, none⟩ = some (.int .i64 ((b.getD k 0 : Nat) : Int)) := by
            obtain ⟨sp, _, _, h⟩ := HSB.out.keep hB
            rw [h.cell, List.getElem?_append_left (by rw [nvs_length]; exact hltk), nvs_at hltk]
          have f1 := HR.out.frozen (i + k)
          have n1 := HT.out.2.1 (i + k)
          have n2 := getD_bd HA1.out i
          have n3 := getD_bd HB1.out k
          have n4 : a.getD i 0 * b.getD k 0 ≤ 65025 := Nat.mul_le_mul n2 n3
          have HC : Hid (CI a b i k (i + k) (l.set (i + k) (l.getD (i + k) 0 + a.getD i 0 * b.getD k 0))) := Lib.hid (CI_start HT.out hlt hltk HA1.out HB1.out)
          generalize l.getD (i + k) 0 = x at *
          generalize a.getD i 0 = y at *
          generalize b.getD k 0 = z at *
          have m0 : (0 : Int) ≤ (y : Int) * (z : Int) := by rw [← Int.natCast_mul]; omega
          have m1 : (y : Int) * (z : Int) ≤ 65025 := by rw [← Int.natCast_mul]; omega
          have m2 : ((i : Int) + (k : Int)).toNat = i + k := by omega
          have m3 : IntKind.i64.wrap ((i : Int) + (k : Int)) = (i : Int) + (k : Int) := IntWalk.i64_in _ (by omega)
          have m4 : IntKind.i64.wrap ((y : Int) * (z : Int)) = (y : Int) * (z : Int) := IntWalk.i64_in _ (by omega)
          have m5 : IntKind.i64.wrap ((x : Int) + (y : Int) * (z : Int)) = (x : Int) + (y : Int) * (z : Int) := IntWalk.i64_in _ (by omega)
          have m6 : (i : Int) + (k : Int) < (N : Int) := by omega
          have m7 : (0 : Int) ≤ (i : Int) + (k : Int) := by omega
          have HZ := Lib.hid hz
          clear hN2 hz
          go_wp2
          go_still_tail 21, (by kernel_rfl)
          have HR2 : Hid (Row (wr.drew.setCell ⟨w.heap.size, i + k, none⟩ (.int .i64 ((x : Int) + (y : Int) * (z : Int)))) w.heap.size 3 (nvs (l.set (i + k) (x + y * z)))) := Lib.hid (by
            have h := Row.set (w := wr.drew) HR.out (i + k) (.int .i64 ((x : Int) + (y : Int) * (z : Int)))
            rw [show nvs (l.set (i + k) (x + y * z)) = (nvs l).set (i + k) (.int .i64 ((x : Int) + (y : Int) * (z : Int))) by unfold nvs; rw [List.map_set]; simp]
            exact h)
          have hB2 : Below w.heap.size w (wr.drew.setCell ⟨w.heap.size, i + k, none⟩ (.int .i64 ((x : Int) + (y : Int) * (z : Int)))) := hB.drew.setCell (by simp) _
          change wpList _ _ _ _ _ wr.drew
          have c1' : wr.drew.cell? ⟨w.heap.size, i + k, none⟩ = some (.int .i64 (x : Int)) := c1
          have f1' : wr.drew.frozen? ⟨w.heap.size, i + k, none⟩ = false := f1
          generalize wr.drew = w2 at *
          clear c1 c2 c3 f1 m0 m1 m3 m4 m5
          go_wp2
          generalize l.set (i + k) (x + y * z) = l2 at *
          generalize w2.setCell ⟨w.heap.size, i + k, none⟩ (.int .i64 ((x : Int) + (y : Int) * (z : Int))) = w3 at *
          clear c1' f1' m2 m6 m7 HT HR hB HZ
          go_loopg [8] (N - (i + k)) (fun gn jv wr => ∃ j : Nat, ∃ l : List Nat, gn = N - j ∧ jv = .int .i64 j ∧ Hid (CI a b i k j l) ∧ Hid (Row wr w.heap.size 3 (nvs l)) ∧ Below w.heap.size w wr)
          case atStart => exact ⟨i + k, l2, rfl, by go_num, HC, HR2, hB2⟩
          case round =>
            clear HC HR2 hB2
            obtain ⟨j, l, rfl, rfl, HC, HR, hB⟩ := hrel
            have hjl : j < N := by have h1 := HC.out.1; have h2 := HC.out.2.1; have h3 := HN.out; omega
            have c1 : wr.cell? ⟨w.heap.size, j, none⟩ = some (.int .i64 ((l.getD j 0 : Nat) : Int)) := HR.out.at HC.out.2.1
            have f1 := HR.out.frozen j
            have n1 := HC.out.2.2.2.1
            by_cases hj : 255 < l.getD j 0
            · have hroom := CI_room HC.out hlt HA1.out HB1.out hj
              have HC2 := Lib.hid (CI_step HC.out hroom)
              have c2 : wr.cell? ⟨w.heap.size, j + 1, none⟩ = some (.int .i64 ((l.getD (j + 1) 0 : Nat) : Int)) := HR.out.at hroom
              have f2 := HR.out.frozen (j + 1)
              have n2 := HC.out.2.2.1 (j + 1) (by omega)
              have hjN : j + 1 < N := by have h1 := HC.out.1; have h3 := HN.out; omega
              generalize l.getD (j + 1) 0 = y2 at *
              generalize l.getD j 0 = x2 at *
              have m2 : ((j : Int) + 1).toNat = j + 1 := by omega
              have m3 : IntKind.i64.wrap ((j : Int) + 1) = (j : Int) + 1 := IntWalk.i64_in _ (by omega)
              have m4 : IntKind.i64.wrap ((x2 : Int) / 256) = (x2 : Int) / 256 := IntWalk.i64_in _ (by omega)
              have m5 : IntKind.i64.wrap ((y2 : Int) + (x2 : Int) / 256) = (y2 : Int) + (x2 : Int) / 256 := IntWalk.i64_in _ (by omega)
              have m6 : (j : Int) + 1 < (N : Int) := by omega
              have m7 : (0 : Int) ≤ (j : Int) + 1 := by omega
              have HR2 : Hid (Row ((wr.drew.setCell ⟨w.heap.size, j + 1, none⟩ (.int .i64 ((y2 : Int) + (x2 : Int) / 256))).setCell ⟨w.heap.size, j, none⟩ (.int .i64 ((x2 : Int) % 256))) w.heap.size 3 (nvs ((l.set (j + 1) (y2 + x2 / 256)).set j (x2 % 256)))) := Lib.hid (by
                have h := (Row.set (w := wr.drew) HR.out (j + 1) (.int .i64 ((y2 : Int) + (x2 : Int) / 256))).set j (.int .i64 ((x2 : Int) % 256))
                rw [show nvs ((l.set (j + 1) (y2 + x2 / 256)).set j (x2 % 256)) = ((nvs l).set (j + 1) (.int .i64 ((y2 : Int) + (x2 : Int) / 256))).set j (.int .i64 ((x2 : Int) % 256)) by unfold nvs; rw [List.map_set, List.map_set]; simp]
                exact h)
              have hB2 : Below w.heap.size w ((wr.drew.setCell ⟨w.heap.size, j + 1, none⟩ (.int .i64 ((y2 : Int) + (x2 : Int) / 256))).setCell ⟨w.heap.size, j, none⟩ (.int .i64 ((x2 : Int) % 256))) := (hB.drew.setCell (by simp) _).setCell (by simp) _
              clear hroom
              go_wp2
              go_still_tail 15, (by kernel_rfl)
              change wpList _ _ _ _ _ wr.drew
              have c1' : wr.drew.cell? ⟨w.heap.size, j, none⟩ = some (.int .i64 (x2 : Int)) := c1
              have c2' : wr.drew.cell? ⟨w.heap.size, j + 1, none⟩ = some (.int .i64 (y2 : Int)) := c2
              have f1' : wr.drew.frozen? ⟨w.heap.size, j, none⟩ = false := f1
              have f2' : wr.drew.frozen? ⟨w.heap.size, j + 1, none⟩ = false := f2
              generalize wr.drew = w2 at *
              clear c1 c2 f1 f2 m3 m4 m5
              go_wp2
              go_roundg (N - (j + 1))
              case measure => omega
              case rel => exact ⟨j + 1, _, rfl, by go_num, HC2, HR2, hB2⟩
            · have HT2 := Lib.hid (CI_done HC.out hj)
              generalize l.getD j 0 = x2 at *
              go_wp2
              go_roundg (b.length - (k + 1))
              case measure => omega
              case rel => exact ⟨k + 1, l, by omega, rfl, by go_num, HT2, HR, hB⟩
        · have hk2 : k = b.length := by omega
          subst hk2
          have HT2 := Lib.hid (TI_next HT.out hlt)
          go_wp2
          go_roundg (a.length - (i + 1))
          case measure => omega
          case rel => exact ⟨i + 1, l, by omega, rfl, by go_num, HT2, HR, hB⟩
    · have hi2 : i = a.length := by omega
      subst hi2
      go_wp2
      go_ret
      exact ⟨l, HT.out.1, TI_mem HT.out, TI_done HT.out, _, w.heap.size, rfl, ⟨[], by rw [nvs_length, HT.out.1, HN.out]; rfl, by rw [nvs_length, HT.out.1]; unfold maxLen; simp; omega, by simpa using HR.out⟩, Nat.le_refl _, hB⟩
end Go.Proofs.Ytfkfkoebplpooaa
