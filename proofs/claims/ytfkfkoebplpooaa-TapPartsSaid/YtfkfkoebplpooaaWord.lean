/- What the functions of package word, and the reference's for them, give: contracts, each under the bounds of its arguments' kinds. -/
import Derived.Test.YtfkfkoebplpooaaNum
import Derived.Test.YtfkfkoebplpooaaChecked
import Derived.WalkKit
import Derived.WalkSpells
import Derived.WalkLawsBesides
import Derived.Handy
import Derived.Deep.QuietTactic
import Derived.BigQuiet
import Derived.Lib.Hide
namespace Go.Proofs.Ytfkfkoebplpooaa
open Go.RowKit Go.PlainAid
theorem ret_int {k : IntKind} {a b : Int} (h : a = b) : Ending.returned (.int k a) = .returned (.int k b) := by rw [h]
theorem ret_bool {a b : Bool} (h : a = b) : Ending.returned (.bool a) = .returned (.bool b) := by rw [h]
theorem ret_two {a b c d : Value} (h : a = c) (h' : b = d) : Ending.returned (.tuple #[a, b]) = .returned (.tuple #[c, d]) := by rw [h, h']
theorem ret_string {a b : ByteArray} (h : a = b) : Ending.returned (.string a) = .returned (.string b) := by rw [h]

set_option maxHeartbeats 400000 in
theorem turn_any (x n : Int) (h0 : 0 ≤ x) (h1 : x ≤ 4294967295) (w : World) :
    Calls Try.prog 45 #[.int .u32 x, .int .i64 n] w fun e w' => e = .returned (.int .u32 (turnI x n)) ∧ w = w' := by
  have e := wrap_tmod32 n
  have HT := Lib.hid (fun m => turn_eq x n m h0 h1)
  obtain ⟨m, hm⟩ : ∃ m, n % 32 = m := ⟨_, rfl⟩
  have hm0 : 0 ≤ m := by omega
  have hm1 : m ≤ 31 := by omega
  rw [hm] at e
  have HM := Lib.hid hm
  clear hm
  go_enter Try.func45, Try.ntmps45
  go_wp2
  go_ret
  exact ⟨ret_int (HT.out m HM.out), rfl⟩

theorem tmod32_bd (n : Int) : -31 ≤ n.tmod 32 ∧ n.tmod 32 ≤ 31 := by
  have := Int.tmod_lt_of_pos n (b := 32) (by decide)
  have := Int.lt_tmod_of_pos n (b := 32) (by decide)
  omega
theorem tmod32_emod (n : Int) : (n.tmod 32) % 32 = n % 32 := by
  have := Int.tmod_add_mul_tdiv n 32; omega
set_option maxHeartbeats 400000 in
theorem refTurn_any (x n : Int) (h0 : 0 ≤ x) (h1 : x ≤ 4294967295) (w : World) :
    Calls Try.prog 43 #[.int .u32 x, .int .i64 n] w fun e w' => e = .returned (.int .u32 (turnI x n)) ∧ w = w' := by
  have hz := turnI_zero x h0 h1
  have HZ := Lib.hid hz
  have hb := tmod32_bd n
  have he := tmod32_emod n
  obtain ⟨r, hr⟩ : ∃ r, n.tmod 32 = r := ⟨_, rfl⟩
  rw [hr] at hb he
  obtain ⟨hb0, hb1⟩ := hb
  have HE := Lib.hid he
  clear he hz
  by_cases hn : r < 0
  · have hfin : turnI x (r + 32) = turnI x n := turnI_mod _ _ _ (by have := HE.out; omega)
    have HF := Lib.hid hfin
    clear hfin
    go_enter Try.func43, Try.ntmps43
    go_wp2
    go_loop [0, 5] (fun xs i => ∃ k : Nat, (k : Int) ≤ r + 32 ∧ i = .int .i64 k ∧ xs = .int .u32 (turnI x k)) (fun _ i => (32 - intOf i).toNat)
    case atStart => exact ⟨0, by omega, rfl, by rw [show ((0 : Nat) : Int) = 0 from rfl, HZ.out]⟩
    case round =>
      obtain ⟨k, hk, rfl, rfl⟩ := hrel
      have hs := turn_step x k
      have ⟨b0, b1⟩ := turnI_bd x k
      have HS := Lib.hid hs
      clear hs
      by_cases hlt : (k : Int) < r + 32
      · by_cases ho : turnI x k % 2 = 1
        · have ho' : (turnI x k % 2 == 1) = true := by simpa using ho
          have HO := Lib.hid ho
          clear ho
          go_wp2
          go_round
          case rel => exact ⟨k + 1, by omega, by go_num, by rw [show ((k + 1 : Nat) : Int) = (k : Int) + 1 from by omega, ← HS.out, HO.out]; go_num⟩
          case measure => simp [intOf]; omega
        · have ho' : (turnI x k % 2 == 1) = false := by simpa using ho
          have ho2 : turnI x k % 2 = 0 := by omega
          have HO := Lib.hid ho2
          clear ho ho2
          go_wp2
          go_round
          case rel => exact ⟨k + 1, by omega, by go_num, by rw [show ((k + 1 : Nat) : Int) = (k : Int) + 1 from by omega, ← HS.out, HO.out]; go_num⟩
          case measure => simp [intOf]; omega
      · have hk' : (k : Int) = r + 32 := by omega
        have HK := Lib.hid hk'
        clear hk'
        go_wp2
        go_ret
        exact ⟨ret_int (by rw [HK.out, HF.out]), rfl⟩
  · have hfin : turnI x r = turnI x n := turnI_mod _ _ _ (by have := HE.out; omega)
    have HF := Lib.hid hfin
    clear hfin
    go_enter Try.func43, Try.ntmps43
    go_wp2
    go_loop [0, 5] (fun xs i => ∃ k : Nat, (k : Int) ≤ r ∧ i = .int .i64 k ∧ xs = .int .u32 (turnI x k)) (fun _ i => (32 - intOf i).toNat)
    case atStart => exact ⟨0, by omega, rfl, by rw [show ((0 : Nat) : Int) = 0 from rfl, HZ.out]⟩
    case round =>
      obtain ⟨k, hk, rfl, rfl⟩ := hrel
      have hs := turn_step x k
      have ⟨b0, b1⟩ := turnI_bd x k
      have HS := Lib.hid hs
      clear hs
      by_cases hlt : (k : Int) < r
      · by_cases ho : turnI x k % 2 = 1
        · have ho' : (turnI x k % 2 == 1) = true := by simpa using ho
          have HO := Lib.hid ho
          clear ho
          go_wp2
          go_round
          case rel => exact ⟨k + 1, by omega, by go_num, by rw [show ((k + 1 : Nat) : Int) = (k : Int) + 1 from by omega, ← HS.out, HO.out]; go_num⟩
          case measure => simp [intOf]; omega
        · have ho' : (turnI x k % 2 == 1) = false := by simpa using ho
          have ho2 : turnI x k % 2 = 0 := by omega
          have HO := Lib.hid ho2
          clear ho ho2
          go_wp2
          go_round
          case rel => exact ⟨k + 1, by omega, by go_num, by rw [show ((k + 1 : Nat) : Int) = (k : Int) + 1 from by omega, ← HS.out, HO.out]; go_num⟩
          case measure => simp [intOf]; omega
      · have hk' : (k : Int) = r := by omega
        have HK := Lib.hid hk'
        clear hk'
        go_wp2
        go_ret
        exact ⟨ret_int (by rw [HK.out, HF.out]), rfl⟩

theorem info5 : (Try.prog.info? 5).map (fun i => (i.zero, i.size, i.bytes)) = some (some (.int .u8 0), 1, 1) := by kernel_rfl
theorem addr_add (g j : Nat) : (⟨g, 0, none⟩ : Addr).add j = ⟨g, j, none⟩ := by unfold Addr.add; split <;> simp_all
/-- A block that was just laid is a row of the call's own. -/
theorem own_new {w : World} {base : Nat} {e : TypeId} (xs : List Value) (hb : base ≤ w.heap.size) (hm : xs.length ≤ maxLen) :
    (w.alloc (.cells xs.toArray e)).ownsRow base e 1 (.slice (some ⟨w.heap.size, 0, none⟩) xs.length xs.length) xs.length xs :=
  ⟨by simp, .inr ⟨w.heap.size, xs.length, xs.toArray, rfl, hb, by show (w.heap.push _)[w.heap.size]? = _; simp, Nat.le_refl _, hm, by simp, by simp⟩⟩
/-- The cells of a row of the call's own. -/
theorem own_open {w : World} {base : Nat} {e : TypeId} {v : Value} {n : Nat} {xs : List Value} (h : w.ownsRow base e 1 v n xs) (hv : v ≠ .slice none 0 0) :
    ∃ g c, v = .slice (some ⟨g, 0, none⟩) n c ∧ base ≤ g ∧ g < w.heap.size ∧ n ≤ c ∧ c ≤ maxLen ∧ ∀ j u, xs[j]? = some u → w.cell? ⟨g, j, none⟩ = some u := by
  obtain ⟨hl, ⟨hv', _⟩ | ⟨g, cap, cur, hv', hb, hg, hn, hc, _, _⟩⟩ := id h
  · exact absurd hv' hv
  · refine ⟨g, cap, hv', hb, ?_, hn, hc, fun j u hj => ?_⟩
    · exact (h.lt g (by rw [hv']; rfl)).2
    · have := h.cells (g := g) (by rw [hv']; rfl) j u hj
      rwa [addr_add] at this

set_option maxHeartbeats 400000 in
theorem put32_any (x : Int) (h0 : 0 ≤ x) (h1 : x ≤ 4294967295) (w : World) :
    Calls Try.prog 29 #[.int .u32 x] w fun e w' => e = .returned (.string (putB x.toNat 4)) ∧ Below w.heap.size w w' := by
  have hcv : ∀ a b c d : Int, (convert 41 9 (.slice (some { block := w.heap.size, off := 0 }) 4 4)).run Try.prog (w.alloc (.cells #[.int .u8 a, .int .u8 b, .int .u8 c, .int .u8 d] 5)) = .ok (.string (strOfNums [a,b,c,d])) (w.alloc (.cells #[.int .u8 a, .int .u8 b, .int .u8 c, .int .u8 d] 5)) := fun a b c d =>
    run_convert_bytes_arg _ 41 5 Try.underlying41 Try.underlying5 _ 0 4 4 [a,b,c,d] rfl (fun i hi => by
      match i, hi with
      | 0, _ => simp [World.cell?_alloc_new]
      | 1, _ => simp [World.cell?_alloc_new]
      | 2, _ => simp [World.cell?_alloc_new]
      | 3, _ => simp [World.cell?_alloc_new]) 9 Try.underlying9
  have HF := Lib.hid (put4_eq x h0 h1)
  go_enter Try.func29, Try.ntmps29
  go_wp2
  go_returns
  exact ⟨ret_string HF.out, by go_grown⟩

set_option maxHeartbeats 400000 in
theorem refPut_any (x n : Int) (h0 : 0 ≤ x) (h1 : x ≤ 18446744073709551615) (n0 : 0 ≤ n) (n1 : n ≤ 1000) (w : World) :
    Calls Try.prog 23 #[.int .u64 x, .int .i64 n] w fun e w' => e = .returned (.string (putB x.toNat n.toNat)) ∧ Below w.heap.size w w' := by
  obtain ⟨x, rfl⟩ := Int.eq_ofNat_of_zero_le h0
  obtain ⟨n, rfl⟩ := Int.eq_ofNat_of_zero_le n0
  rw [Int.toNat_natCast, Int.toNat_natCast]
  obtain ⟨i0, hi, hz0, hz1, hz2⟩ := info_parts info5
  go_enter Try.func23, Try.ntmps23
  go_wp2
  go_loopw [0, 5, 6] (fun xv ov i wr => ∃ k c g : Nat, k ≤ n ∧ i = .int .i64 k ∧ xv = .int .u64 ((x / 256 ^ k : Nat) : Int) ∧ ov = .slice (some ⟨g, 0, none⟩) k c ∧ g < wr.heap.size ∧ Below w.heap.size w wr ∧
      ∀ j u, ((putL x k).map (Value.int .u8))[j]? = some u → wr.cell? ⟨g, j, none⟩ = some u) (fun _ _ i _ => n - (intOf i).toNat)
  case atStart => exact ⟨0, 0, _, by omega, rfl, by simp, rfl, by simp, by go_grown, by simp [putL]⟩
  case round =>
    obtain ⟨k, c, g, hk, rfl, rfl, rfl, hg, hB, hcell⟩ := hrel
    have hpl := putL_length x k
    have hcons := putL_cons x k
    have hdd : x / 256 ^ k / 256 = x / 256 ^ (k + 1) := by rw [Nat.div_div_eq_div_mul, Nat.pow_succ]
    have hle : x / 256 ^ k ≤ x := Nat.div_le_self _ _
    generalize hy : x / 256 ^ k = y at *
    have hyb : (y : Int) ≤ 18446744073709551615 := by omega
    have HC := Lib.hid hcons
    have HD := Lib.hid hdd
    have HP := Lib.hid hpl
    have HL := Lib.hid hcell
    have HX := Lib.hid h1
    clear hcons hdd hpl hy hcell hle h1
    by_cases hlt : k < n
    · go_wp2_with (at_builtin; refine wpList_append_own _ rfl (.tmp 16) (.tmp 17) 41 rfl w.heap.size 5 i0 (.int .u8 0) 1 1 Try.underlying41 hi hz0 hz1 hz2 rfl (by decide) _ 1 [.int .u8 ((y : Int) % 256)] rfl ?c0 ⟨g, 0, none⟩ k c ((putL x k).map (Value.int .u8)) rfl ?c1 ?c2 ?c3 ?c4 ?c5 ?c6 ?_)
      case c0 => exact own_new (w := wr) [.int .u8 ((y : Int) % 256)] hB.size (by simp [maxLen])
      case c1 => have := HP.out; simpa using this
      case c2 =>
        intro j u hj
        rw [addr_add, World.cell?_alloc_past _ _ _ hg]
        exact HL.out j u hj
      case c3 => exact ints_oneCell _ _
      case c4 => unfold maxLen; omega
      case c5 => omega
      case c6 => have := hB.size; simp; omega
      intro v' w1 hown hgr hnil
      obtain ⟨g', c', hv, hg1, hg2, hg3, _, hcell'⟩ := own_open hown (by intro h; simp [h] at hnil)
      have HV := Lib.hid hv
      have HN := Lib.hid hcell'
      have HB : Below w.heap.size w w1 := (hB.alloc hB.size _).grown hgr (by have := hB.size; simp; omega) (by intro k hk; have := hB.size; simp [Value.ownBlock] at hk; omega)
      clear hv hcell' hnil hown hgr
      go_wp2
      go_roundw
      case rel =>
        refine ⟨k + 1, c', g', by omega, by go_num, ?_, ?_, hg2, HB, ?_⟩
        · rw [← HD.out]; simp
        · rw [HV.out, Nat.add_comm]
        · intro j u hj; rw [HC.out] at hj; exact HN.out j u (by simpa using hj)
      case measure => simp [intOf]; omega
    · have hk' : k = n := by omega
      subst hk'
      have hcv := run_convert_bytes_arg (P := Try.prog) wr 41 5 Try.underlying41 Try.underlying5 g 0 k c (putL x k) HP.out (fun i hi => by
        have := HL.out i (.int .u8 ((putL x k).getD i 0)) (by have := HP.out; rw [List.getElem?_map, List.getElem?_eq_getElem (by omega)]; simp [List.getD, List.getElem?_eq_getElem (show i < (putL x k).length by omega)])
        simpa using this) 9 Try.underlying9
      clear HL HC HD HP
      go_wp2
      go_returns
      exact ⟨rfl, hB⟩

theorem bt_at {s : ByteArray} {k : Nat} (h : k < s.size) : ((s[k]'h).toNat : Int) = bt s k := get_bt s k h

set_option maxHeartbeats 400000 in
theorem get32_in (s : ByteArray) (i : Int) (h0 : 0 ≤ i) (h1 : i + 4 ≤ s.size) (hm : (s.size : Int) ≤ 9223372036854775807) (w : World) :
    Calls Try.prog 44 #[.string s, .int .i64 i] w fun e w' => e = .returned (.tuple #[.int .u32 (getI s i.toNat), .bool true]) ∧ Below w.heap.size w w' := by
  obtain ⟨k, rfl⟩ := Int.eq_ofNat_of_zero_le h0
  have i0 : (k : Int) < s.size := by omega
  have i1 : (k : Int) + 1 < s.size := by omega
  have i2 : (k : Int) + 2 < s.size := by omega
  have i3 : (k : Int) + 3 < s.size := by omega
  have p1 : 0 ≤ (k : Int) + 1 := by omega
  have p2 : 0 ≤ (k : Int) + 2 := by omega
  have p3 : 0 ≤ (k : Int) + 3 := by omega
  have t1 : ((k : Int) + 1).toNat = k + 1 := by omega
  have t2 : ((k : Int) + 2).toNat = k + 2 := by omega
  have t3 : ((k : Int) + 3).toNat = k + 3 := by omega
  have w1 : IntKind.i64.wrap ((k : Int) + 1) = (k : Int) + 1 := IntWalk.i64_in _ (by omega)
  have w2 : IntKind.i64.wrap ((k : Int) + 2) = (k : Int) + 2 := IntWalk.i64_in _ (by omega)
  have w3 : IntKind.i64.wrap ((k : Int) + 3) = (k : Int) + 3 := IntWalk.i64_in _ (by omega)
  have HF : Hid _ := Lib.hid (get_eq2 (bt s k) (bt s (k + 1)) (bt s (k + 2)) (bt s (k + 3)) ⟨bt_nonneg _ _, bt_le _ _⟩ ⟨bt_nonneg _ _, bt_le _ _⟩ ⟨bt_nonneg _ _, bt_le _ _⟩ ⟨bt_nonneg _ _, bt_le _ _⟩)
  go_enter Try.func44, Try.ntmps44
  go_wp2
  go_quiet (fail)
  go_wp2
  go_returns
  exact ⟨by simp only [bt_at]; exact ret_two (by exact congrArg _ (HF.out.trans rfl)) rfl, below_drewN (Below.refl _ _) _⟩

set_option maxHeartbeats 400000 in
theorem get32_out (s : ByteArray) (i : Int) (h1 : i < 0 ∨ (s.size : Int) < i + 4) (hm : (s.size : Int) ≤ 9223372036854775807) (w : World) :
    Calls Try.prog 44 #[.string s, .int .i64 i] w fun e w' => e = .returned (.tuple #[.int .u32 0, .bool false]) ∧ w = w' := by
  by_cases hi : i < 0
  · clear h1
    go_enter Try.func44, Try.ntmps44
    go_wp2
    go_returns
    exact ⟨rfl, rfl⟩
  · have h2 : (s.size : Int) - 4 < i := by omega
    clear h1
    go_enter Try.func44, Try.ntmps44
    go_wp2
    go_returns
    exact ⟨rfl, rfl⟩

set_option maxHeartbeats 400000 in
theorem put64_any (x : Int) (h0 : 0 ≤ x) (h1 : x ≤ 18446744073709551615) (w : World) :
    Calls Try.prog 39 #[.int .u64 x] w fun e w' => e = .returned (.string (putB x.toNat 8)) ∧ Below w.heap.size w w' := by
  have HF := Lib.hid (put8_eq x.toNat)
  have e1 : x.toNat / 4294967296 = (x / 4294967296).toNat := by omega
  have e2 : x.toNat % 4294967296 = (x % 4294967296).toNat := by omega
  rw [e1, e2] at HF
  clear e1 e2
  go_enter Try.func39, Try.ntmps39
  go_wp2_with fail
  refine (put32_any _ (by omega) (by omega) _).mono ?_
  rintro e w1 ⟨rfl, hb1⟩
  go_wp2_with fail
  refine (put32_any _ (by omega) (by omega) _).mono ?_
  rintro e w2 ⟨rfl, hb2⟩
  have hb := hb1.trans (hb2.mono hb1.size)
  clear hb1 hb2
  go_wp2
  go_returns
  exact ⟨ret_string HF.out, hb⟩
