/- SHA-256 as plain numbers: constants, schedule, rounds, blocks, padding, digest; and what of a text's blocks hangs on its beginning alone. They hold of numbers and texts alone, under no condition on the program. -/
import Derived.Test.YtfkfkoebplpooaaNum
import Derived.Test.YtfkfkoebplpooaaRoot
import Derived.Test.YtfkfkoebplpooaaPrime
namespace Go.Proofs.Ytfkfkoebplpooaa
open Go.PlainAid
set_option linter.unusedVariables false
/-! ### words -/
def ad (x y : Int) : Int := IntKind.u32.wrap (x + y)
def xr (x y : Int) : Int := bits .xor .u32 x y
def an (x y : Int) : Int := bits .and .u32 x y
theorem ad_bd (x y : Int) : 0 ≤ ad x y ∧ ad x y ≤ 4294967295 := by unfold ad; rw [IntKind.wrap_u32]; omega
theorem xr_bd (x y : Int) : 0 ≤ xr x y ∧ xr x y ≤ 4294967295 := by
  unfold xr; rw [bits_xor32]
  have := (BitVec.ofInt 32 x ^^^ BitVec.ofInt 32 y).isLt
  omega
theorem an_bd (x y : Int) : 0 ≤ an x y ∧ an x y ≤ 4294967295 := by
  unfold an; rw [bits_and32]
  have := (BitVec.ofInt 32 x &&& BitVec.ofInt 32 y).isLt
  omega
def sg (x i j k : Int) : Int := xr (xr (turnI x i) (turnI x j)) (turnI x k)
def sh0 (x : Int) : Int := xr (xr (turnI x 7) (turnI x 18)) (x / 8)
def sh1 (x : Int) : Int := xr (xr (turnI x 17) (turnI x 19)) (x / 1024)

/-! ### a block -/
structure St where
  a : Int
  b : Int
  c : Int
  d : Int
  e : Int
  f : Int
  g : Int
  h : Int
def St.l (s : St) : List Int := [s.a, s.b, s.c, s.d, s.e, s.f, s.g, s.h]
def wd (x : Int) : Prop := 0 ≤ x ∧ x ≤ 4294967295
def St.ok (s : St) : Prop := wd s.a ∧ wd s.b ∧ wd s.c ∧ wd s.d ∧ wd s.e ∧ wd s.f ∧ wd s.g ∧ wd s.h
def tT (s : St) (k w : Int) : Int := ad (ad (ad (ad s.h (sg s.e 6 11 25)) (xr (an s.e s.f) (an (4294967295 - s.e) s.g))) k) w
def tU (s : St) : Int := ad (sg s.a 2 13 22) (xr (xr (an s.a s.b) (an s.a s.c)) (an s.b s.c))
def rnd (s : St) (k w : Int) : St := ⟨ad (tT s k w) (tU s), s.a, s.b, s.c, ad s.d (tT s k w), s.e, s.f, s.g⟩
theorem rnd_ok {s : St} {k w : Int} (h : s.ok) : (rnd s k w).ok := by
  obtain ⟨h1, h2, h3, h4, h5, h6, h7, h8⟩ := h
  exact ⟨ad_bd _ _, h1, h2, h3, ad_bd _ _, h5, h6, h7⟩
def addS (s t : St) : St := ⟨ad s.a t.a, ad s.b t.b, ad s.c t.c, ad s.d t.d, ad s.e t.e, ad s.f t.f, ad s.g t.g, ad s.h t.h⟩
theorem addS_ok (s t : St) : (addS s t).ok := ⟨ad_bd _ _, ad_bd _ _, ad_bd _ _, ad_bd _ _, ad_bd _ _, ad_bd _ _, ad_bd _ _, ad_bd _ _⟩
def nxt (l : List Int) (i : Nat) : Int := ad (ad (ad (l.getD (i - 16) 0) (sh0 (l.getD (i - 15) 0))) (l.getD (i - 7) 0)) (sh1 (l.getD (i - 2) 0))
def schd (m : List Int) : Nat → List Int
  | 0 => m
  | n + 1 => (fun l => l ++ [nxt l (16 + n)]) (schd m n)
theorem schd_succ (m : List Int) (n : Nat) : schd m (n + 1) = schd m n ++ [nxt (schd m n) (16 + n)] := rfl
theorem schd_length (m : List Int) (n : Nat) : (schd m n).length = m.length + n := by
  induction n with
  | zero => rfl
  | succ n ih => rw [schd_succ, List.length_append, ih]; simp; omega
theorem schd_bd {m : List Int} (hm : ∀ x ∈ m, wd x) : ∀ n, ∀ x ∈ schd m n, wd x
  | 0 => hm
  | n + 1 => by
    intro x hx
    rw [schd_succ] at hx
    rcases List.mem_append.1 hx with h | h
    · exact schd_bd hm n x h
    · simp at h; subst h; exact ad_bd _ _
def words (b : ByteArray) : List Int := (List.range 16).map fun i => getI b (4 * i)
theorem words_length (b : ByteArray) : (words b).length = 16 := by simp [words]
theorem words_bd (b : ByteArray) : ∀ x ∈ words b, wd x := by
  intro x hx
  obtain ⟨i, _, rfl⟩ := List.mem_map.1 hx
  exact getI_bd b _
def mixR (s : St) (k w : List Int) : Nat → St
  | 0 => s
  | n + 1 => rnd (mixR s k w n) (k.getD n 0) (w.getD n 0)
theorem mixR_ok {s : St} {k w : List Int} (h : s.ok) : ∀ n, (mixR s k w n).ok
  | 0 => h
  | n + 1 => rnd_ok (mixR_ok h n)
def addL (u s : List Int) (i : Nat) : List Int := (List.range u.length).map fun j => if j < i then ad (u.getD j 0) (s.getD j 0) else u.getD j 0
theorem addL_length (u s : List Int) (i : Nat) : (addL u s i).length = u.length := by simp [addL]
theorem addL_zero (u s : List Int) : addL u s 0 = u := by
  apply List.ext_getElem
  · simp [addL]
  · intro j h1 h2
    simp [addL, List.getD, List.getElem?_eq_getElem h2]
theorem addL_get (u s : List Int) {i j : Nat} (h : j < u.length) : (addL u s i).getD j 0 = if j < i then ad (u.getD j 0) (s.getD j 0) else u.getD j 0 := by
  simp [addL, List.getD, h]
theorem addL_set (u s : List Int) {i : Nat} (h : i < u.length) : (addL u s i).set i (ad (u.getD i 0) (s.getD i 0)) = addL u s (i + 1) := by
  apply List.ext_getElem
  · simp [addL]
  · intro j h1 h2
    rw [List.getElem_set]
    by_cases e : i = j
    · subst e; simp [addL]
    · rw [if_neg e]
      simp only [addL, List.getElem_map, List.getElem_range]
      by_cases h3 : j < i
      · rw [if_pos h3, if_pos (by omega)]
      · rw [if_neg h3, if_neg (by omega)]
theorem addL_done (t s : St) : addL t.l s.l 8 = (addS t s).l := rfl
def mixB (k : List Int) (s : St) (b : ByteArray) : St := addS (mixR s k (schd (words b) 48) 64) s
theorem mixB_ok (k : List Int) (s : St) (b : ByteArray) : (mixB k s b).ok := addS_ok _ _

/-! ### the constants -/
/-- The greatest number whose k-th power is at most n, bit by bit from 2^40 down; so many bits are done. -/
def rb (n k : Nat) : Nat → Nat
  | 0 => 0
  | j + 1 => (fun r => if (r + 2 ^ (40 - j)) ^ k ≤ n then r + 2 ^ (40 - j) else r) (rb n k j)
theorem rb_next (n k j : Nat) : rb n k (j + 1) = if (rb n k j + 2 ^ (40 - j)) ^ k ≤ n then rb n k j + 2 ^ (40 - j) else rb n k j := rfl
theorem rb_inv {n k : Nat} (hk : 1 ≤ k) (hn : n < (2 ^ 41) ^ k) : ∀ j, j ≤ 41 → rb n k j ^ k ≤ n ∧ n < (rb n k j + 2 ^ (41 - j)) ^ k ∧ rb n k j + 2 ^ (41 - j) ≤ 2 ^ 41
  | 0, _ => by
    refine ⟨?_, by simpa [rb] using hn, by simp [rb]⟩
    rw [rb, Nat.zero_pow (by omega)]; omega
  | j + 1, hj => by
    obtain ⟨h1, h2, h3⟩ := rb_inv hk hn j (by omega)
    have e : 2 ^ (41 - j) = 2 ^ (40 - j) + 2 ^ (40 - j) := by
      rw [show 41 - j = (40 - j) + 1 by omega, Nat.pow_succ]; omega
    have e2 : 41 - (j + 1) = 40 - j := by omega
    have e3 := Nat.two_pow_pos (40 - j)
    rw [rb_next, e2]
    by_cases h : (rb n k j + 2 ^ (40 - j)) ^ k ≤ n
    · rw [if_pos h]; exact ⟨h, by rw [Nat.add_assoc, ← e]; exact h2, by omega⟩
    · rw [if_neg h]; exact ⟨h1, by omega, by omega⟩
/-- The first 32 bits behind the point of p's k-th root, with what stands ahead of the point. -/
def kr (p k : Nat) : Nat := rb (p * 2 ^ (32 * k)) k 41
theorem kr_spec {p k : Nat} (hk : 1 ≤ k) (hp : p < 512) : kr p k ^ k ≤ p * 2 ^ (32 * k) ∧ p * 2 ^ (32 * k) < (kr p k + 1) ^ k ∧ kr p k < 2 ^ 41 := by
  have h := rb_inv (n := p * 2 ^ (32 * k)) (k := k) hk (by
    rw [← Nat.pow_mul, show 41 * k = 9 * k + 32 * k by omega, Nat.pow_add]
    apply Nat.mul_lt_mul_of_pos_right _ (Nat.two_pow_pos _)
    calc p < 2 ^ 9 := hp
      _ ≤ 2 ^ (9 * k) := Nat.pow_le_pow_right (by omega) (by omega)) 41 (by omega)
  obtain ⟨h1, h2, h3⟩ := h
  exact ⟨h1, h2, by unfold kr; simp only [Nat.sub_self, Nat.pow_zero] at h3; omega⟩
def kw (p k : Nat) : Int := ((kr p k % 4294967296 : Nat) : Int)
theorem kw_bd (p k : Nat) : wd (kw p k) := by unfold kw wd; omega
def KS : List Int := (pl 312).map fun p => kw p 3
def S0 : St := ⟨kw 2 2, kw 3 2, kw 5 2, kw 7 2, kw 11 2, kw 13 2, kw 17 2, kw 19 2⟩
theorem S0_ok : S0.ok := ⟨kw_bd _ _, kw_bd _ _, kw_bd _ _, kw_bd _ _, kw_bd _ _, kw_bd _ _, kw_bd _ _, kw_bd _ _⟩
theorem pl20 : pl 20 = [2, 3, 5, 7, 11, 13, 17, 19] := by decide +kernel
theorem pl312_length : (pl 312).length = 64 := by decide +kernel
theorem KS_length : KS.length = 64 := by rw [KS, List.length_map, pl312_length]
theorem KS_bd : ∀ x ∈ KS, wd x := by
  intro x hx
  obtain ⟨p, _, rfl⟩ := List.mem_map.1 hx
  exact kw_bd _ _
theorem S0_list : S0.l = (pl 20).map fun p => kw p 2 := by rw [pl20]; rfl

theorem pl_prefix {a b : Nat} (h : a ≤ b) : ∃ t, pl b = pl a ++ t := by
  induction h with
  | refl => exact ⟨[], by simp⟩
  | step _ ih =>
    rename_i m _
    obtain ⟨t, ht⟩ := ih
    by_cases hp : primeB m = true
    · exact ⟨t ++ [m], by rw [Nat.succ_eq_add_one, pl, if_pos hp, ht, List.append_assoc]⟩
    · exact ⟨t, by rw [Nat.succ_eq_add_one, pl, if_neg hp, ht]⟩
theorem pl_64 {c : Nat} (h : c ≤ 312) (h64 : (pl c).length = 64) : pl c = pl 312 := by
  obtain ⟨t, ht⟩ := pl_prefix h
  have := congrArg List.length ht
  rw [pl312_length, List.length_append, h64] at this
  have ht0 : t = [] := List.eq_nil_of_length_eq_zero (by omega)
  rw [ht, ht0, List.append_nil]
theorem pl312_take : (pl 312).take 8 = pl 20 := by decide +kernel
theorem pl_lt_312 {c : Nat} (h : (pl c).length < 64) : c < 312 := by
  apply Nat.lt_of_not_le
  intro h'
  have := pl_len_mono h'
  rw [pl312_length] at this
  omega

/-! ### texts -/
def stAt (b : ByteArray) : Nat → St
  | 0 => S0
  | n + 1 => mixB KS (stAt b n) (b.extract (64 * n) (64 * n + 64))
theorem stAt_ok (b : ByteArray) : ∀ n, (stAt b n).ok
  | 0 => S0_ok
  | _ + 1 => mixB_ok _ _ _
theorem extract_left {a b : ByteArray} {i j : Nat} (h : j ≤ a.size) : (a ++ b).extract i j = a.extract i j := by
  apply bt_ext
  · rw [ByteArray.size_extract, ByteArray.size_extract, ByteArray.size_append]; omega
  · intro k hk
    rw [ByteArray.size_extract, ByteArray.size_append] at hk
    rw [bt_extract (by rw [ByteArray.size_append]; omega) (by omega), bt_extract h (by omega), bt_append_left (by omega)]
theorem stAt_left {a b : ByteArray} : ∀ n, 64 * n ≤ a.size → stAt (a ++ b) n = stAt a n
  | 0, _ => rfl
  | n + 1, h => by rw [stAt, stAt, stAt_left n (by omega), extract_left (by omega)]
def zeroB (n : Nat) : ByteArray := ⟨(List.replicate n (0 : UInt8)).toArray⟩
theorem zeroB_size (n : Nat) : (zeroB n).size = n := by simp [zeroB, ByteArray.size]
def padZ (n : Nat) : Nat := (119 - n % 64) % 64
/-- What stands behind n bytes. -/
def tailB (n : Nat) : ByteArray := ⟨#[128]⟩ ++ zeroB (padZ n) ++ putB (8 * n) 8
def padB (b : ByteArray) : ByteArray := b ++ tailB b.size
theorem tailB_size (n : Nat) : (tailB n).size = 9 + padZ n := by
  unfold tailB
  rw [ByteArray.size_append, ByteArray.size_append, zeroB_size, putB_size]
  show 1 + padZ n + 8 = _
  omega
theorem padB_size (b : ByteArray) : (padB b).size % 64 = 0 := by
  unfold padB; rw [ByteArray.size_append, tailB_size]; unfold padZ; omega
def digB (s : St) : ByteArray :=
  putB s.a.toNat 4 ++ putB s.b.toNat 4 ++ putB s.c.toNat 4 ++ putB s.d.toNat 4 ++ putB s.e.toNat 4 ++ putB s.f.toNat 4 ++ putB s.g.toNat 4 ++ putB s.h.toNat 4
theorem digB_size (s : St) : (digB s).size = 32 := by
  unfold digB; simp only [ByteArray.size_append, putB_size]
def dgP (s : St) : Nat → ByteArray
  | 0 => ByteArray.empty
  | i + 1 => dgP s i ++ putB (s.l.getD i 0).toNat 4
theorem dgP_size (s : St) (i : Nat) : (dgP s i).size = 4 * i := by
  induction i with
  | zero => rfl
  | succ i ih => rw [dgP, ByteArray.size_append, ih, putB_size]; omega
theorem dgP_done (s : St) : dgP s 8 = digB s := by
  simp only [dgP, digB, ByteArray.empty_append]; rfl
theorem okL {s : St} (h : s.ok) {i : Nat} (hi : i < 8) : wd (s.l.getD i 0) := by
  obtain ⟨h1, h2, h3, h4, h5, h6, h7, h8⟩ := h
  have : i = 0 ∨ i = 1 ∨ i = 2 ∨ i = 3 ∨ i = 4 ∨ i = 5 ∨ i = 6 ∨ i = 7 := by omega
  rcases this with rfl | rfl | rfl | rfl | rfl | rfl | rfl | rfl <;> assumption

def shaB (b : ByteArray) : ByteArray := digB (stAt (padB b) ((padB b).size / 64))
theorem shaB_size (b : ByteArray) : (shaB b).size = 32 := digB_size _
theorem sha_abc : shaB ⟨#[97, 98, 99]⟩ = ⟨#[0xba, 0x78, 0x16, 0xbf, 0x8f, 0x01, 0xcf, 0xea, 0x41, 0x41, 0x40, 0xde, 0x5d, 0xae, 0x22, 0x23, 0xb0, 0x03, 0x61, 0xa3, 0x96, 0x17, 0x7a, 0x9c, 0xb4, 0x10, 0xff, 0x61, 0xf2, 0x00, 0x15, 0xad]⟩ := by decide +kernel
theorem sha_none : (shaB ⟨#[]⟩).extract 0 4 = ⟨#[0xe3, 0xb0, 0xc4, 0x42]⟩ := by decide +kernel
end Go.Proofs.Ytfkfkoebplpooaa
