/- A sorter, in plain words: what it is behind each byte, each end. They hold of any bytes. -/
import Derived.Test.YtnlhpldjficecaaOrd
import Derived.Test.YtnlhpldjficecaaBytes
namespace Go.Proofs.Ytnlhpldjficecaa
open Go.PlainAid
set_option linter.unusedVariables false
/-- The element ahead (empty at first), the one that came last as far as it came, how many are over, the error. -/
structure OM where
  most : Nat
  prev : List Int
  last : List Int
  n : Nat
  e : Int
def OM.new (most : Int) : OM := ⟨(min (max most 0) 65536).toNat, [], [], 0, 0⟩
def OM.reset (m : OM) : OM := ⟨m.most, [], [], 0, 0⟩
def OM.push (m : OM) (b : Int) : OM := if m.e ≠ 0 then m else if m.most < m.last.length + 1 then { m with e := 11 } else { m with last := m.last ++ [b] }
def OM.fin (m : OM) : OM := if m.e ≠ 0 then m else if 0 < cmpL m.prev m.last then { m with e := 9 } else { m with prev := m.last, last := [], n := m.n + 1 }
structure OM.Ok (m : OM) : Prop where
  most : m.most ≤ 65536
  prev : IsB m.prev
  last : IsB m.last
  len : m.last.length ≤ m.most
  plen : m.prev.length ≤ m.most
  err : m.e = 0 ∨ m.e = 9 ∨ m.e = 11
theorem OM.new_ok (most : Int) : (OM.new most).Ok := ⟨by unfold OM.new; simp; omega, fun _ h => by simp [OM.new] at h, fun _ h => by simp [OM.new] at h, Nat.zero_le _, Nat.zero_le _, .inl rfl⟩
theorem OM.reset_ok {m : OM} (h : m.Ok) : m.reset.Ok := ⟨h.most, fun _ h => by simp [OM.reset] at h, fun _ h => by simp [OM.reset] at h, Nat.zero_le _, Nat.zero_le _, .inl rfl⟩
theorem OM.push_err {m : OM} (b : Int) (h : m.e ≠ 0) : m.push b = m := by unfold OM.push; rw [if_pos h]
theorem OM.push_over {m : OM} (b : Int) (h : m.e = 0) (h2 : m.most < m.last.length + 1) : m.push b = { m with e := 11 } := by unfold OM.push; rw [if_neg (by simpa using h), if_pos h2]
theorem OM.push_on {m : OM} (b : Int) (h : m.e = 0) (h2 : ¬ m.most < m.last.length + 1) : m.push b = { m with last := m.last ++ [b] } := by unfold OM.push; rw [if_neg (by simpa using h), if_neg h2]
theorem OM.fin_err {m : OM} (h : m.e ≠ 0) : m.fin = m := by unfold OM.fin; rw [if_pos h]
theorem OM.fin_over {m : OM} (h : m.e = 0) (h2 : 0 < cmpL m.prev m.last) : m.fin = { m with e := 9 } := by unfold OM.fin; rw [if_neg (by simpa using h), if_pos h2]
theorem OM.fin_on {m : OM} (h : m.e = 0) (h2 : ¬ 0 < cmpL m.prev m.last) : m.fin = { m with prev := m.last, last := [], n := m.n + 1 } := by unfold OM.fin; rw [if_neg (by simpa using h), if_neg h2]
theorem OM.push_ok {m : OM} (h : m.Ok) {b : Int} (hb : 0 ≤ b ∧ b ≤ 255) : (m.push b).Ok := by
  by_cases he : m.e = 0
  · by_cases hl : m.most < m.last.length + 1
    · rw [OM.push_over b he hl]; exact ⟨h.most, h.prev, h.last, h.len, h.plen, .inr (.inr rfl)⟩
    · rw [OM.push_on b he hl]
      exact ⟨h.most, h.prev, h.last.append (IsB.cons hb.1 hb.2 (fun _ h => by simp at h)), by show (m.last ++ [b]).length ≤ _; rw [List.length_append, List.length_singleton]; have := h.len; show _ ≤ m.most; omega, h.plen, h.err⟩
  · rw [OM.push_err b he]; exact h
theorem OM.fin_ok {m : OM} (h : m.Ok) : m.fin.Ok := by
  by_cases he : m.e = 0
  · by_cases hl : 0 < cmpL m.prev m.last
    · rw [OM.fin_over he hl]; exact ⟨h.most, h.prev, h.last, h.len, h.plen, .inr (.inl rfl)⟩
    · rw [OM.fin_on he hl]; exact ⟨h.most, h.last, fun _ h => by simp at h, Nat.zero_le _, h.len, h.err⟩
  · rw [OM.fin_err he]; exact h
/-- What is alike plays no part. -/
theorem cmpL_front (a x y : List Int) : cmpL (a ++ x) (a ++ y) = cmpL x y := by
  induction a with
  | nil => rfl
  | cons c r ih => rw [List.cons_append, List.cons_append, cmpL, cmp1_zero.2 rfl]; simpa using ih
theorem cmpL_none_ahead {l : List Int} (h : IsB l) : ¬ 0 < cmpL [] l := by
  induction l with
  | nil => simp [cmpL]
  | cons x r ih =>
    rw [cmpL]
    have hx := h x (.head _)
    have hc := cmp1_cases 0 x
    by_cases h0 : cmp1 0 x = 0
    · rw [if_neg (by omega)]; exact ih (fun y hy => h y (.tail _ hy))
    · rw [if_pos h0]; omega
theorem cmpL_zeros_only {l : List Int} (h : ∀ x ∈ l, x = 0) (r : List Int) : cmpL (r ++ l) = cmpL r := by
  funext q
  have : l = List.replicate l.length 0 := List.eq_replicate_iff.2 ⟨rfl, h⟩
  rw [this, cmpL_zeros]
theorem cmpL_rest {l : List Int} (h : IsB l) : 0 < cmpL l [] ↔ ∃ x ∈ l, 0 < x := by
  induction l with
  | nil => simp [cmpL]
  | cons x r ih =>
    have hx := h x (.head _)
    have ih := ih (fun y hy => h y (.tail _ hy))
    rw [cmpL]
    have hc := cmp1_cases x 0
    by_cases h0 : cmp1 x 0 = 0
    · rw [if_neg (by omega), ih]
      constructor
      · rintro ⟨y, hy, hy2⟩; exact ⟨y, .tail _ hy, hy2⟩
      · rintro ⟨y, hy, hy2⟩
        rcases List.mem_cons.1 hy with rfl | hy
        · omega
        · exact ⟨y, hy, hy2⟩
    · rw [if_pos h0]
      exact ⟨fun _ => ⟨x, .head _, by omega⟩, fun _ => by omega⟩
/-- What the landed code keeps of it: the element ahead (or what counts of it), how many bytes came, and whether that comes first. -/
structure Keeps (m : OM) (high : List Int) (first : Bool) : Prop where
  isB : IsB high
  hlen : high.length ≤ 65536
  yes : first = true → ∀ ext, IsB ext → 0 < cmpL m.prev (m.last ++ ext)
  no : first = false → m.last.length ≤ high.length ∧ high.take m.last.length = m.last ∧ ∀ ext, IsB ext → (0 < cmpL m.prev (m.last ++ ext) ↔ 0 < cmpL high (m.last ++ ext))
theorem keeps_new (most : Nat) (n : Nat) (e : Int) : Keeps ⟨most, [], [], n, e⟩ [] false :=
  ⟨fun _ h => by simp at h, Nat.zero_le _, fun h => Bool.noConfusion h, fun _ => ⟨Nat.le_refl _, rfl, fun ext _ => Iff.rfl⟩⟩
theorem take_next {l : List Int} {k : Nat} {b : Int} (h : l[k]? = some b) : l.take (k + 1) = l.take k ++ [b] := by
  rw [List.take_add_one, h]; rfl
theorem drop_at {l : List Int} {k : Nat} {b : Int} (h : l[k]? = some b) : l.drop k = b :: l.drop (k + 1) := by
  obtain ⟨hk, hb⟩ := List.getElem?_eq_some_iff.1 h
  rw [List.drop_eq_getElem_cons hk, hb]
theorem isB_take {l : List Int} (h : IsB l) (k : Nat) : IsB (l.take k) := fun x hx => h x (List.mem_of_mem_take hx)
theorem isB_one {b : Int} (hb : 0 ≤ b ∧ b ≤ 255) : IsB [b] := IsB.cons hb.1 hb.2 (fun _ h => by simp at h)
theorem isB_cons {b : Int} {l : List Int} (hb : 0 ≤ b ∧ b ≤ 255) (h : IsB l) : IsB (b :: l) := IsB.cons hb.1 hb.2 h
theorem ext_on (m : OM) (b : Int) (ext : List Int) : m.last ++ [b] ++ ext = m.last ++ (b :: ext) := by rw [List.append_assoc]; rfl
/-- A byte, when it is decided already. -/
theorem keeps_first {m : OM} {high : List Int} (h : Keeps m high true) {b : Int} (hb : 0 ≤ b ∧ b ≤ 255) : Keeps { m with last := m.last ++ [b] } high true :=
  ⟨h.isB, h.hlen, fun _ ext he => by
    show 0 < cmpL m.prev (m.last ++ [b] ++ ext)
    rw [ext_on]; exact h.yes rfl (b :: ext) (isB_cons hb he), fun h => by cases h⟩
/-- A byte behind all of the one ahead, or a greater one. -/
theorem keeps_behind {m : OM} {high : List Int} (h : Keeps m high false) {b : Int} (hb : 0 ≤ b ∧ b ≤ 255) (hm : m.last.length + 1 ≤ 65536) (hq : m.last.length = high.length ∨ ∃ c, high[m.last.length]? = some c ∧ c < b) :
    Keeps { m with last := m.last ++ [b] } (high.take m.last.length ++ [b]) false := by
  obtain ⟨h1, h2, h3⟩ := h.no rfl
  have hB : IsB (m.last ++ [b]) := (by rw [← h2]; exact isB_take h.isB _ : IsB m.last).append (isB_one hb)
  rw [h2]
  refine ⟨hB, by rw [List.length_append, List.length_singleton]; exact hm, fun h => (Bool.noConfusion h), fun _ => ⟨Nat.le_refl _, List.take_length, fun ext he => ?_⟩⟩
  show 0 < cmpL m.prev (m.last ++ [b] ++ ext) ↔ 0 < cmpL (m.last ++ [b]) (m.last ++ [b] ++ ext)
  have hr : ¬ 0 < cmpL (m.last ++ [b]) (m.last ++ [b] ++ ext) := by
    have := cmpL_front (m.last ++ [b]) [] ext
    rw [List.append_nil] at this
    rw [this]; exact cmpL_none_ahead he
  refine ⟨fun hl => absurd ?_ (fun h : False => h), fun hl => absurd hl hr⟩
  rw [ext_on] at hl
  have hl2 := (h3 (b :: ext) (isB_cons hb he)).1 hl
  rcases hq with hq | ⟨c, hc, hcb⟩
  · have e : high = m.last := by rw [← h2, hq, List.take_length]
    rw [e] at hl2
    have := cmpL_front m.last [] (b :: ext)
    rw [List.append_nil] at this
    rw [this] at hl2
    exact cmpL_none_ahead (isB_cons hb he) hl2
  · have e : high = m.last ++ (c :: high.drop (m.last.length + 1)) := by rw [← drop_at hc]; conv => lhs; rw [← List.take_append_drop m.last.length high, h2]
    rw [e, cmpL_front, cmpL] at hl2
    have hcc := cmp1_cases c b
    rw [if_pos (by omega)] at hl2
    omega
/-- A byte that isn't greater. -/
theorem keeps_within {m : OM} {high : List Int} (h : Keeps m high false) {b c : Int} (hb : 0 ≤ b ∧ b ≤ 255) (hc : high[m.last.length]? = some c) (hcb : ¬ c < b) :
    Keeps { m with last := m.last ++ [b] } high (decide (b < c)) := by
  obtain ⟨h1, h2, h3⟩ := h.no rfl
  have hk : m.last.length < high.length := (List.getElem?_eq_some_iff.1 hc).1
  have e : high = m.last ++ (c :: high.drop (m.last.length + 1)) := by rw [← drop_at hc]; conv => lhs; rw [← List.take_append_drop m.last.length high, h2]
  refine ⟨h.isB, h.hlen, fun hd ext he => ?_, fun hd => ?_⟩
  · have hbc : b < c := of_decide_eq_true hd
    show 0 < cmpL m.prev (m.last ++ [b] ++ ext)
    rw [ext_on, h3 (b :: ext) (isB_cons hb he), e, cmpL_front, cmpL]
    have hcc := cmp1_cases c b
    rw [if_pos (by omega)]; omega
  · have hbc : ¬ b < c := of_decide_eq_false hd
    obtain rfl : b = c := by omega
    refine ⟨by show (m.last ++ [b]).length ≤ _; rw [List.length_append, List.length_singleton]; omega, ?_, fun ext he => ?_⟩
    · show high.take (m.last ++ [b]).length = m.last ++ [b]
      rw [List.length_append, List.length_singleton, take_next hc, h2]
    · show 0 < cmpL m.prev (m.last ++ [b] ++ ext) ↔ 0 < cmpL high (m.last ++ [b] ++ ext)
      rw [ext_on]; exact h3 (b :: ext) (isB_cons hb he)
/-- Whether it comes first, told at its end. -/
theorem keeps_end {m : OM} {high : List Int} {first : Bool} (h : Keeps m high first) : 0 < cmpL m.prev m.last ↔ first = true ∨ ∃ x ∈ high.drop m.last.length, 0 < x := by
  cases first with
  | true =>
    have := h.yes rfl [] (fun _ h => by simp at h)
    rw [List.append_nil] at this
    exact ⟨fun _ => .inl rfl, fun _ => this⟩
  | false =>
    obtain ⟨h1, h2, h3⟩ := h.no rfl
    have h4 := h3 [] (fun _ h => by simp at h)
    rw [List.append_nil] at h4
    rw [h4]
    have e : high = m.last ++ high.drop m.last.length := by conv => lhs; rw [← List.take_append_drop m.last.length high, h2]
    have h5 := cmpL_front m.last (high.drop m.last.length) []
    rw [List.append_nil, ← e] at h5
    rw [h5, cmpL_rest (fun x hx => h.isB x (List.mem_of_mem_drop hx))]
    simp
theorem keeps_fin {m : OM} {high : List Int} (h : Keeps m high false) (hx : ¬ ∃ x ∈ high.drop m.last.length, 0 < x) : Keeps { m with prev := m.last, last := [], n := m.n + 1 } high false := by
  obtain ⟨h1, h2, h3⟩ := h.no rfl
  refine ⟨h.isB, h.hlen, fun h => (Bool.noConfusion h), fun _ => ⟨Nat.zero_le _, rfl, fun ext he => ?_⟩⟩
  show 0 < cmpL m.last ext ↔ 0 < cmpL high ext
  have e : high = m.last ++ high.drop m.last.length := by conv => lhs; rw [← List.take_append_drop m.last.length high, h2]
  have hz : ∀ x ∈ high.drop m.last.length, x = 0 := fun x hx' => by
    have h7 := h.isB x (List.mem_of_mem_drop hx')
    have h8 : ¬ 0 < x := fun h => hx ⟨x, hx', h⟩
    omega
  rw [e, cmpL_zeros_only hz]
end Go.Proofs.Ytnlhpldjficecaa
