/- The document's fixed answers of layer 5 hold: 'awake' returns true. And what the calls of layer 5 give, in one form for all inputs. -/
import Derived.Test.YtkgnahdcdmeogaaIdentPut
import Derived.Test.YtkgnahdcdmeogaaIdentGet
namespace Go.Proofs.Ytkgnahdcdmeogaa
open Go.RowKit Go.PlainAid
set_option linter.unusedVariables false
/-- What Put answers. -/
def putS (cls tag : Int) (cons : Bool) : ByteArray := if idOk cls tag = true then strOfNums (idPut cls tag cons) else ⟨#[]⟩
def putE (cls tag : Int) : Int := if idOk cls tag = true then 0 else 1
theorem identPut_all (cls tag : Int) (cons : Bool) (len : Int) (w : World) :
    Calls Try.prog 9 #[.agg #[.int .i64 cls, .int .i64 tag, .bool cons, .int .i64 len]] w fun e w' => e = .returned (.tuple #[.string (putS cls tag cons), .int .i64 (putE cls tag)]) ∧ Below w.heap.size w w' := by
  unfold putS putE
  cases h : idOk cls tag
  · simpa using identPut_bad cls tag cons len h w
  · simpa using identPut_any cls tag cons len h w
/-- What Get tells at a place: class, tag, form, the place, the error. -/
def gAt (b : ByteArray) (at_ : Int) : Int × Int × Bool × Int × Int :=
  if at_ < 0 ∨ (b.size : Int) < at_ then (0, 0, false, 0, 1)
  else ((idGet ((bl b).drop at_.toNat)).1, (idGet ((bl b).drop at_.toNat)).2.1, (idGet ((bl b).drop at_.toNat)).2.2.1, at_ + (idGet ((bl b).drop at_.toNat)).2.2.2.1, (idGet ((bl b).drop at_.toNat)).2.2.2.2)
def gV (g : Int × Int × Bool × Int × Int) : Value := .tuple #[.agg #[.int .i64 g.1, .int .i64 g.2.1, .bool g.2.2.1, .int .i64 0], .int .i64 g.2.2.2.1, .int .i64 g.2.2.2.2]
theorem gV_at (b : ByteArray) (i : Nat) (hi : i ≤ b.size) : idAns b i = gV (gAt b i) := by
  unfold gAt
  rw [if_neg (by omega)]
  rfl
theorem gV_arg (b : ByteArray) (at_ : Int) (h : at_ < 0 ∨ (b.size : Int) < at_) : gV (gAt b at_) = .tuple #[hdV 0 0 false 0, .int .i64 0, .int .i64 1] := by
  unfold gAt
  rw [if_pos h]
  rfl
theorem identGet_all (b : ByteArray) (at_ : Int) (hb : b.size ≤ maxLen) (w : World) :
    Calls Try.prog 12 #[.string b, .int .i64 at_] w fun e w' => e = .returned (gV (gAt b at_)) ∧ Below w.heap.size w w' := by
  by_cases h : at_ < 0 ∨ (b.size : Int) < at_
  · rw [gV_arg b at_ h]; exact identGet_arg b at_ hb h w
  · obtain ⟨i, rfl⟩ := Int.eq_ofNat_of_zero_le (show 0 ≤ at_ by omega)
    rw [← gV_at b i (by omega)]; exact identGet_any b i hb (by omega) w
/-- The same, the parts laid open. -/
theorem identGet_is (b : ByteArray) (at_ : Int) (hb : b.size ≤ maxLen) {c t : Int} {k : Bool} {n e : Int} (h : gAt b at_ = (c, t, k, n, e)) (w : World) :
    Calls Try.prog 12 #[.string b, .int .i64 at_] w fun r w' => r = .returned (.tuple #[.agg #[.int .i64 c, .int .i64 t, .bool k, .int .i64 0], .int .i64 n, .int .i64 e]) ∧ Below w.heap.size w w' := by
  have := identGet_all b at_ hb w
  rw [h] at this
  exact this
theorem k_p1 : putS 0 16 true = ⟨#[48]⟩ := by
  rw [putS, if_pos (by decide), idPut, if_pos (by decide)]; decide +kernel
theorem k_p2 : putS 2 31 false = ⟨#[159, 31]⟩ := by
  have : gB 31 = [31] := by rw [gB, show 31 / 128 = 0 by decide, hiG_zero]; rfl
  rw [putS, if_pos (by decide), idPut, if_neg (by decide), show (31 : Int).toNat = 31 by decide, this]; decide +kernel
theorem k_e1 : putE 0 16 = 0 := by decide
theorem k_e2 : putE 2 31 = 0 := by decide
theorem k_g1 : gAt ⟨#[120, 159, 31]⟩ 1 = (2, 31, false, 3, 0) := by decide +kernel
theorem k_g2 : gAt ⟨#[31, 30]⟩ 0 = (0, 0, false, 1, 3) := by decide +kernel
theorem k_g3 : gAt ⟨#[31, 128]⟩ 0 = (0, 0, false, 1, 3) := by decide +kernel
set_option maxHeartbeats 1600000 in
theorem awake05_any (w : World) :
    Calls Try.prog 11 #[] w fun e w' => e = .returned (.bool true) ∧ Below w.heap.size w w' := by
  go_enter Try.func11, Try.ntmps11
  go_wp2_with fail
  refine (identPut_all 0 16 true 0 _).mono ?_
  rw [k_p1, k_e1]
  rintro e w1 ⟨rfl, hb1⟩
  go_wp2_with fail
  refine (identPut_all 2 31 false 0 _).mono ?_
  rw [k_p2, k_e2]
  rintro e w2 ⟨rfl, hb2⟩
  have hB2 := hb1.trans (hb2.mono hb1.size)
  clear hb1 hb2
  go_wp2_with fail
  refine (identGet_is _ 1 (by decide +kernel) k_g1 _).mono ?_
  rintro e w3 ⟨rfl, hb3⟩
  have hB3 := hB2.trans (hb3.mono hB2.size)
  clear hb3 hB2
  have HR3 := Lib.hid (Row.new w3 23 (hdC 2 31 false 0))
  go_wp2_with fail
  refine (identGet_is _ 0 (by decide +kernel) k_g2 _).mono ?_
  rintro e w4 ⟨rfl, hb4⟩
  have HR4 := Lib.hid ((HR3.out.below hb4 HR3.out.lt).alloc (.cells (hdC 0 0 false 0).toArray 23))
  have hB4 := (hB3.alloc hB3.size (.cells (hdC 2 31 false 0).toArray 23)).trans (hb4.mono (by have := hB3.size; simp; omega))
  clear hb4 hB3 HR3
  go_wp2_with fail
  refine (identGet_is _ 0 (by decide +kernel) k_g3 _).mono ?_
  rintro e w5 ⟨rfl, hb5⟩
  have HR5 := Lib.hid (HR4.out.below hb5 HR4.out.lt)
  have hB5 := (hB4.alloc hB4.size (.cells (hdC 0 0 false 0).toArray 23)).trans (hb5.mono (by have := hB4.size; simp; omega))
  clear hb5 hB4 HR4
  have hlt := HR5.out.lt
  have hld := fun W (h : Row W w3.heap.size 23 (hdC 2 31 false 0)) => head_load h
  obtain ⟨k0, k1, k2, k3, _, _, _, _⟩ := head_facts HR5.out
  go_wp2
  go_returns
  exact ⟨rfl, hB5.alloc hB5.size _⟩
end Go.Proofs.Ytkgnahdcdmeogaa
