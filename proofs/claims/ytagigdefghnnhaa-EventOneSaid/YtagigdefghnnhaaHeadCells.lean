/- Heads as values and in memory, and what the bytes of an identifier are; of any program that holds package api's Head. -/
import Derived.Test.YtagigdefghnnhaaByteSl
import Derived.Test.YtagigdefghnnhaaIdent
import Derived.Test.YtagigdefghnnhaaMem2
import Derived.Handy
import Derived.Deep.QuietTactic
import Derived.BigQuiet
namespace Go.Proofs.Ytagigdefghnnhaa
open Go.RowKit Go.PlainAid
set_option linter.unusedVariables false
theorem ident_or7 (t x : Int) (h0 : 0 ≤ t) (h1 : t ≤ 2097151) (h2 : 0 ≤ x) (h3 : x ≤ 255) : bits .or .i64 (t * 128) (x % 128) = t * 128 + x % 128 := ori_7 t (x % 128) h0 (by omega) (by omega) (by omega)
theorem beq_no {x y : Int} (h : ¬ x = y) : (x == y) = false := by simpa using h
theorem beq_yes {x y : Int} (h : x = y) : (x == y) = true := by simpa using h
/-- A result that lies in memory, and two that don't. -/
theorem results_cell_two {P : Program} {fn : Func} {p q r : Tmp} {ty : TypeId} (h : fn.results = #[.cell p ty, .tmp q, .tmp r]) (tmps : Array Value) {ad : Addr} (hp : tmps.getD p undef = .pointer (some ad)) {v u x : Value} {w : World}
    (hq : tmps.getD q undef = u) (hr : tmps.getD r undef = x) (hl : (loadVar ty ad).run P w = .ok v w) : (results fn tmps).run P w = .ok (.tuple #[v, u, x]) w := by
  rw [Array.getD_eq_getD_getElem?] at hp hq hr
  simp only [results, h]
  simp [hp, hq, hr, asAddr, hl]
theorem infoHead : (Try.prog.info? 40).map (·.size) = some 4 := by kernel_rfl
def hdC (cls tag : Int) (cons : Bool) (len : Int) : List Value := [.int .i64 cls, .int .i64 tag, .bool cons, .int .i64 len]
def hdV (cls tag : Int) (cons : Bool) (len : Int) : Value := .agg #[.int .i64 cls, .int .i64 tag, .bool cons, .int .i64 len]
theorem head_load {W : World} {g : Nat} {cls tag len : Int} {cons : Bool} (h : Row W g 40 (hdC cls tag cons len)) : (loadVar 40 ⟨g, 0, none⟩).run Try.prog W = .ok (hdV cls tag cons len) W :=
  run_loadVar_mid _ _ 0 _ (hdC cls tag cons len) _ h.whole Try.underlying40 rfl infoHead
theorem ext_at (b : ByteArray) (i : Nat) (h : i < b.size) : (bl b).drop i = bt b i :: (bl b).drop (i + 1) := bl_drop b i h
theorem idGet_small {x : Int} {r : List Int} (h : ¬ x % 32 = 31) : idGet (x :: r) = (x / 64, x % 32, decide (x / 32 % 2 = 1), 1, 0) := by rw [idGet, if_neg h]
theorem idGet_big {x : Int} {r : List Int} (h : x % 32 = 31) (h0 : (getG true 0 r).2.2 = 0) : idGet (x :: r) = (x / 64, (getG true 0 r).1, decide (x / 32 % 2 = 1), (getG true 0 r).2.1 + 1, 0) := by rw [idGet, if_pos h, if_pos h0]
theorem idGet_err {x : Int} {r : List Int} (h : x % 32 = 31) (h0 : ¬ (getG true 0 r).2.2 = 0) : idGet (x :: r) = (0, 0, false, (getG true 0 r).2.1 + 1, (getG true 0 r).2.2) := by rw [idGet, if_pos h, if_neg h0]
theorem head_facts {W : World} {g : Nat} {cls tag len : Int} {cons : Bool} (h : Row W g 40 (hdC cls tag cons len)) :
    W.cell? ⟨g, 0, none⟩ = some (.int .i64 cls) ∧ W.cell? ⟨g, 1, none⟩ = some (.int .i64 tag) ∧ W.cell? ⟨g, 2, none⟩ = some (.bool cons) ∧ W.cell? ⟨g, 3, none⟩ = some (.int .i64 len) ∧
    W.frozen? ⟨g, 0, none⟩ = false ∧ W.frozen? ⟨g, 1, none⟩ = false ∧ W.frozen? ⟨g, 2, none⟩ = false ∧ W.frozen? ⟨g, 3, none⟩ = false :=
  ⟨h.cell 0, h.cell 1, h.cell 2, h.cell 3, h.frozen 0, h.frozen 1, h.frozen 2, h.frozen 3⟩
theorem bit_of (x : Int) (h0 : 0 ≤ x) (h1 : x ≤ 255) : (x / 32 % 2 * 32 != 0) = decide (x / 32 % 2 = 1) := by
  by_cases h : x / 32 % 2 = 1
  · rw [h]; rfl
  · have : x / 32 % 2 = 0 := by omega
    rw [this]; rfl
/-- What Get answers. -/
def idAns (b : ByteArray) (i : Nat) : Value := .tuple #[hdV (idGet ((bl b).drop i)).1 (idGet ((bl b).drop i)).2.1 (idGet ((bl b).drop i)).2.2.1 0, .int .i64 ((i : Int) + (idGet ((bl b).drop i)).2.2.2.1), .int .i64 (idGet ((bl b).drop i)).2.2.2.2]
theorem idAns_eq {b : ByteArray} {i : Nat} {c t : Int} {k : Bool} {n : Nat} {e : Int} (h : idGet ((bl b).drop i) = (c, t, k, n, e)) : idAns b i = .tuple #[hdV c t k 0, .int .i64 ((i : Int) + n), .int .i64 e] := by unfold idAns; rw [h]
end Go.Proofs.Ytagigdefghnnhaa
