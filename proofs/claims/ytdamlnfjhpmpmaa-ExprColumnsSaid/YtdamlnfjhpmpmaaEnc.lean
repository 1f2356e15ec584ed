/- How numbers, marks, values, expressions and types lie in cells. -/
import Derived.Test.YtdamlnfjhpmpmaaEnI
import Derived.Test.YtdamlnfjhpmpmaaEw1
namespace Go.Proofs.Ytdamlnfjhpmpmaa
open Go.ChangeShapes Go.WideShapes Go.ChangeAt Go.RowKit

instance : Enc Bool := ⟨1, by decide, fun b => [.bool b], fun _ => rfl, fun a u h => by simp at h; subst h; rfl⟩
instance : Enc (Int × Int) := ⟨2, by decide, fun p => [.int .i64 p.1, .int .i64 p.2], fun _ => rfl, fun a u h => by simp at h; rcases h with rfl | rfl <;> rfl⟩
instance : Enc V := ⟨3, by decide, fun v => [.int .i64 v.k, .int .i64 v.n, sv v.s], fun _ => rfl, fun a u h => by simp at h; rcases h with rfl | rfl | rfl <;> rfl⟩
instance : Enc X := ⟨7, by decide, fun x => [.int .i64 x.op, .int .i64 x.a, .int .i64 x.b, .int .i64 x.col, .int .i64 x.c.k, .int .i64 x.c.n, sv x.c.s], fun _ => rfl,
  fun a u h => by simp at h; rcases h with rfl | rfl | rfl | rfl | rfl | rfl | rfl <;> rfl⟩
def tB : RowT Bool := ⟨4, 39, false, .bool false, 1, Try.underlying39, by kernel_rfl, by rfl, by decide⟩
def tK : RowT (Int × Int) := ⟨52, 50, (0, 0), .agg #[.int .i64 0, .int .i64 0], 16, Try.underlying50, by kernel_rfl, by rfl, by decide⟩
def tKr : RowT (Int × Int) := ⟨56, 54, (0, 0), .agg #[.int .i64 0, .int .i64 0], 16, Try.underlying54, by kernel_rfl, by rfl, by decide⟩
def tV : RowT V := ⟨34, 32, nul, .agg #[.int .i64 0, .int .i64 0, sv []], 32, Try.underlying32, by kernel_rfl, by rfl, by decide⟩
def tX : RowT X := ⟨44, 22, nulX, .agg #[.int .i64 0, .int .i64 0, .int .i64 0, .int .i64 0, .int .i64 0, .int .i64 0, sv []], 64, Try.underlying22, by kernel_rfl, by rfl, by decide⟩
/- the cells of one element, by the element's kind -/
theorem rd_B {w : World} {ad : Option Addr} {n cap : Nat} {l : List Bool} (h : RdG w (.slice ad n cap) l) (i : Nat) (hi : i < l.length) : ∃ g o, ad = some ⟨g, o, none⟩ ∧ w.cell? ⟨g, o + i, none⟩ = some (.bool l[i]) := by
  obtain ⟨g, o, e, c⟩ := h.at i hi
  exact ⟨g, o, e, by have := c 0 _ rfl; simpa [Enc.sz] using this⟩
theorem rd_K {w : World} {ad : Option Addr} {n cap : Nat} {l : List (Int × Int)} (h : RdG w (.slice ad n cap) l) (i : Nat) (hi : i < l.length) : ∃ g o, ad = some ⟨g, o, none⟩ ∧ w.cell? ⟨g, o + i * 2, none⟩ = some (.int .i64 l[i].1) ∧ w.cell? ⟨g, o + i * 2 + 1, none⟩ = some (.int .i64 l[i].2) := by
  obtain ⟨g, o, e, c⟩ := h.at i hi
  exact ⟨g, o, e, c 0 _ rfl, c 1 _ rfl⟩
theorem rd_V {w : World} {ad : Option Addr} {n cap : Nat} {l : List V} (h : RdG w (.slice ad n cap) l) (i : Nat) (hi : i < l.length) : ∃ g o, ad = some ⟨g, o, none⟩ ∧ w.cell? ⟨g, o + i * 3, none⟩ = some (.int .i64 l[i].k) ∧ w.cell? ⟨g, o + i * 3 + 1, none⟩ = some (.int .i64 l[i].n) ∧ w.cell? ⟨g, o + i * 3 + 2, none⟩ = some (sv l[i].s) := by
  obtain ⟨g, o, e, c⟩ := h.at i hi
  exact ⟨g, o, e, c 0 _ rfl, c 1 _ rfl, c 2 _ rfl⟩
theorem rd_X {w : World} {ad : Option Addr} {n cap : Nat} {l : List X} (h : RdG w (.slice ad n cap) l) (i : Nat) (hi : i < l.length) : ∃ g o, ad = some ⟨g, o, none⟩ ∧ w.cell? ⟨g, o + i * 7, none⟩ = some (.int .i64 l[i].op) ∧ w.cell? ⟨g, o + i * 7 + 1, none⟩ = some (.int .i64 l[i].a) ∧ w.cell? ⟨g, o + i * 7 + 2, none⟩ = some (.int .i64 l[i].b) ∧ w.cell? ⟨g, o + i * 7 + 3, none⟩ = some (.int .i64 l[i].col) ∧
    w.cell? ⟨g, o + i * 7 + 4, none⟩ = some (.int .i64 l[i].c.k) ∧ w.cell? ⟨g, o + i * 7 + 5, none⟩ = some (.int .i64 l[i].c.n) ∧ w.cell? ⟨g, o + i * 7 + 6, none⟩ = some (sv l[i].c.s) := by
  obtain ⟨g, o, e, c⟩ := h.at i hi
  exact ⟨g, o, e, c 0 _ rfl, c 1 _ rfl, c 2 _ rfl, c 3 _ rfl, c 4 _ rfl, c 5 _ rfl, c 6 _ rfl⟩
end Go.Proofs.Ytdamlnfjhpmpmaa
