/- Five small numbers: what the laws' builders take. -/
import Derived.Test.YtohpmbabegpefaaRow
namespace Go.Proofs.Ytohpmbabegpefaa
open Go.ChangeShapes Go.WideShapes Go.ChangeAt Go.RowKit

structure Five where
  a : Int
  b : Int
  c : Int
  d : Int
  e : Int
abbrev Five.v (x : Five) : Value := .agg #[.int .u16 x.a, .int .u16 x.b, .int .u16 x.c, .int .u16 x.d, .int .u16 x.e]
def Five.ok (x : Five) : Prop := (0 ≤ x.a ∧ x.a ≤ 65535) ∧ (0 ≤ x.b ∧ x.b ≤ 65535) ∧ (0 ≤ x.c ∧ x.c ≤ 65535) ∧ (0 ≤ x.d ∧ x.d ≤ 65535) ∧ (0 ≤ x.e ∧ x.e ≤ 65535)
instance : Enc Five := ⟨5, by decide, fun x => [.int .u16 x.a, .int .u16 x.b, .int .u16 x.c, .int .u16 x.d, .int .u16 x.e], fun _ => rfl, fun a u h => by simp at h; rcases h with rfl | rfl | rfl | rfl | rfl <;> rfl⟩
theorem rd_Five {w : World} {ad : Option Addr} {n cap : Nat} {l : List Five} (h : RdG w (.slice ad n cap) l) (i : Nat) (hi : i < l.length) : ∃ g o, ad = some ⟨g, o, none⟩ ∧ w.cell? ⟨g, o + i * 5, none⟩ = some (.int .u16 l[i].a) ∧ w.cell? ⟨g, o + i * 5 + 1, none⟩ = some (.int .u16 l[i].b) ∧ w.cell? ⟨g, o + i * 5 + 2, none⟩ = some (.int .u16 l[i].c) ∧ w.cell? ⟨g, o + i * 5 + 3, none⟩ = some (.int .u16 l[i].d) ∧ w.cell? ⟨g, o + i * 5 + 4, none⟩ = some (.int .u16 l[i].e) := by
  obtain ⟨g, o, e, c⟩ := h.at i hi
  exact ⟨g, o, e, c 0 _ rfl, c 1 _ rfl, c 2 _ rfl, c 3 _ rfl, c 4 _ rfl⟩
end Go.Proofs.Ytohpmbabegpefaa
