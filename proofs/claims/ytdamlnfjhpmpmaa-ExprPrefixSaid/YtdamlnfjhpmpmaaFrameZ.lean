/- How long a slice that is handed in can be: the reach of the row. -/
import Derived.Test.YtdamlnfjhpmpmaaFrame7
import Derived.SizedLaws
namespace Go.Proofs.Ytdamlnfjhpmpmaa
open Go.ChangeShapes Go.WideShapes Go.ChangeAt Go.RowKit Go.Joins

theorem len_sized {H : Type} {enc : TypeId × Value → H} {w : World} {base : Nat} {held : Bool} {α : Type} [Enc α] {t e : TypeId} (hu : Try.prog.underlying t = some (.slice e)) (hb : 1 ≤ Try.prog.bytesOf e)
    {ts : List TypeId} {ds : List (DataW H)} (hsz : (DataW.weightsEach Try.prog ts ds).all (· ≤ reachBytes) = true) {j : Nat} {d : DataW H} (ht : ts[j]? = some t) (hd : ds[j]? = some d)
    {v : Value} {p : List MemPlace} {l : List α} (hr : RdG w v l) (h : DataW.Trod enc Try.prog w base (fun _ => true) held t v d p) : l.length ≤ 140737488351232 := by
  obtain ⟨ad, cap, rfl, _, _⟩ := hr.shape
  obtain ⟨fuel, hf⟩ := h
  rcases Go.Deep.open_slice hu hf with ⟨hcs, _⟩ | ⟨a, len, cap', m, n, D, Pl, hcs, _, hl, hm, hmm, hdx, hx⟩
  · simp [Value.cells] at hcs
    omega
  · simp [Value.cells] at hcs
    obtain ⟨rfl, rfl, rfl⟩ := hcs
    obtain ⟨rfl, _⟩ := Prod.mk.inj hdx
    have := sized_slice hsz ht hd hu
    simp only [List.length_map, List.length_range] at this
    have hR : reachBytes = 140737488351232 := by decide
    have h2 : (l.length + (m - l.length)) * 1 ≤ (l.length + (m - l.length)) * Try.prog.bytesOf e := Nat.mul_le_mul_left _ hb
    omega
end Go.Proofs.Ytdamlnfjhpmpmaa
