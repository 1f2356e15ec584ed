/- What the bound on the bulk of the arguments says of the keys of values. -/
import Derived.Test.YtejgmiljjpgbpaaDoorLv2
import Derived.Test.YtejgmiljjpgbpaaDoorLv5
import Derived.Test.YtejgmiljjpgbpaaDoorFrame6
import Derived.Deep.DeepHandedRow
namespace Go.Proofs.YtejgmiljjpgbpaaDoor
open Go.ChangeShapes Go.WideShapes Go.ChangeAt Go.RowKit Go.Joins

theorem bulk_mem {H : Type} {d : DataW H} {l : List (DataW H)} (h : d ∈ l) : Rows.uptoBulk d ≤ Rows.uptoBulkAll l := by
  induction l with
  | nil => exact absurd h (by simp)
  | cons x r ih =>
    simp only [Rows.uptoBulkAll]
    rcases List.mem_cons.1 h with e | e
    · rw [e]; omega
    · have := ih e; omega
theorem bulk_text {H : Type} (s : List UInt8) : s.length ≤ Rows.uptoBulk (DataW.lit (H := H) (.string s)) := by simp [Rows.uptoBulk]
theorem bulk_agg {H : Type} (l : List (DataW H)) : Rows.uptoBulkAll l ≤ Rows.uptoBulk (.agg l) := by simp only [Rows.uptoBulk]; omega
theorem bulk_slice {H : Type} (l m : List (DataW H)) : Rows.uptoBulkAll l ≤ Rows.uptoBulk (.slice l m) := by simp only [Rows.uptoBulk]; omega
theorem key_room (M : Nat) : ∀ l : List V, (∀ v ∈ l, -9223372036854775808 ≤ v.k ∧ v.k ≤ 9223372036854775807 ∧ -9223372036854775808 ≤ v.n ∧ v.n ≤ 9223372036854775807 ∧ v.s.length ≤ M) → M ≤ 9223372036854775807 → (keyL l).length ≤ l.length * (M + 66)
  | [], _, _ => by simp [keyL]
  | v :: r, h, hM => by
    have ih := key_room M r (fun u hu => h u (List.mem_cons_of_mem _ hu)) hM
    obtain ⟨a1, a2, a3, a4, a5⟩ := h v (List.mem_cons_self)
    have b1 := itoa_len v.k a1 a2
    have b2 := itoa_len v.n a3 a4
    have b3 := itoa_len v.s.length (by omega) (by omega)
    simp only [keyL, List.length_append, List.length_cons]
    rw [Nat.add_mul, Nat.one_mul]
    omega
section
variable {H : Type} {enc : TypeId × Value → H} {w : World} {base : Nat} {held : Bool}
set_option maxRecDepth 100000 in
theorem bulk_vals {v : Value} {d : DataW H} {p : List MemPlace} {l : List V} (h : DataW.Trod enc Tryd.prog w base (fun _ => true) held 30 v d p) (hr : RdV w v l) :
    ∀ (i : Nat) (hi : i < l.length), l[i].s.length ≤ Rows.uptoBulk d := by
  obtain ⟨ad, cap, rfl, _, _, _, h4⟩ := hr
  obtain ⟨fuel, hf⟩ := h
  intro i hi
  obtain ⟨g, o, rfl, _, _, c2⟩ := h4 i hi
  rcases Go.Deep.open_slice Tryd.underlying30 hf with ⟨hcs, _⟩ | ⟨a, len', cap', m, n, D, Pl, hcs, _, hl, hm, hmm, hdx, hx⟩
  · simp [Value.cells] at hcs
  · simp [Value.cells] at hcs
    obtain ⟨rfl, rfl, rfl⟩ := hcs
    simp only [if_true] at hmm
    subst hmm
    have ce : Tryd.prog.cellsOf 23 = 3 := by kernel_rfl
    have k2 : Tryd.prog.cellsOf 9 = 1 := by kernel_rfl
    obtain ⟨cs', h1, h2⟩ := hx i (by omega)
    rw [ce] at h1
    obtain ⟨_, hlen, hcell⟩ := World.cells?_some h1
    obtain ⟨xs, k, _, hxy, _, hxl, hff⟩ := DataW.trod_struct Tryd.underlying23 h2
    have hxl3 : xs.length = 3 := hxl
    match cs', hlen with
    | [v0, v1, v2], _ =>
      have g2 := hff 2 _ rfl
      have e2 := hcell 2 (by omega)
      rw [Go.Deep.add_add] at e2
      simp only [List.getElem?_cons_zero, List.getElem?_cons_succ] at e2
      obtain ⟨y2, q2⟩ : ∃ y, xs[2]? = some y := ⟨_, List.getElem?_eq_getElem (by omega)⟩
      rw [q2] at g2
      have h2' : DataW.trod enc Tryd.prog w base (fun _ => true) held k 9 (([v0, v1, v2].drop 2).take (Tryd.prog.cellsOf 9)) = some y2 := g2
      rw [k2] at h2'
      have p2 : DataW.trod enc Tryd.prog w base (fun _ => true) held k 9 [v2] = some y2 := h2'
      obtain ⟨z2, f2, hy2, _⟩ := DataW.trod_string Tryd.underlying9 p2
      obtain rfl := List.cons.inj f2 |>.1
      have hadd : (⟨g, o, none⟩ : Addr).add (i * 3 + 2) = ⟨g, o + (i * 3 + 2), none⟩ := by unfold Addr.add; split <;> simp_all
      rw [hadd, ← Nat.add_assoc, c2] at e2
      injection e2 with e2
      injection e2 with e2
      have hz : z2.data.toList = l[i].s := by rw [← e2]
      have hD : D i = .agg (xs.map (·.1)) := (Prod.mk.inj hxy).1
      have hd := (Prod.mk.inj hdx).1
      have m1 : y2.1 ∈ xs.map (·.1) := List.mem_map.2 ⟨y2, List.mem_of_getElem? q2, rfl⟩
      have m2 : D i ∈ (List.range l.length).map D := List.mem_map.2 ⟨i, List.mem_range.2 hi, rfl⟩
      have b1 := bulk_mem m1
      have b2 := bulk_agg (xs.map (·.1))
      have b3 := bulk_mem m2
      have b4 := bulk_slice ((List.range l.length).map D) ((List.range (m - l.length)).map fun j => D (l.length + j))
      have b5 := bulk_text (H := H) l[i].s
      rw [hy2, hz] at b1
      rw [hD] at b3
      rw [hd]
      simp only at b1
      omega
end
theorem key_fits {l : List V} (hok : OkL l) (M : Nat) (hM : M ≤ 1048576) (hs : ∀ (i : Nat) (hi : i < l.length), l[i].s.length ≤ M) (h30 : l.length ≤ 30) : (keyL l).length ≤ 70368744177664 := by
  have := key_room M l (fun v hv => by
    obtain ⟨i, hi, rfl⟩ := List.getElem_of_mem hv
    obtain ⟨a, b, c, d⟩ := hok i hi
    exact ⟨a, b, c, d, hs i hi⟩) (by omega)
  have h2 : l.length * (M + 66) ≤ 30 * (1048576 + 66) := Nat.mul_le_mul h30 (by omega)
  omega
theorem handed_witness {H : Type} {enc : TypeId × Value → H} {C : Checked} {os : Os} {f : FuncId} {fn : Func} {s : OpenSpec} {conds : List PathCond} {apart : Bool} {laid : List (String × DataW Unit)} (w0 : World) (args : Array Value) (hos : w0.os = os)
    (hsh : (w0.forCall (fun _ _ => 0) ⟨#[], args, []⟩).Shaped C.prog)
    (hok : Input.okWideB C.prog (w0.forCall (fun _ _ => 0) ⟨#[], args, []⟩) f ⟨#[], args, []⟩ = true)
    (hrow : s.preRow enc C.prog fn conds apart laid (w0.forCall (fun _ _ => 0) ⟨#[], args, []⟩).memory args) :
    ∃ (w : World) (tape : Tape) (i : Input), w.os = os ∧ (w.forCall tape i).Shaped C.prog ∧ i.vars = [] ∧ Input.okWide C.prog (w.forCall tape i) .any w.heap.size f i ∧
      s.preRow enc C.prog fn conds apart laid (w.forCall tape i).memory i.args ∧ ({} : Assume).holds C.prog (lone (Frame.enter C.prog f i.args .normal) [] (w.forCall tape i)) :=
  ⟨w0, fun _ _ => 0, ⟨#[], args, []⟩, hos, hsh, (Input.okWide_of_okWideB (base := 0) hok).1, (Input.okWide_of_okWideB hok).2, hrow, by
    simp only [Assume.holds]
    exact ⟨by simp, by simp, fun e => (by cases e), by simp, by simp⟩⟩
end Go.Proofs.YtejgmiljjpgbpaaDoor
