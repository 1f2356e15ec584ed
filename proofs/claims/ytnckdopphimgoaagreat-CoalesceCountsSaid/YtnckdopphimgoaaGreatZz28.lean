/- The program's sort of tuples, by the library's contract. -/
import Derived.Shelf.SlSortCmp.NoneTotal
import Derived.Test.YtnckdopphimgoaaGreatZz18
import Derived.Test.YtnckdopphimgoaaGreatZz21
import Derived.Test.YtnckdopphimgoaaGreatZz26
import Derived.Test.YtnckdopphimgoaaGreatZz27
namespace Go.Proofs.YtnckdopphimgoaaGreat
open Go.ChangeShapes Go.WideShapes Go.ChangeAt Go.RowKit Go.Shelf Go.Lib Go.Sort

/-- tuples that can be read in a world -/
abbrev St (W : World) := { p : TP // RdT W p }
instance (W : World) : Inhabited (St W) := ⟨⟨default, ⟨rdG_nil _, rdG_nil _⟩⟩⟩
def encT {W : World} (x : St W) : List Value := Enc.cells x.1
def cfT {W : World} (x y : St W) : Int := cmpW x.1.r y.1.r
theorem ltT {W : World} (x y : St W) : ltOf cfT x y = decide (cmpW x.1.r y.1.r < 0) := rfl
theorem swoT (W : World) : SWO (ltOf (cfT (W := W))) where
  irrefl x := by
    rw [ltT]
    have := (cw_ord.zero x.1.r x.1.r).2 rfl
    simp [this]
  trans x y z h1 h2 := by
    rw [ltT] at *
    simp only [decide_eq_true_eq] at *
    have a := cw_ord.vals x.1.r y.1.r
    have b := cw_ord.vals y.1.r z.1.r
    have := cw_ord.trans x.1.r y.1.r z.1.r (by omega) (by omega)
    omega
  ntrans x y z h1 h2 := by
    rw [ltT] at *
    simp only [decide_eq_false_iff_not, Int.not_lt] at *
    have a := cw_ord.swap x.1.r y.1.r
    have b := cw_ord.swap y.1.r z.1.r
    have c := cw_ord.swap x.1.r z.1.r
    have := cw_ord.le_trans (a := z.1.r) (b := y.1.r) (d := x.1.r) (by omega) (by omega)
    omega
theorem flatT {W : World} (L : List (St W)) : flatK encT 4 L.toArray = (cellsG (L.map Subtype.val)).toArray := by
  have hs : Enc.sz TP = 4 := rfl
  refine ext_get! (by simp [cellsG_len, hs]) fun t ht => ?_
  have ht' : t < L.length * 4 := by simpa using ht
  rw [get_flatK _ _ _ t (by simpa using ht')]
  have hd : t / 4 < L.length := by omega
  have hx := cellsG_at (L.map Subtype.val) (t / 4) (t % 4) (by simpa using hd) (Nat.mod_lt _ (by decide))
  have e : t / 4 * 4 + t % 4 = t := Nat.div_add_mod' t 4
  rw [show t / 4 * Enc.sz TP + t % 4 = t from e] at hx
  have hl : t < (cellsG (L.map Subtype.val)).length := by rw [cellsG_len, hs]; simpa using ht'
  rw [List.getElem?_eq_getElem hl] at hx
  rw [getElem!_pos L.toArray (t / 4) (by simpa using hd), getElem!_pos (cellsG (L.map Subtype.val)).toArray t (by simpa using hl)]
  simp only [List.getElem_toArray]
  have h2 := hx.symm
  simp only [List.getElem_map] at h2
  unfold encT
  rw [List.getElem!_eq_getElem?_getD, h2]; rfl
theorem holdsT {W W0 w : World} {g cap : Nat} {L : List (St W0)} (h : OwnG tT.e W w (.slice (some ⟨g, 0, none⟩) L.length cap) (L.map Subtype.val)) : HoldsK encT 4 w g 0 L.toArray := by
  unfold HoldsK
  rw [flatT]
  intro j hj
  have hs : Enc.sz TP = 4 := rfl
  have hj' : j < (cellsG (L.map Subtype.val)).length := by simpa using hj
  have ho := h.1
  rw [List.length_map] at ho
  refine ⟨?_, by rw [Nat.zero_add]; exact ho.frozenAt j⟩
  rw [Nat.zero_add, ho.cellAt j (by rw [cellsG_len, List.length_map] at hj'; exact hj'), List.getElem?_eq_getElem hj', getElem!_pos (cellsG (L.map Subtype.val)).toArray j (by simpa using hj')]
  simp
theorem own_sortedT {W W0 w : World} {g cap n0 : Nat} {l : List TP} (h : OwnG tT.e W w (.slice (some ⟨g, 0, none⟩) n0 cap) l) (L : List (St W0)) (hl : L.length = n0) (n : Nat) (os : Array Obj) :
    OwnG tT.e W (sortWorldK encT 4 w g 0 n L.toArray os) (.slice (some ⟨g, 0, none⟩) n0 cap) (L.map Subtype.val) := by
  have ho := h.1
  have hs2 : Enc.sz TP = 4 := rfl
  have hn0 := owns_len ho
  simp only [lenOf] at hn0
  rcases ho.2 with ⟨h', _⟩ | ⟨g', cap', cur, h', hb, hg, hnc, hcm, hcs, htake⟩
  · simp at h'
  · simp only [Value.slice.injEq, Option.some.injEq, Addr.mk.injEq, and_true] at h'
    obtain ⟨rfl, hnn, rfl⟩ := h'
    have hlt : g < w.heap.size := (Array.getElem?_eq_some_iff.1 hg).1
    have hgrow : w.grownBy (sortWorldK encT 4 w g 0 n L.toArray os) (some g) := by
      refine ⟨rfl, rfl, rfl, ?_, fun k hk hne => ?_⟩
      · show w.heap.size ≤ ((w.heap.modify g _) ++ os).size
        simp
      · show ((w.heap.modify g _) ++ os)[k]? = _
        rw [Array.getElem?_append_left (by simpa using hk), Array.getElem?_modify, if_neg (fun e => hne (by rw [e]))]
    refine h.grow hgrow ⟨by rw [cellsG_len], .inr ⟨g, cap, putCells id 0 (cellsG (L.map Subtype.val)).toArray cur, by rw [List.length_map, hl], hb, ?_, by rw [List.length_map, hl, hnn]; exact hnc, hcm, by simp [putCells, hcs], ?_⟩⟩
    · show ((w.heap.modify g _) ++ os)[g]? = _
      rw [Array.getElem?_append_left (by simpa using hlt), Array.getElem?_modify, if_pos rfl, hg, flatT]
      rfl
    · have hs : (L.map Subtype.val).length * Enc.sz TP ≤ cur.size := by rw [hcs, List.length_map, hl, hnn]; exact Nat.mul_le_mul_right _ hnc
      apply List.ext_getElem?
      intro j
      rw [List.getElem?_take]
      by_cases hj : j < (L.map Subtype.val).length * Enc.sz TP
      · rw [if_pos hj]
        have hj' : j < (cellsG (L.map Subtype.val)).length := by rw [cellsG_len]; exact hj
        rw [Array.getElem?_toList, putCells, Array.getElem?_mapIdx, Array.getElem?_eq_getElem (by omega), Option.map_some, if_pos ⟨Nat.zero_le _, by simpa using hj'⟩, List.getElem?_eq_getElem hj', Nat.sub_zero, getElem!_pos (cellsG (L.map Subtype.val)).toArray j (by simpa using hj')]
        simp
      · rw [if_neg hj, List.getElem?_eq_none (by rw [cellsG_len]; omega)]
/-- the rows with what is known of them -/
theorem lift_allT {W : World} {ps : List TP} (h : RdTs W ps) : ∃ L : List (St W), L.map Subtype.val = ps := by
  induction ps with
  | nil => exact ⟨[], rfl⟩
  | cons p ps ih =>
    obtain ⟨L, hL⟩ := ih fun q hq => h q (by simp [hq])
    exact ⟨⟨p, h p (by simp)⟩ :: L, by rw [List.map_cons, hL]⟩
theorem sort_tuples (W w : World) (v : Value) (ps : List TP) (hO : OwnG tT.e W w v ps) (hI : RdTs W ps) (hlen : ps.length ≤ 1000000) :
    Calls Tryz.prog 45 #[v, .func (.func 46) #[] #[]] w fun e w' => e = .returned (.tuple #[]) ∧ ∃ qs, qs.Perm ps ∧ qs.Pairwise (fun x y => cmpW x.r y.r ≤ 0) ∧ OwnG tT.e W w' v qs := by
  obtain ⟨L, hL⟩ := lift_allT hI
  have hLl : L.length = ps.length := by rw [← hL, List.length_map]
  rcases hO.1.2 with ⟨rfl, h0⟩ | ⟨g, cap, cur, rfl, hb, hg, hnc, hcm, hcs, htake⟩
  · have := AnyF.slices_SortFunc_none Tryz.sortT none 0 (.func (.func 46) #[] #[]) w
    refine this.mono ?_
    rintro e w' ⟨rfl, rfl⟩
    obtain rfl : ps = [] := List.eq_nil_of_length_eq_zero h0
    exact ⟨rfl, [], List.Perm.refl _, List.Pairwise.nil, hO⟩
  · have hlt : g < w.heap.size := (Array.getElem?_eq_some_iff.1 hg).1
    have eg : ∀ args w, (callFunc 46 args).run Tryz.prog w = .ok (.enter 46 args) w := enters_of Tryz.func46 (by kernel_rfl) rfl
    have hcmp : CmpLays Tryz.prog 46 #[] (encT (W := W)) 4 cfT g 0 L.toArray.size w := by
      intro m os dk hs x y
      have hE := (own_sortedT (W0 := W) hO dk.toList (by simpa [hLl] using hs) m os).2
      exact compT_gw x.1 y.1 _ (x.2.ext hE) (y.2.ext hE)
    have hcon := AnyQ.slices_SortFunc Tryz.sortT 4 Tryz.isAgg42 Tryz.sizeOf42 (encT (W := W)) (fun _ => rfl) (fun x v hv => Enc.one x.1 v hv) cfT (swoT W) 46 #[] g 0 cap L.toArray w eg
      hcmp (holdsT (by rw [hL, hLl]; exact hO)) hlt (by simp [hLl]; omega)
    change Calls Tryz.prog 45 _ _ _ at hcon
    rw [List.size_toArray, hLl] at hcon
    refine hcon.mono ?_
    rintro e w' ⟨rfl, d', n, os, ⟨hsz, _, hp⟩, hs, rfl⟩
    have hsz' : d'.toList.length = ps.length := by simpa [hLl] using hsz
    refine ⟨rfl, d'.toList.map Subtype.val, ?_, ?_, ?_⟩
    · have e1 : (d'.extract 0 ps.length) = d' := by rw [← hsz', Array.length_toList]; simp
      have e2 : (L.toArray.extract 0 ps.length) = L.toArray := by rw [← hLl]; simp
      rw [e1, e2] at hp
      have hp2 : d'.toList.Perm L := by simpa using hp
      rw [← hL]
      exact hp2.map _
    · rw [List.pairwise_map, List.pairwise_iff_getElem]
      intro i j hi hj hij
      have hj2 : j < d'.size := by simpa using hj
      have hi2 : i < d'.size := by omega
      have := hs i j (Nat.zero_le _) hij (by omega)
      rw [ltT, getElem!_pos d' j hj2, getElem!_pos d' i hi2] at this
      simp only [decide_eq_false_iff_not, Int.not_lt] at this
      have hsw := cw_ord.swap d'[i].1.r d'[j].1.r
      simp only [Array.getElem_toList]
      omega
    · have := own_sortedT (W0 := W) hO d'.toList hsz' n os
      simpa using this
end Go.Proofs.YtnckdopphimgoaaGreat
/- The program's normalForm. -/
namespace Go.Proofs.YtnckdopphimgoaaGreat
open Go.ChangeShapes Go.WideShapes Go.ChangeAt Go.RowKit

/-- v[s:], «as» the walk leaves it -/
theorem rd_fromT {w : World} {g o n cap s : Nat} {l : List TP} (h : RdG w (.slice (some ⟨g, o, none⟩) n cap) l) (hs : s ≤ n) : RdG w (.slice (if cap = s then some ⟨g, o, none⟩ else some ⟨g, o + s * 4, none⟩) (n - s) (cap - s)) (l.drop s) := by
  by_cases hc : cap = s
  · rw [if_pos hc]
    have hl := h.len
    have hd : l.drop s = [] := List.drop_eq_nil_of_le (by omega)
    rw [hd]
    have hn : n = s := by omega
    subst hn hc
    rw [Nat.sub_self]
    exact ⟨_, 0, rfl, Nat.le_refl _, Nat.zero_le _, (fun _ => rfl), fun i h => by simp at h⟩
  · rw [if_neg hc]
    exact h.drop hs
abbrev mkP (x : TP) (p : Int × Int) : TP := ⟨x.h, x.r, p.1, p.2⟩
theorem tus_mk (x : TP) (L : List (Int × Int)) : tus (L.map (mkP x)) = L.map (mkT x.r) := by unfold tus; rw [List.map_map]; rfl
/-- what holds while the groups are worked off -/
structure NfI (T A rest N : List TP) : Prop where
  all : T = A ++ rest
  lt : ∀ x ∈ A, ∀ y ∈ rest, cmpW x.r y.r < 0
  prt : Prt (ats (tus T)) (fun r => ∃ x ∈ A, x.r = r) (tus N)
  len : N.length ≤ A.length
def SrtT (T : List TP) : Prop := T.Pairwise fun x y => cmpW x.r y.r ≤ 0
theorem NfI.start (T : List TP) : NfI T [] T [] := ⟨rfl, fun _ h => absurd h List.not_mem_nil, Prt.nil _ (fun _ ⟨_, hx, _⟩ => absurd hx List.not_mem_nil), Nat.le_refl _⟩
theorem NfI.step {T A rest N : List TP} {s : Nat} {L : List (Int × Int)} {x : TP} (hT : SrtT T) (h : NfI T A rest N) (h0 : 0 < rest.length) (hx : rest[0] = x) (hs : GsP rest s) (hL : IsLv (cov (prs (tus (rest.take s)))) L) (hl : L.length ≤ s) : NfI T (A ++ rest.take s) (rest.drop s) (N ++ L.map (mkP x)) := by
  have hr : ∀ y ∈ rest.take s, y.r = x.r := by
    intro y hy
    obtain ⟨j, hj, rfl⟩ := List.mem_iff_getElem.1 hy
    rw [List.length_take] at hj
    rw [List.getElem_take, ← hx]
    exact hs.same j (by omega) (by omega)
  have hrest : SrtT rest := (List.pairwise_append.1 (h.all ▸ hT : SrtT (A ++ rest))).2.1
  have hgt : ∀ y ∈ rest.drop s, cmpW x.r y.r < 0 := by
    intro y hy
    obtain ⟨j, hj, rfl⟩ := List.mem_iff_getElem.1 hy
    rw [List.length_drop] at hj
    rw [List.getElem_drop]
    have hne := hs.last (by omega)
    have h1 : cmpW x.r (rest[s]'(by omega)).r ≤ 0 := by
      have := List.pairwise_iff_getElem.1 hrest 0 s h0 (by omega) (by have := hs.pos; omega)
      rw [hx] at this; exact this
    have h1' : cmpW x.r (rest[s]'(by omega)).r ≠ 0 := fun e => hne (by rw [hx]; exact ((cw_ord.zero _ _).1 e).symm)
    by_cases e : j = 0
    · subst e; simp only [Nat.add_zero]; omega
    · have h2 := List.pairwise_iff_getElem.1 hrest s (s + j) (by omega) (by omega) (by omega)
      have h3 := cw_ord.le_trans h1 h2
      have hz : cmpW x.r (rest[s + j]'(by omega)).r ≠ 0 := fun e0 => by
        have e1 := (cw_ord.zero _ _).1 e0
        rw [← e1] at h2
        have := cw_ord.swap x.r (rest[s]'(by omega)).r
        omega
      omega
  have hx0 : x ∈ rest := by rw [← hx]; exact List.getElem_mem _
  have hcov : ∀ t, cov (prs (tus (rest.take s))) t = ats (tus T) x.r t := by
    intro t
    have e1 : T = A ++ (rest.take s ++ rest.drop s) := by rw [List.take_append_drop]; exact h.all
    rw [e1, tus_app, tus_app, ats_app, ats_app]
    rw [ats_none (l := tus A) fun y hy e => ?_, ats_none (l := tus (rest.drop s)) fun y hy e => ?_]
    · have hp : per (tus (rest.take s)) x.r = prs (tus (rest.take s)) := per_all fun y hy => by
        obtain ⟨z, hz, rfl⟩ := List.mem_map.1 hy
        exact hr z hz
      unfold ats
      rw [hp]; omega
    · obtain ⟨z, hz, rfl⟩ := List.mem_map.1 hy
      have h1 := hgt z hz
      have := (cw_ord.zero x.r z.r).2 e.symm
      omega
    · obtain ⟨z, hz, rfl⟩ := List.mem_map.1 hy
      have h1 := h.lt z hz x hx0
      have := (cw_ord.zero z.r x.r).2 e
      omega
  refine ⟨by rw [List.append_assoc, List.take_append_drop]; exact h.all, fun y hy z hz => ?_, ?_, ?_⟩
  · rcases List.mem_append.1 hy with hy | hy
    · exact h.lt y hy z (List.mem_of_mem_drop hz)
    · rw [hr y hy]; exact hgt z hz
  · rw [tus_app, tus_mk]
    refine h.prt.step (fun q ⟨y, hy, e⟩ => by rw [← e]; exact h.lt y hy x hx0) ⟨hL.srt, hL.lam, fun t => by rw [hL.cnt, hcov]⟩ fun q => ?_
    constructor
    · rintro ⟨y, hy, e⟩
      rcases List.mem_append.1 hy with hy | hy
      · exact Or.inl ⟨y, hy, e⟩
      · exact Or.inr (by rw [← e]; exact hr y hy)
    · rintro (⟨y, hy, e⟩ | e)
      · exact ⟨y, List.mem_append.2 (Or.inl hy), e⟩
      · refine ⟨x, List.mem_append.2 (Or.inr ?_), e.symm⟩
        rw [← hx, List.mem_iff_getElem]
        exact ⟨0, by rw [List.length_take]; have := hs.pos; omega, by rw [List.getElem_take]⟩
  · rw [List.length_append, List.length_append, List.length_map, List.length_take]
    have := h.len
    have := hs.le
    omega
theorem NfI.fin {T A N : List TP} (h : NfI T A [] N) : IsNf (ats (tus T)) (tus N) := by
  refine h.prt.done fun r t hr => ats_none (fun y hy e => hr ?_) t
  obtain ⟨z, hz, rfl⟩ := List.mem_map.1 hy
  have := h.all
  rw [List.append_nil] at this
  exact ⟨z, by rw [← this]; exact hz, e⟩
/-- what does not hold at all does not count -/
theorem ats_hold (ps : List TP) (r : R) (t : Int) : ats (tus (ps.filter okT)) r t = ats (tus ps) r t := by
  induction ps with
  | nil => rfl
  | cons p ps ih =>
    cases hk : okT p with
    | true =>
      rw [List.filter_cons_of_pos hk]
      have e1 := ats_app [p.tu] (tus (ps.filter okT)) r t
      have e2 := ats_app [p.tu] (tus ps) r t
      have e3 : tus (p :: ps.filter okT) = [p.tu] ++ tus (ps.filter okT) := rfl
      have e4 : tus (p :: ps) = [p.tu] ++ tus ps := rfl
      rw [e3, e4, e1, e2, ih]
    | false =>
      rw [List.filter_cons_of_neg (by rw [hk]; decide), ih]
      have e2 := ats_app [p.tu] (tus ps) r t
      have e4 : tus (p :: ps) = [p.tu] ++ tus ps := rfl
      rw [e4, e2]
      have : ats [p.tu] r t = 0 := by
        unfold ats
        rw [per_cons]
        have hi : incB p.a p.b t = false := by unfold incB; rw [show okV p.a p.b = false from hk]; rfl
        split
        · rw [cov_cons, if_neg (by rw [hi]; decide)]; rfl
        · rfl
      omega
end Go.Proofs.YtnckdopphimgoaaGreat
