/- Rows of nodes: the order of rows, and how classes are listed, do not matter. -/
import Derived.Maps.Own
import Derived.Maps.OwnOps
import Derived.Maps.OwnSet
import Derived.Test.YtfojeajmonnifaaGreatDoorZz03
import Derived.Test.YtfojeajmonnifaaGreatDoorZz24
import Derived.Test.YtfojeajmonnifaaGreatDoorZz26
namespace Go.Proofs.YtfojeajmonnifaaGreatDoor

/-- cs are the classes of l by f, in whatever order -/
structure IsC (f : R → List V) (l : List R) (cs : List Cl) : Prop where
  nd : (cs.map Prod.fst).Nodup
  mem : ∀ v, v ∈ cs.map Prod.fst ↔ v ∈ l.map f
  cls : ∀ c ∈ cs, c.2.Perm (l.filter fun r => decide (f r = c.1))
theorem IsC.keys {f : R → List V} {l l' : List R} {cs cs' : List Cl} (h : IsC f l cs) (k : IsC f l' cs') (hp : l.Perm l') : (cs.map Prod.fst).Perm (cs'.map Prod.fst) :=
  (List.perm_ext_iff_of_nodup h.nd k.nd).2 fun v => (h.mem v).trans ((hp.map f).mem_iff.trans (k.mem v).symm)
theorem IsC.map {β : Type} {f : R → List V} {l l' : List R} {cs cs' : List Cl} (h : IsC f l cs) (k : IsC f l' cs') (hp : l.Perm l') (G G' : Cl → β) (hG : ∀ v a b, a.Perm b → G (v, a) = G' (v, b)) : (cs.map G).Perm (cs'.map G') := by
  have e1 : cs.map G = (cs.map Prod.fst).map fun v => G' (v, l'.filter fun r => decide (f r = v)) := by
    rw [List.map_map]; exact List.map_congr_left fun c hc => hG c.1 c.2 _ ((h.cls c hc).trans (hp.filter _))
  have e2 : cs'.map G' = (cs'.map Prod.fst).map fun v => G' (v, l'.filter fun r => decide (f r = v)) := by
    rw [List.map_map]; refine List.map_congr_left fun c hc => ?_
    exact (hG c.1 _ c.2 (List.Perm.refl _)).symm.trans (hG c.1 c.2 _ (k.cls c hc))
  rw [e1, e2]
  exact (h.keys k hp).map _
theorem IsC.flatMap {β : Type} {f : R → List V} {l l' : List R} {cs cs' : List Cl} (h : IsC f l cs) (k : IsC f l' cs') (hp : l.Perm l') (G G' : Cl → List β) (hG : ∀ v a b, a.Perm b → G (v, a) = G' (v, b)) : (cs.flatMap G).Perm (cs'.flatMap G') := by
  rw [List.flatMap_def, List.flatMap_def]
  exact (h.map k hp G G' hG).flatten
theorem IsC.len {f : R → List V} {l l' : List R} {cs cs' : List Cl} (h : IsC f l cs) (k : IsC f l' cs') (hp : l.Perm l') : cs.length = cs'.length := by
  have := (h.keys k hp).length_eq; simpa using this

theorem addC_fst (f : R → List V) (cs : List Cl) (r : R) : (addC f cs r).map Prod.fst = if f r ∈ cs.map Prod.fst then cs.map Prod.fst else cs.map Prod.fst ++ [f r] := by
  unfold addC
  have e : cs.any (fun c => decide (c.1 = f r)) = true ↔ f r ∈ cs.map Prod.fst := by
    rw [List.any_eq_true, List.mem_map]; simp
  by_cases h : f r ∈ cs.map Prod.fst
  · rw [if_pos (e.2 h), if_pos h, List.map_map]
    exact List.map_congr_left fun c _ => by simp only [Function.comp]; split <;> rfl
  · rw [if_neg (fun x => h (e.1 x)), if_neg h]; simp
theorem clsF_isC (f : R → List V) (l : List R) : IsC f l (clsF f l) := by
  have key : ∀ (l : List R) (pre : List R) (cs : List Cl), IsC f pre cs → IsC f (pre ++ l) (l.foldl (addC f) cs) := by
    intro l
    induction l with
    | nil => intro pre cs h; simpa using h
    | cons r l ih =>
      intro pre cs h
      have := ih (pre ++ [r]) (addC f cs r) ?_
      · simpa using this
      · constructor
        · rw [addC_fst]; split
          · exact h.nd
          · rename_i hn
            refine List.nodup_append.2 ⟨h.nd, by simp, ?_⟩
            intro a ha b hb; simp only [List.mem_singleton] at hb; subst hb; intro e; subst e; exact hn ha
        · intro v
          rw [addC_fst, List.map_append, List.mem_append]
          split
          · rename_i hm
            rw [h.mem]; constructor
            · exact .inl
            · rintro (x | x)
              · exact x
              · simp only [List.map_cons, List.map_nil, List.mem_singleton] at x; subst x; exact (h.mem _).1 hm
          · rw [List.mem_append, h.mem]; simp
        · intro c hc
          rw [List.filter_append]
          unfold addC at hc
          split at hc
          · obtain ⟨d, hd, rfl⟩ := List.mem_map.1 hc
            by_cases e : d.1 = f r
            · rw [if_pos e]
              simp only [e, List.filter_cons, decide_true, if_true, List.filter_nil]
              have := h.cls d hd; rw [e] at this
              exact this.append_right _
            · rw [if_neg e]
              have : decide (f r = d.1) = false := by simp; exact fun x => e x.symm
              simp only [List.filter_cons, this, List.filter_nil]
              simpa using h.cls d hd
          · rename_i hn
            have hn' : ∀ c ∈ cs, c.1 ≠ f r := by
              intro c hc e; exact hn (List.any_eq_true.2 ⟨c, hc, by simp [e]⟩)
            rcases List.mem_append.1 hc with hc | hc
            · have : decide (f r = c.1) = false := by simp; exact fun x => hn' c hc x.symm
              simp only [List.filter_cons, this, List.filter_nil]
              simpa using h.cls c hc
            · simp only [List.mem_singleton] at hc; subst hc
              have : pre.filter (fun x => decide (f x = f r)) = [] := by
                rw [List.filter_eq_nil_iff]; intro a ha
                simp only [decide_eq_true_eq]; intro e
                obtain ⟨c, hc, e2⟩ := List.mem_map.1 ((h.mem (f a)).2 (List.mem_map_of_mem ha))
                exact hn' c hc (e2.trans e)
              simp [this]
  have := key l [] [] ⟨by simp, by simp, by simp⟩
  simpa [clsF] using this

/- the order of rows -/
theorem linR_perm {a b : List R} (h : a.Perm b) : linR a = linR b := linL_eq fun c => by
  simp only [List.mem_flatMap]
  exact ⟨fun ⟨r, hr, e⟩ => ⟨r, h.mem_iff.1 hr, e⟩, fun ⟨r, hr, e⟩ => ⟨r, h.mem_iff.2 hr, e⟩⟩
theorem ext_fold {α : Type} (c : α → α → Bool) (tot : ∀ a b, c a b = true → c b a = false) (tr : ∀ a b d, c a b = false → c b d = false → c a d = false) (l : List α) : ∀ m : α, let z := l.foldl (fun m v => if c v m = true then v else m) m
    (z = m ∨ z ∈ l) ∧ c m z = false ∧ ∀ v ∈ l, c v z = false := by
  induction l with
  | nil =>
    intro m
    refine ⟨.inl rfl, ?_, by simp⟩
    show c m m = false
    cases h : c m m with
    | false => rfl
    | true => have := tot _ _ h; rw [h] at this; exact this
  | cons x l ih =>
    intro m
    simp only [List.foldl_cons]
    by_cases hx : c x m = true
    · rw [if_pos hx]
      obtain ⟨h1, h2, h3⟩ := ih x
      refine ⟨?_, tr _ _ _ (tot _ _ hx) h2, ?_⟩
      · rcases h1 with h1 | h1
        · exact .inr (by rw [h1]; exact List.mem_cons_self)
        · exact .inr (List.mem_cons_of_mem _ h1)
      · intro v hv; rcases List.mem_cons.1 hv with rfl | hv
        · exact h2
        · exact h3 v hv
    · rw [if_neg hx]
      obtain ⟨h1, h2, h3⟩ := ih m
      refine ⟨?_, h2, ?_⟩
      · rcases h1 with h1 | h1
        · exact .inl h1
        · exact .inr (List.mem_cons_of_mem _ h1)
      · intro v hv; rcases List.mem_cons.1 hv with rfl | hv
        · exact tr _ _ _ (by simpa using hx) h2
        · exact h3 v hv
theorem ltV_tot (a b : V) (h : decide (cmpV a b < 0) = true) : decide (cmpV b a < 0) = false := by
  have := cv_swap a b; simp at *; omega
theorem ltV_tr (a b d : V) (h : decide (cmpV a b < 0) = false) (k : decide (cmpV b d < 0) = false) : decide (cmpV a d < 0) = false := by
  have e1 := cv_swap a b; have e2 := cv_swap b d; have e3 := cv_swap a d
  have := cv_ord.le_trans (a := d) (b := b) (d := a) (by simp at *; omega) (by simp at *; omega)
  simp at *; omega
theorem gtV_tot (a b : V) (h : decide (0 < cmpV a b) = true) : decide (0 < cmpV b a) = false := by
  have := cv_swap a b; simp at *; omega
theorem gtV_tr (a b d : V) (h : decide (0 < cmpV a b) = false) (k : decide (0 < cmpV b d) = false) : decide (0 < cmpV a d) = false := by
  have := cv_ord.le_trans (a := a) (b := b) (d := d) (by simp at *; omega) (by simp at *; omega)
  simp at *; omega
theorem minL_spec (x : V) (l : List V) : minL (x :: l) ∈ x :: l ∧ ∀ v ∈ x :: l, ¬ cmpV v (minL (x :: l)) < 0 := by
  have e : minL (x :: l) = l.foldl (fun m v => if decide (cmpV v m < 0) = true then v else m) x := by
    unfold minL; simp
  obtain ⟨h1, h2, h3⟩ := ext_fold (fun a b => decide (cmpV a b < 0)) ltV_tot ltV_tr l x
  rw [← e] at h1 h2 h3
  refine ⟨by rcases h1 with h | h; · rw [h]; simp
             · simp [h], fun v hv => ?_⟩
  rcases List.mem_cons.1 hv with rfl | hv
  · simpa using h2
  · simpa using h3 v hv
theorem maxL_spec (x : V) (l : List V) : maxL (x :: l) ∈ x :: l ∧ ∀ v ∈ x :: l, ¬ 0 < cmpV v (maxL (x :: l)) := by
  have e : maxL (x :: l) = l.foldl (fun m v => if decide (0 < cmpV v m) = true then v else m) x := by
    unfold maxL; simp
  obtain ⟨h1, h2, h3⟩ := ext_fold (fun a b => decide (0 < cmpV a b)) gtV_tot gtV_tr l x
  rw [← e] at h1 h2 h3
  refine ⟨by rcases h1 with h | h; · rw [h]; simp
             · simp [h], fun v hv => ?_⟩
  rcases List.mem_cons.1 hv with rfl | hv
  · simpa using h2
  · simpa using h3 v hv
theorem minL_uniq {l : List V} {m : V} (h1 : m ∈ l) (h2 : ∀ v ∈ l, ¬ cmpV v m < 0) : m = minL l := by
  cases l with
  | nil => cases h1
  | cons x l =>
    obtain ⟨k1, k2⟩ := minL_spec x l
    have a := h2 _ k1
    have b := k2 _ h1
    have := cv_swap m (minL (x :: l))
    exact (cv_zero _ _).1 (by omega)
theorem maxL_uniq {l : List V} {m : V} (h1 : m ∈ l) (h2 : ∀ v ∈ l, ¬ 0 < cmpV v m) : m = maxL l := by
  cases l with
  | nil => cases h1
  | cons x l =>
    obtain ⟨k1, k2⟩ := maxL_spec x l
    have a := h2 _ k1
    have b := k2 _ h1
    have := cv_swap m (maxL (x :: l))
    exact (cv_zero _ _).1 (by omega)
theorem minL_perm {a b : List V} (h : a.Perm b) : minL a = minL b := by
  cases a with
  | nil => rw [List.nil_perm.1 h]
  | cons x l =>
    obtain ⟨k1, k2⟩ := minL_spec x l
    exact minL_uniq (h.mem_iff.1 k1) fun v hv => k2 v (h.mem_iff.2 hv)
theorem maxL_perm {a b : List V} (h : a.Perm b) : maxL a = maxL b := by
  cases a with
  | nil => rw [List.nil_perm.1 h]
  | cons x l =>
    obtain ⟨k1, k2⟩ := maxL_spec x l
    exact maxL_uniq (h.mem_iff.1 k1) fun v hv => k2 v (h.mem_iff.2 hv)
theorem sum_perm {a b : List Int} (h : a.Perm b) : a.sum = b.sum := by
  induction h with
  | nil => rfl
  | cons x _ ih => simp [ih]
  | swap x y l => simp; omega
  | trans _ _ h1 h2 => exact h1.trans h2
theorem sumL_perm {a b : List V} (h : a.Perm b) : sumL a = sumL b := by
  have hp : (intL a).Perm (intL b) := (h.filter _).map _
  unfold sumL
  rw [hp.length_eq, sum_perm hp]
theorem agV_perm (es : List X) {a b : List R} (h : a.Perm b) (g : Int × Int) : agV es a g = agV es b g := by
  unfold agV
  have hp : ((a.map fun r => evlV es g.2 r.v).filter fun v => decide (v.k ≠ 0)).Perm ((b.map fun r => evlV es g.2 r.v).filter fun v => decide (v.k ≠ 0)) := (h.map _).filter _
  simp only
  rw [h.length_eq, hp.length_eq, minL_perm hp, maxL_perm hp, sumL_perm hp]
theorem grpR_perm (es : List X) (ag : List (Int × Int)) (v : List V) (a b : List R) (h : a.Perm b) : grpR es ag (v, a) = grpR es ag (v, b) := by
  unfold grpR
  simp only
  rw [linR_perm h, List.map_congr_left fun g _ => agV_perm es h g]
theorem parL_perm (es : List X) (p : Int) (r : R) {a b : List R} (h : a.Perm b) : (parL es p r a).Perm (parL es p r b) := (h.filter _).map _
theorem oneJ_perm (es : List X) (p : Int) (left : Bool) (w : Nat) {a b : List R} (h : a.Perm b) (r : R) : (oneJ es p left w a r).Perm (oneJ es p left w b r) := by
  have hp := parL_perm es p r h
  unfold oneJ
  rw [hp.length_eq]
  split
  · exact List.Perm.refl _
  · exact hp
theorem flat_perm {α β : Type} {f g : α → List β} (hf : ∀ x, (f x).Perm (g x)) {a b : List α} (h : a.Perm b) : (a.flatMap f).Perm (b.flatMap g) := by
  have h1 : ∀ l : List α, (l.flatMap f).Perm (l.flatMap g) := by
    intro l
    induction l with
    | nil => exact List.Perm.refl _
    | cons x l ih => simp only [List.flatMap_cons]; exact (hf x).append ih
  refine (h1 a).trans ?_
  rw [List.flatMap_def, List.flatMap_def]
  exact (h.map g).flatten
theorem jnL_perm (es : List X) (p : Int) (left : Bool) (w : Nat) {a a' b b' : List R} (h : a.Perm a') (k : b.Perm b') : (jnL es p left w a b).Perm (jnL es p left w a' b') :=
  flat_perm (fun r => oneJ_perm es p left w k r) h
theorem cmbC_perm (f : Nat → Nat → Nat) {a a' : List R} (h : a.Perm a') (v : List V) (x y : List R) (k : x.Perm y) : cmbC f a (v, x) = cmbC f a' (v, y) := by
  unfold cmbC
  simp only
  rw [cnt_perm h, k.length_eq, linR_perm k]

/-- a way to list classes -/
def IsCl (cl : (R → List V) → List R → List Cl) : Prop := ∀ f l, IsC f l (cl f l)
/-- lists of rows, each in whatever order -/
def Prm (a b : List (List R)) : Prop := a.length = b.length ∧ ∀ i, (atL a i).Perm (atL b i)
theorem Prm.nil : Prm [] [] := ⟨rfl, fun _ => List.Perm.refl _⟩
theorem atL_snoc (l : List (List R)) (x : List R) (i : Int) : atL (l ++ [x]) i = if i.toNat = l.length then x else atL l i := by
  unfold atL
  split
  · rename_i h; rw [h]; simp [List.getD]
  · rename_i h
    by_cases hl : i.toNat < l.length
    · simp [List.getD, List.getElem?_append_left hl]
    · simp [List.getD, List.getElem?_eq_none (show l.length ≤ i.toNat by omega), List.getElem?_eq_none (show (l ++ [x]).length ≤ i.toNat by simp; omega)]
theorem Prm.snoc {a b : List (List R)} {x y : List R} (h : Prm a b) (k : x.Perm y) : Prm (a ++ [x]) (b ++ [y]) := by
  refine ⟨by simp [h.1], fun i => ?_⟩
  rw [atL_snoc, atL_snoc, h.1]
  split
  · exact k
  · exact h.2 i
theorem evN_perm {cl cl' : (R → List V) → List R → List Cl} (H : IsCl cl) (H' : IsCl cl') (es : List X) (db db' : List Tb) (hdb : ∀ s, (scnL db s).Perm (scnL db' s)) (cols : List (List Int)) (n : Nd) {done done' : List (List R)} (hd : Prm done done') :
    (evN cl es db cols n done).Perm (evN cl' es db' cols n done') := by
  have ha := hd.2 n.a
  have hb := hd.2 n.b
  unfold evN
  by_cases h1 : n.k = 1
  · rw [if_pos h1, if_pos h1]; exact hdb _
  rw [if_neg h1, if_neg h1]
  by_cases h2 : n.k = 2
  · rw [if_pos h2, if_pos h2]; exact ha.filter _
  rw [if_neg h2, if_neg h2]
  by_cases h3 : n.k = 3
  · rw [if_pos h3, if_pos h3]; exact ha.map _
  rw [if_neg h3, if_neg h3]
  by_cases h4 : n.k = 4 ∨ n.k = 5
  · rw [if_pos h4, if_pos h4]; exact jnL_perm _ _ _ _ ha hb
  rw [if_neg h4, if_neg h4]
  by_cases h6 : n.k = 6
  · rw [if_pos h6, if_pos h6]; exact ha.append hb
  rw [if_neg h6, if_neg h6]
  by_cases h7 : n.k = 7
  · rw [if_pos h7, if_pos h7]; exact (H _ _).flatMap (H' _ _) (ha.append hb) _ _ (cmbC_perm _ ha)
  rw [if_neg h7, if_neg h7]
  by_cases h8 : n.k = 8
  · rw [if_pos h8, if_pos h8]; exact (H _ _).flatMap (H' _ _) (ha.append hb) _ _ (cmbC_perm _ ha)
  rw [if_neg h8, if_neg h8]
  by_cases h10 : n.k = 10
  · rw [if_pos h10, if_pos h10]
    have hl := (H (fun r => valL es n.ex r.v) (atL done n.a)).len (H' _ (atL done' n.a)) ha
    unfold oneC
    rw [hl]
    split
    · exact List.Perm.refl _
    · exact (H _ _).map (H' _ _) ha _ _ (grpR_perm es n.ag)
  rw [if_neg h10, if_neg h10]
  exact (H _ _).map (H' _ _) ha _ _ fun v x y k => by simp only [linR_perm k]
theorem evsQ_perm {cl cl' : (R → List V) → List R → List Cl} (H : IsCl cl) (H' : IsCl cl') (es : List X) (db db' : List Tb) (hdb : ∀ s, (scnL db s).Perm (scnL db' s)) (cols : List (List Int)) : ∀ (l : List Nd) {done done' : List (List R)}, Prm done done' →
    (evsQ cl es db cols l done).2 = (evsQ cl' es db' cols l done').2 ∧ Prm (evsQ cl es db cols l done).1 (evsQ cl' es db' cols l done').1
  | [], _, _, hd => ⟨rfl, hd⟩
  | n :: l, done, done', hd => by
    have hp := evN_perm H H' es db db' hdb cols n hd
    unfold evsQ
    rw [hp.length_eq]
    split
    · exact ⟨rfl, Prm.nil⟩
    · exact evsQ_perm H H' es db db' hdb cols l (hd.snoc hp)
theorem last_atL (l : List (List R)) : l.getLastD [] = atL l ((l.length - 1 : Nat) : Int) := by
  unfold atL
  cases l with
  | nil => rfl
  | cons x l => simp [List.getLastD, List.getD, List.getLast_eq_getElem]
theorem evQ_perm {cl cl' : (R → List V) → List R → List Cl} (H : IsCl cl) (H' : IsCl cl') (es : List X) (db db' : List Tb) (ht : db.map Tb.t = db'.map Tb.t) (hdb : ∀ s, (scnL db s).Perm (scnL db' s)) (l : List Nd) : evQ cl es db l = evQ cl' es db' l := by
  unfold evQ
  rw [ht]
  obtain ⟨h1, h2⟩ := evsQ_perm H H' es db db' hdb (colQ es (db'.map Tb.t) l).1 l Prm.nil
  simp only
  rw [h1, last_atL, last_atL, h2.1, sortR_eq.2 (h2.2 _)]
end Go.Proofs.YtfojeajmonnifaaGreatDoor
/- Classes of rows in memory; a map from keys to numbers. -/
namespace Go.Proofs.YtfojeajmonnifaaGreatDoor
open Go.ChangeShapes Go.WideShapes Go.ChangeAt Go.RowKit
open Go.Maps (Keyed)

/- the map -/
theorem map_law : Keyed Tryz.prog 9 := Go.Maps.string_keyed Tryz.underlying9
theorem map_zero (w : World) : (zeroValue 3).run Tryz.prog w = .ok (.int .i64 0) w := by kernel_rfl
def litK (v : List V) : Lit := .string (keyL v)
theorem litK_inj {a b : List V} (h : litK a = litK b) : a = b := key_inj a b (by unfold litK at h; injection h)
theorem litK_key (v : List V) : WideAt.IsKeyLit (litK v) := trivial
theorem litK_of (v : List V) (h : (keyL v).length ≤ 70368744177664) : keyOf Tryz.prog 9 (sv (keyL v)) = some (litK v) := Go.WideMaps.keyOf_string_mk Tryz.underlying9 (by have : (⟨(keyL v).toArray⟩ : ByteArray).size = (keyL v).length := rfl; rw [this]; unfold maxLen; omega)
/-- block M is a map with these numbers at the keys of these values -/
def MapI (M : Nat) (f : List V → Option Int) (n : Nat) (w : World) : Prop := ∃ D : DataW Unit, w.ownsMap Tryz.prog 9 (plainElem Tryz.prog 3) M n D ∧ Maps.IsMap D ∧
  ∀ v, (f v = none → Maps.has D (litK v) = false) ∧ ∀ i, f v = some i → Maps.has D (litK v) = true ∧ ∀ z, D.atKey (litK v) z = .lit (.int .i64 i)
theorem MapI.made (w : World) : MapI w.heap.size (fun _ => none) 0 (w.alloc (.map #[] 0)) :=
  ⟨.map [], World.ownsMap_made _ _ _ _, ⟨[], rfl⟩, fun v => ⟨fun _ => rfl, fun i h => by cases h⟩⟩
theorem MapI.block {M n : Nat} {f : List V → Option Int} {w : World} (h : MapI M f n w) : ∃ es cl, w.heap[M]? = some (.map es cl) := by
  obtain ⟨D, ⟨es, cl, hb, _⟩, _⟩ := h
  exact ⟨es, cl, hb⟩
theorem MapI.grw {M n : Nat} {f : List V → Option Int} {w w' : World} {b : Option Nat} (h : MapI M f n w) (k : Grw w w' b) (hb : some M ≠ b) : MapI M f n w' := by
  obtain ⟨D, ⟨es, cl, h1, h2⟩, h3⟩ := h
  exact ⟨D, ⟨es, cl, by rw [k.block M (Array.getElem?_eq_some_iff.1 h1).1 hb]; exact h1, h2⟩, h3⟩
theorem MapI.ext {M n : Nat} {f : List V → Option Int} {w w' : World} (h : MapI M f n w) (e : Ext w w') : MapI M f n w' := h.grw (grw_ext e none) (by simp)
theorem MapI.put {M n : Nat} {f : List V → Option Int} {D : DataW Unit} {w' : World} (v : List V) (i : Int)
    (hm : Maps.IsMap D) (hf : ∀ v, (f v = none → Maps.has D (litK v) = false) ∧ ∀ i, f v = some i → Maps.has D (litK v) = true ∧ ∀ z, D.atKey (litK v) z = .lit (.int .i64 i))
    (hown : w'.ownsMap Tryz.prog 9 (plainElem Tryz.prog 3) M n (D.put (litK v) (.lit (.int .i64 i)))) : MapI M (fun u => if u = v then some i else f u) n w' := by
  refine ⟨_, hown, hm.put _ _, fun u => ?_⟩
  by_cases h : u = v
  · subst h
    simp only [if_pos]
    refine ⟨fun e => (by cases e), fun j hj => ?_⟩
    injection hj with hj; subst hj
    exact ⟨Maps.has_put_same hm (litK_key u) _, fun z => Maps.atKey_put_same hm (litK_key u) _ z⟩
  · simp only [if_neg h]
    have hne : litK u ≠ litK v := fun e => h (litK_inj e)
    refine ⟨fun e => ?_, fun j hj => ?_⟩
    · rw [Maps.has_put_other hne]; exact (hf u).1 e
    · obtain ⟨h1, h2⟩ := (hf u).2 j hj
      exact ⟨by rw [Maps.has_put_other hne]; exact h1, fun z => by rw [Maps.atKey_put_other hne]; exact h2 z⟩
/-- a key's text -/
theorem rdV_of {w : World} {v : Value} {l : List V} (h : RdG w v l) : RdV w v l := by
  obtain ⟨ad, cap, rfl, h1, h2, h3, h4⟩ := h
  refine ⟨ad, cap, rfl, h1, h2, h3, fun i hi => ?_⟩
  obtain ⟨g, o, e, c⟩ := h4 i hi
  exact ⟨g, o, e, c 0 _ rfl, c 1 _ rfl, c 2 _ rfl⟩
/-- values whose key is not too long, numbers within 64 bits -/
def KeyOk (l : List V) : Prop := (∀ v ∈ l, okN v.k ∧ okN v.n) ∧ (keyL l).length ≤ 70368744177664
theorem KeyOk.okL {l : List V} (h : KeyOk l) : OkL l := fun i hi => by
  obtain ⟨⟨a, b⟩, c, d⟩ := h.1 l[i] (List.getElem_mem _)
  exact ⟨a, b, c, d⟩
theorem key_call (l : List V) (v : Value) (w : World) (hG : PT w) (hr : RdG w v l) (hk : KeyOk l) : Calls Tryz.prog 140 #[v] w fun e w' => e = .returned (sv (keyL l)) ∧ Ext w w' := key_pt l v w hG (rdV_of hr) hk.okL hk.2

/- classes -/
structure ClP where
  h : Hd
  v : List V
  ps : List P
instance : Inhabited ClP := ⟨⟨⟨none, 0, 0, none, 0, 0⟩, [], []⟩⟩
instance : Enc ClP := ⟨2, by decide, fun p => [p.h.x, p.h.y], fun _ => rfl, fun a u h => by simp at h; rcases h with rfl | rfl <;> rfl⟩
def tCl : RowT ClP := ⟨200, 196, default, .agg #[.slice none 0 0, .slice none 0 0], 48, Tryz.underlying196, by kernel_rfl, by rfl, by decide⟩
def ClP.d (c : ClP) : Cl := (c.v, rows c.ps)
def Dis (u v : Value) : Prop := ∀ g, u.ownBlock = some g → v.ownBlock ≠ some g
theorem Dis.symm {u v : Value} (h : Dis u v) : Dis v u := fun g hg hu => h g hu hg
/-- a slice that lies in a block of cells -/
theorem rd_cells {α : Type} [Enc α] {w : World} {v : Value} {l : List α} (h : RdG w v l) (g : Nat) (hg : v.ownBlock = some g) (hl : lenOf v ≠ 0) : ∃ c e f, w.heap[g]? = some (.cells c e f) := by
  obtain ⟨ad, cap, rfl, h1, h2, h3, h4⟩ := h
  simp only [lenOf] at hl
  obtain ⟨g', o, rfl, c⟩ := h4 0 (by omega)
  injection hg with hg
  subst hg
  have hp := Enc.pos (α := α)
  have hz : 0 < (Enc.cells (l[0]'(by omega))).length := by rw [Enc.len]; exact hp
  have hc := c 0 _ (List.getElem?_eq_getElem hz)
  unfold World.cell? at hc
  split at hc
  · rename_i c e f hb; exact ⟨_, _, _, hb⟩
  · cases hc
theorem off_other {e1 e2 : TypeId} {W w w' : World} {u : Value} {b : Option Nat} (h1 : Off e1 W w u) (h2 : Off e2 W w u) (k : Grw w w' b) (hb : RowBlk e2 W w b) : Off e1 W w' u := fun g hg hl => by
  rcases h1 g hg hl with h | ⟨cur, e', fr, c1, c2⟩
  · exact .inl h
  · refine .inr ⟨cur, e', fr, ?_, c2⟩
    rw [k.block g (Array.getElem?_eq_some_iff.1 c1).1 (fun he => ?_)]
    · exact c1
    · obtain ⟨hW, c3, hc3⟩ := hb g he.symm
      rcases h2 g hg hl with h | ⟨cur2, e2', fr2, d1, d2⟩
      · omega
      · rw [d1] at hc3; injection hc3 with hc3; injection hc3 with _ hc3; exact d2 hc3
/-- the values of a class: read, lying off rows and classes; fr: the call's own -/
def VOk (fr : Bool) (S : Nat → Prop) (W w : World) (c : ClP) : Prop := RdI S w c.h.x c.v ∧ Off tP.e W w c.h.x ∧ Off tCl.e W w c.h.x ∧ (fr = true → OwnG tV.e W w c.h.x c.v)
structure ClsI (fr : Bool) (S : Nat → Prop) (W w : World) (vc : Value) (cps : List ClP) (ps0 : List P) : Prop where
  own : OwnG tCl.e W w vc cps
  rws : ∀ c ∈ cps, OwnG tP.e W w c.h.y c.ps ∧ ∀ p ∈ c.ps, p ∈ ps0
  val : ∀ c ∈ cps, VOk fr S W w c
  dis : cps.Pairwise fun c d => Dis c.h.y d.h.y ∧ (fr = true → Dis c.h.x d.h.x)
theorem VOk.ext {fr : Bool} {S : Nat → Prop} {W w w' : World} {c : ClP} (h : VOk fr S W w c) (e : Ext w w') : VOk fr S W w' c := ⟨rdI_ok.ext h.1 e, h.2.1.ext e, h.2.2.1.ext e, fun f => (h.2.2.2 f).ext e⟩
theorem ClsI.ext {fr : Bool} {S : Nat → Prop} {W w w' : World} {vc : Value} {cps : List ClP} {ps0 : List P} (h : ClsI fr S W w vc cps ps0) (e : Ext w w') : ClsI fr S W w' vc cps ps0 :=
  ⟨h.own.ext e, fun c hc => ⟨(h.rws c hc).1.ext e, (h.rws c hc).2⟩, fun c hc => (h.val c hc).ext e, h.dis⟩
theorem ClsI.nil (fr : Bool) (S : Nat → Prop) {W w : World} (h : Ext W w) (ps0 : List P) : ClsI fr S W w (.slice none 0 0) [] ps0 := ⟨OwnG.nil _ _ _ h, by simp, by simp, List.Pairwise.nil⟩
/-- another block is written that is no block of cells before: the map's -/
theorem ClsI.map {fr : Bool} {S : Nat → Prop} {W w w' : World} {vc : Value} {cps : List ClP} {ps0 : List P} (h : ClsI fr S W w vc cps ps0) {M : Nat} {es : Array MapEntry} {cl : Nat} (hM : w.heap[M]? = some (.map es cl)) (k : Grw w w' (some M)) (hW : W.heap.size ≤ M) : ClsI fr S W w' vc cps ps0 := by
  have ne : ∀ {α : Type} [Enc α] {e : TypeId} {v : Value} {l : List α}, OwnG e W w v l → v.ownBlock = none ∨ v.ownBlock ≠ some M := fun {α} _ {e} {v} {l} ho => by
    refine .inr fun he => ?_
    obtain ⟨_, c, hc⟩ := ho.blk M he
    rw [hM] at hc; cases hc
  have hb : ∀ g, some M = some g → W.heap.size ≤ g := fun g hg => by injection hg with hg; omega
  refine ⟨h.own.other k hb (ne h.own), fun c hc => ⟨(h.rws c hc).1.other k hb (ne (h.rws c hc).1), (h.rws c hc).2⟩, fun c hc => ?_, h.dis⟩
  obtain ⟨v1, v2, v3, v4⟩ := h.val c hc
  have hin : In (fun g => some g ≠ some M) c.h.x := fun g hg hl e => by
    injection e with e; subst e
    obtain ⟨cc, e', f, hcc⟩ := rd_cells v1.1 g hg hl
    rw [hM] at hcc; cases hcc
  have hoff : ∀ e, Off e W w c.h.x → Off e W w' c.h.x := fun e ho g hg hl => by
    rcases ho g hg hl with h | ⟨cur, e', fr, c1, c2⟩
    · exact .inl h
    · exact .inr ⟨cur, e', fr, by rw [k.block g (Array.getElem?_eq_some_iff.1 c1).1 (hin g hg hl)]; exact c1, c2⟩
  exact ⟨⟨v1.1.out k hin, v1.2⟩, hoff _ v2, hoff _ v3, fun f => (v4 f).other k hb (ne (v4 f))⟩
/-- one more class, without rows -/
theorem ClsI.new {fr : Bool} {S : Nat → Prop} {W w w' : World} {vc vc' : Value} {cps : List ClP} {ps0 : List P} (h : ClsI fr S W w vc cps ps0) {c : ClP} (hv : VOk fr S W w c) (hy : c.h.y = .slice none 0 0) (hp : c.ps = []) (hd : fr = true → ∀ d ∈ cps, Dis d.h.x c.h.x)
    (ho : OwnG tCl.e W w' vc' (cps ++ [c])) (hg : w.grownBy w' vc.ownBlock) : ClsI fr S W w' vc' (cps ++ [c]) ps0 := by
  have k := grw_by hg
  have hb : ∀ g, vc.ownBlock = some g → W.heap.size ≤ g := fun g hg => (h.own.blk g hg).1
  have vst : ∀ d, VOk fr S W w d → VOk fr S W w' d := fun d ⟨v1, v2, v3, v4⟩ =>
    ⟨⟨v1.1.grw v3 k h.own.blk, v1.2⟩, off_other v2 v3 k h.own.blk, v3.grw k h.own.blk, fun f => (v4 f).other k hb ((v4 f).apart h.own (by decide))⟩
  refine ⟨ho, fun d hd' => ?_, fun d hd' => ?_, ?_⟩
  · rcases List.mem_append.1 hd' with hd' | hd'
    · exact ⟨(h.rws d hd').1.other k hb ((h.rws d hd').1.apart h.own (by decide)), (h.rws d hd').2⟩
    · simp only [List.mem_singleton] at hd'; subst hd'
      rw [hy, hp]; exact ⟨OwnG.nil _ _ _ ho.2, by simp⟩
  · rcases List.mem_append.1 hd' with hd' | hd'
    · exact vst d (h.val d hd')
    · simp only [List.mem_singleton] at hd'; subst hd'; exact vst _ hv
  · refine List.pairwise_append.2 ⟨h.dis, by simp, fun a ha b hb' => ?_⟩
    simp only [List.mem_singleton] at hb'; subst hb'
    exact ⟨fun g _ e => (by rw [hy] at e; cases e), fun f => hd f a ha⟩
end Go.Proofs.YtfojeajmonnifaaGreatDoor
