/- How nodes, types of tables, tables, lists of columns and of rows lie; parts that avoid blocks. -/
import Derived.Test.YtbplapkcleipiaaGreatDoorZz02
import Derived.Test.YtbplapkcleipiaaGreatDoorZz04
import Derived.Test.YtbplapkcleipiaaGreatDoorZz09
namespace Go.Proofs.YtbplapkcleipiaaGreatDoor
open Go.ChangeShapes Go.WideShapes Go.ChangeAt Go.RowKit

/-- a slice that lies in blocks of S alone -/
def In (S : Nat → Prop) (u : Value) : Prop := ∀ g, u.ownBlock = some g → lenOf u ≠ 0 → S g
/-- all blocks that are yet to come are in S -/
def Up (S : Nat → Prop) (w : World) : Prop := ∀ g, w.heap.size ≤ g → S g
theorem Up.ext {S : Nat → Prop} {w w' : World} (h : Up S w) (k : Ext w w') : Up S w' := fun g hg => h g (Nat.le_trans k.2.2 hg)
theorem In.nil (S : Nat → Prop) : In S (.slice none 0 0) := fun g h => by cases h
section
variable {α : Type} [Enc α]
theorem OwnG.inn {e : TypeId} {W w : World} {v : Value} {l : List α} {S : Nat → Prop} (h : OwnG e W w v l) (k : Up S W) : In S v := fun g hg _ => k g (h.blk g hg).1
theorem RdG.lt {w : World} {v : Value} {l : List α} (h : RdG w v l) (g : Nat) (hg : v.ownBlock = some g) (hl : lenOf v ≠ 0) : g < w.heap.size := by
  obtain ⟨ad, cap, rfl, h1, h2, h3, h4⟩ := h
  simp only [lenOf] at hl
  obtain ⟨g', o, rfl, c⟩ := h4 0 (by omega)
  injection hg with hg
  subst hg
  have hp := Enc.pos (α := α)
  have hz : 0 < (Enc.cells (l[0]'(by omega))).length := by rw [Enc.len]; exact hp
  have hc := World.block_lt_of_cell? _ _ (c 0 _ (List.getElem?_eq_getElem hz))
  exact hc
/-- what is read lies in another block than the one that is written -/
theorem RdG.out {w w' : World} {u : Value} {l : List α} {b : Option Nat} (h : RdG w u l) (k : Grw w w' b) (ho : In (fun g => some g ≠ b) u) : RdG w' u l := by
  have hlt := h.lt
  obtain ⟨ad, cap, rfl, h1, h2, h3, h4⟩ := h
  refine ⟨ad, cap, rfl, h1, h2, h3, fun i hi => ?_⟩
  obtain ⟨g, o, rfl, c⟩ := h4 i hi
  refine ⟨g, o, rfl, fun j u hj => ?_⟩
  rw [← c j u hj]
  have hl : lenOf (.slice (some ⟨g, o, none⟩) l.length cap) ≠ 0 := by simp only [lenOf]; omega
  exact World.cell?_of_block (k.block g (hlt g rfl hl) (ho g rfl hl))
/-- .. with the blocks it lies in -/
def RdI (S : Nat → Prop) (w : World) (v : Value) (l : List α) : Prop := RdG w v l ∧ In S v
end
/-- a kind of slices that are read: it outlives growth -/
structure RelOk {α : Type} (rel : (Nat → Prop) → World → Value → List α → Prop) : Prop where
  ext : ∀ {S w w' v l}, rel S w v l → Ext w w' → rel S w' v l
  out : ∀ {S w w' v l b}, rel S w v l → Grw w w' b → (∀ g, S g → some g ≠ b) → rel S w' v l
  mono : ∀ {S S' : Nat → Prop} {w v l}, rel S w v l → (∀ g, g < w.heap.size → S g → S' g) → rel S' w v l
  shape : ∀ {S w v l}, rel S w v l → ∃ ad cap, v = .slice ad l.length cap
theorem In.mono {S S' : Nat → Prop} {u : Value} (h : In S u) (k : ∀ g, S g → S' g) : In S' u := fun g hg hl => k g (h g hg hl)
theorem rdI_ok {α : Type} [Enc α] : RelOk (RdI (α := α)) :=
  ⟨fun h e => ⟨h.1.ext e, h.2⟩, fun h k hb => ⟨h.1.out k (h.2.mono hb), h.2⟩, fun h k => ⟨h.1, fun g hg hl => k g (h.1.lt g hg hl) (h.2 g hg hl)⟩, fun h => by obtain ⟨ad, cap, e, _⟩ := h.1; exact ⟨ad, cap, e⟩⟩
/-- rows that are read -/
def RdR (S : Nat → Prop) (w : World) (v : Value) (l : List R) : Prop := ∃ ps : List P, RdG w v ps ∧ In S v ∧ (∀ p ∈ ps, RdRow w p ∧ In S p.h.x ∧ In S p.h.y) ∧ rows ps = l
theorem rdR_ok : RelOk RdR := by
  refine ⟨?_, ?_, ?_, ?_⟩
  · rintro S w w' v l ⟨ps, h1, h2, h3, h4⟩ e
    exact ⟨ps, h1.ext e, h2, fun p hp => ⟨(h3 p hp).1.ext e, (h3 p hp).2⟩, h4⟩
  · rintro S w w' v l b ⟨ps, h1, h2, h3, h4⟩ k hb
    refine ⟨ps, h1.out k (h2.mono hb), h2, fun p hp => ?_, h4⟩
    obtain ⟨⟨a1, a2⟩, a3, a4⟩ := h3 p hp
    exact ⟨⟨a1.out k (a3.mono hb), a2.out k (a4.mono hb)⟩, a3, a4⟩
  · rintro S S' w v l ⟨ps, h1, h2, h3, h4⟩ k
    refine ⟨ps, h1, fun g hg hl => k g (h1.lt g hg hl) (h2 g hg hl), fun p hp => ?_, h4⟩
    obtain ⟨⟨a1, a2⟩, a3, a4⟩ := h3 p hp
    exact ⟨⟨a1, a2⟩, fun g hg hl => k g (a1.lt g hg hl) (a3 g hg hl), fun g hg hl => k g (a2.lt g hg hl) (a4 g hg hl)⟩
  · rintro S w v l ⟨ps, ⟨ad, cap, e, _⟩, h2, h3, rfl⟩
    exact ⟨ad, cap, by rw [rows_len]; exact e⟩

/-- a slice and what it holds -/
structure Sl (α : Type) where
  a : Option Addr
  n : Nat
  c : Nat
  l : List α
abbrev Sl.x {α : Type} (q : Sl α) : Value := .slice q.a q.n q.c
instance {α : Type} : Inhabited (Sl α) := ⟨⟨none, 0, 0, []⟩⟩
instance {α : Type} : Enc (Sl α) := ⟨1, by decide, fun q => [q.x], fun _ => rfl, fun a u h => by simp at h; subst h; rfl⟩
def tC : RowT (Sl Int) := ⟨41, 75, default, .slice none 0 0, 24, Tryz.underlying75, by kernel_rfl, by rfl, by decide⟩
def tL : RowT (Sl R) := ⟨28, 88, default, .slice none 0 0, 24, Tryz.underlying88, by kernel_rfl, by rfl, by decide⟩
section
variable {α : Type} {rel : (Nat → Prop) → World → Value → List α → Prop}
/-- a slice of such slices -/
def RdS (rel : (Nat → Prop) → World → Value → List α → Prop) (S : Nat → Prop) (w : World) (v : Value) (ls : List (List α)) : Prop := ∃ qs : List (Sl α), RdG w v qs ∧ (∀ q ∈ qs, rel S w q.x q.l) ∧ qs.map Sl.l = ls
theorem RdS.ext (H : RelOk rel) {S : Nat → Prop} {w w' : World} {v : Value} {ls : List (List α)} (h : RdS rel S w v ls) (e : Ext w w') : RdS rel S w' v ls := by
  obtain ⟨qs, h1, h2, h3⟩ := h
  exact ⟨qs, h1.ext e, fun q hq => H.ext (h2 q hq) e, h3⟩
theorem RdS.shape {S : Nat → Prop} {w : World} {v : Value} {ls : List (List α)} (h : RdS rel S w v ls) : ∃ ad cap, v = .slice ad ls.length cap ∧ ls.length ≤ cap ∧ cap ≤ maxLen := by
  obtain ⟨qs, h1, h2, rfl⟩ := h
  rw [List.length_map]; exact h1.shape
theorem RdS.at (H : RelOk rel) {S : Nat → Prop} {w : World} {ad : Option Addr} {n cap : Nat} {ls : List (List α)} (h : RdS rel S w (.slice ad n cap) ls) (i : Nat) (hi : i < ls.length) :
    ∃ g o a c, ad = some ⟨g, o, none⟩ ∧ w.cell? ⟨g, o + i, none⟩ = some (.slice a ls[i].length c) ∧ rel S w (.slice a ls[i].length c) ls[i] := by
  obtain ⟨qs, h1, h2, rfl⟩ := h
  have hi' : i < qs.length := by simpa using hi
  obtain ⟨g, o, e, c⟩ := h1.at i hi'
  have hr := h2 qs[i] (List.getElem_mem _)
  obtain ⟨a, k, hx⟩ := H.shape hr
  have c0 := c 0 _ rfl
  simp only [Enc.sz, Nat.mul_one, Nat.add_zero] at c0
  simp only [List.getElem_map]
  rw [hx] at c0 hr
  exact ⟨g, o, a, k, e, c0, hr⟩
theorem RdS.len {S : Nat → Prop} {w : World} {ad : Option Addr} {n cap : Nat} {ls : List (List α)} (h : RdS rel S w (.slice ad n cap) ls) : n = ls.length ∧ n ≤ cap ∧ cap ≤ maxLen := by
  obtain ⟨qs, h1, h2, rfl⟩ := h
  rw [List.length_map]; exact h1.len
/-- such a slice that the call builds -/
def OwnS (e : TypeId) (rel : (Nat → Prop) → World → Value → List α → Prop) (S : Nat → Prop) (W w : World) (v : Value) (ls : List (List α)) : Prop := ∃ qs : List (Sl α), OwnG e W w v qs ∧ (∀ q ∈ qs, rel (fun g => S g ∧ some g ≠ v.ownBlock) w q.x q.l) ∧ qs.map Sl.l = ls
theorem OwnS.nil (e : TypeId) (rel : (Nat → Prop) → World → Value → List α → Prop) (S : Nat → Prop) (W w : World) (h : Ext W w) : OwnS e rel S W w (.slice none 0 0) [] := ⟨[], OwnG.nil _ _ _ h, fun q hq => (by cases hq), rfl⟩
theorem OwnS.old {e : TypeId} {S : Nat → Prop} {W w : World} {v : Value} {ls : List (List α)} (h : OwnS e rel S W w v ls) : Ext W w := by obtain ⟨qs, h1, _⟩ := h; exact h1.2
theorem OwnS.ext (H : RelOk rel) {e : TypeId} {S : Nat → Prop} {W w w' : World} {v : Value} {ls : List (List α)} (h : OwnS e rel S W w v ls) (k : Ext w w') : OwnS e rel S W w' v ls := by
  obtain ⟨qs, h1, h2, h3⟩ := h
  exact ⟨qs, h1.ext k, fun q hq => H.ext (h2 q hq) k, h3⟩
theorem OwnS.rd {e : TypeId} {S : Nat → Prop} {W w : World} {v : Value} {ls : List (List α)} (h : OwnS e rel S W w v ls) : RdS rel (fun g => S g ∧ some g ≠ v.ownBlock) w v ls := by
  obtain ⟨qs, h1, h2, h3⟩ := h
  exact ⟨qs, h1.rd, h2, h3⟩
theorem OwnS.up {e : TypeId} {S : Nat → Prop} {W w : World} {v : Value} {ls : List (List α)} (h : OwnS e rel S W w v ls) (k : Up S w) : Up (fun g => S g ∧ some g ≠ v.ownBlock) w := by
  obtain ⟨qs, h1, _⟩ := h
  exact fun g hg => ⟨k g hg, fun e => by have := h1.lt g e.symm; omega⟩
/-- what an elder world holds avoids the block -/
theorem OwnS.avoid {e : TypeId} {S : Nat → Prop} {W w : World} {v : Value} {ls : List (List α)} (h : OwnS e rel S W w v ls) (g : Nat) (hg : g < W.heap.size) (hs : S g) : S g ∧ some g ≠ v.ownBlock := by
  obtain ⟨qs, h1, _⟩ := h
  exact ⟨hs, fun e => by have := (h1.blk g e.symm).1; omega⟩
/-- one more -/
theorem OwnS.more (H : RelOk rel) {e : TypeId} {S : Nat → Prop} {W w w' : World} {v v' : Value} {qs : List (Sl α)} {q : Sl α} (h2 : ∀ p ∈ qs, rel (fun g => S g ∧ some g ≠ v.ownBlock) w p.x p.l)
    (hq : rel (fun g => S g ∧ some g ≠ v.ownBlock) w q.x q.l) (hO : OwnG e W w' v' (qs ++ [q])) (hg : w.grownBy w' v.ownBlock) (hL : Loc w v v') : OwnS e rel S W w' v' (qs.map Sl.l ++ [q.l]) := by
  refine ⟨qs ++ [q], hO, fun p hp => ?_, by simp⟩
  have hr : rel (fun g => S g ∧ some g ≠ v.ownBlock) w p.x p.l := by
    rcases List.mem_append.1 hp with hp | hp
    · exact h2 p hp
    · simp only [List.mem_singleton] at hp; subst hp; exact hq
  have h3 := H.mono (S' := fun g => (S g ∧ some g ≠ v'.ownBlock) ∧ some g ≠ v.ownBlock) hr (fun g hlt hs => ⟨⟨hs.1, fun e => by
    rcases hL with hL | ⟨g', hg', hle⟩
    · rw [hL] at e; exact hs.2 e
    · rw [hg'] at e; injection e with e; omega⟩, hs.2⟩)
  exact H.mono (H.out h3 (grw_by hg) fun g hs => hs.2) fun g _ hs => hs.1
end
/-- a node: how its slices lie, and what it is -/
structure NdP where
  h : Hd
  n : Nd
instance : Inhabited NdP := ⟨⟨⟨none, 0, 0, none, 0, 0⟩, default⟩⟩
instance : Enc NdP := ⟨7, by decide, fun q => [.int .i64 q.n.k, .int .i64 q.n.a, .int .i64 q.n.b, .int .i64 q.n.p, sv q.n.s, q.h.x, q.h.y], fun _ => rfl,
  fun a u h => by simp at h; rcases h with rfl | rfl | rfl | rfl | rfl | rfl | rfl <;> rfl⟩
def tNd : RowT NdP := ⟨45, 23, default, .agg #[.int .i64 0, .int .i64 0, .int .i64 0, .int .i64 0, sv [], .slice none 0 0, .slice none 0 0], 96, Tryz.underlying23, by kernel_rfl, by rfl, by decide⟩
def RdNd (w : World) (q : NdP) : Prop := RdG w q.h.x q.n.ex ∧ RdG w q.h.y q.n.ag
abbrev ndV (q : NdP) : Value := .agg #[.int .i64 q.n.k, .int .i64 q.n.a, .int .i64 q.n.b, .int .i64 q.n.p, sv q.n.s, q.h.x, q.h.y]
def RdN (w : World) (v : Value) (ns : List Nd) : Prop := ∃ qs : List NdP, RdG w v qs ∧ (∀ q ∈ qs, RdNd w q) ∧ qs.map NdP.n = ns
/-- the type of a table -/
structure TtP where
  a : Option Addr
  n : Nat
  c : Nat
  t : Tt
abbrev TtP.x (q : TtP) : Value := .slice q.a q.n q.c
instance : Inhabited TtP := ⟨⟨none, 0, 0, default⟩⟩
instance : Enc TtP := ⟨2, by decide, fun q => [sv q.t.s, q.x], fun _ => rfl, fun a u h => by simp at h; rcases h with rfl | rfl <;> rfl⟩
def tTt : RowT TtP := ⟨71, 85, default, .agg #[sv [], .slice none 0 0], 40, Tryz.underlying85, by kernel_rfl, by rfl, by decide⟩
def RdT (S : Nat → Prop) (w : World) (v : Value) (ts : List Tt) : Prop := ∃ qs : List TtP, RdG w v qs ∧ (∀ q ∈ qs, RdI S w q.x q.t.ks) ∧ qs.map TtP.t = ts
theorem RdT.ext {S : Nat → Prop} {w w' : World} {v : Value} {ts : List Tt} (h : RdT S w v ts) (e : Ext w w') : RdT S w' v ts := by
  obtain ⟨qs, h1, h2, h3⟩ := h
  exact ⟨qs, h1.ext e, fun q hq => rdI_ok.ext (h2 q hq) e, h3⟩
theorem RdT.mono {S S' : Nat → Prop} {w : World} {v : Value} {ts : List Tt} (h : RdT S w v ts) (k : ∀ g, g < w.heap.size → S g → S' g) : RdT S' w v ts := by
  obtain ⟨qs, h1, h2, h3⟩ := h
  exact ⟨qs, h1, fun q hq => rdI_ok.mono (h2 q hq) k, h3⟩
/-- a table -/
structure TbP where
  h : Hd
  t : Tb
instance : Inhabited TbP := ⟨⟨⟨none, 0, 0, none, 0, 0⟩, default⟩⟩
instance : Enc TbP := ⟨3, by decide, fun q => [sv q.t.t.s, q.h.x, q.h.y], fun _ => rfl, fun a u h => by simp at h; rcases h with rfl | rfl | rfl <;> rfl⟩
def tTb : RowT TbP := ⟨73, 33, default, .agg #[sv [], .slice none 0 0, .slice none 0 0], 64, Tryz.underlying33, by kernel_rfl, by rfl, by decide⟩
def RdB9 (S : Nat → Prop) (w : World) (v : Value) (db : List Tb) : Prop := ∃ qs : List TbP, RdG w v qs ∧ (∀ q ∈ qs, RdI S w q.h.x q.t.t.ks ∧ RdR S w q.h.y q.t.l) ∧ qs.map TbP.t = db
theorem RdB9.ext {S : Nat → Prop} {w w' : World} {v : Value} {db : List Tb} (h : RdB9 S w v db) (e : Ext w w') : RdB9 S w' v db := by
  obtain ⟨qs, h1, h2, h3⟩ := h
  exact ⟨qs, h1.ext e, fun q hq => ⟨rdI_ok.ext (h2 q hq).1 e, rdR_ok.ext (h2 q hq).2 e⟩, h3⟩
theorem RdB9.mono {S S' : Nat → Prop} {w : World} {v : Value} {db : List Tb} (h : RdB9 S w v db) (k : ∀ g, g < w.heap.size → S g → S' g) : RdB9 S' w v db := by
  obtain ⟨qs, h1, h2, h3⟩ := h
  exact ⟨qs, h1, fun q hq => ⟨rdI_ok.mono (h2 q hq).1 k, rdR_ok.mono (h2 q hq).2 k⟩, h3⟩
end Go.Proofs.YtbplapkcleipiaaGreatDoor
/- Types, of the program: one operand, two operands. -/
namespace Go.Proofs.YtbplapkcleipiaaGreatDoor
open Go.ChangeShapes Go.WideShapes Go.ChangeAt Go.RowKit

theorem ret_kv {a b : Int × Int} (h : a = b) : Ending.returned (kv a) = .returned (kv b) := by rw [h]
set_option maxHeartbeats 2000000 in
theorem un_prg (op : Int) (a : Int × Int) (hc : a.2 ≠ 0 → a.1 = 0) (w : World) : Calls Tryz.prog 153 #[.int .i64 op, kv a] w fun e w' => e = .returned (kv (unO op a)) ∧ Ext w w' := by
  obtain ⟨k, er⟩ := a
  simp only at hc
  have hAc := acc_prg 3 k
  by_cases h : er = 0
  · subst h
    clear hc
    by_cases ho : op = 10
    · subst ho
      cases hb : accB 3 k with
      | true =>
        rw [hb] at hAc
        have HA := Lib.hid hAc
        have H := Lib.hid (show unO 10 (k, 0) = (3, 0) by simp [unO, hb])
        clear hAc hb
        go_enter Tryz.func153, Tryz.ntmps153
        go_wp2_with fail
        refine (HA.out _).mono ?_; rintro e w1 ⟨rfl, rfl⟩
        go_wp2_with fail
        exact bodyPost_ret (v := kv (3, 0)) (by simp [results, Tryz.results153, go_sem]) rfl ⟨ret_kv H.out.symm, by repeat (first | exact Ext.refl _ | refine Ext.alloc ?_ _ _ | refine Ext.setNew ?_ _ _ (by simp; try omega) _)⟩
      | false =>
        rw [hb] at hAc
        have HA := Lib.hid hAc
        have H := Lib.hid (show unO 10 (k, 0) = (0, 7) by simp [unO, hb])
        clear hAc hb
        go_enter Tryz.func153, Tryz.ntmps153
        go_wp2_with fail
        refine (HA.out _).mono ?_; rintro e w1 ⟨rfl, rfl⟩
        go_wp2_with fail
        exact bodyPost_ret (v := kv (0, 7)) (by simp [results, Tryz.results153, go_sem]) rfl ⟨ret_kv H.out.symm, by repeat (first | exact Ext.refl _ | refine Ext.alloc ?_ _ _ | refine Ext.setNew ?_ _ _ (by simp; try omega) _)⟩
    · have H := Lib.hid (show unO op (k, 0) = (3, 0) by simp [unO, ho])
      clear hAc
      go_enter Tryz.func153, Tryz.ntmps153
      go_wp2_with fail
      exact bodyPost_ret (v := kv (3, 0)) (by simp [results, Tryz.results153, go_sem]) rfl ⟨ret_kv H.out.symm, by repeat (first | exact Ext.refl _ | refine Ext.alloc ?_ _ _ | refine Ext.setNew ?_ _ _ (by simp; try omega) _)⟩
  · obtain rfl := hc h
    have H := Lib.hid (show unO op (0, er) = (0, er) by simp [unO, h])
    clear hAc hc
    go_enter Tryz.func153, Tryz.ntmps153
    go_wp2_with fail
    exact bodyPost_ret (v := kv (0, er)) (by simp [results, Tryz.results153, go_sem]) rfl ⟨ret_kv H.out.symm, by repeat (first | exact Ext.refl _ | refine Ext.alloc ?_ _ _ | refine Ext.setNew ?_ _ _ (by simp; try omega) _)⟩
/-- the type that a comparison requires -/
def wantK (ka kb : Int) : Int := if ka = 0 then kb else ka
theorem want_acc (ka kb : Int) : (accB (wantK ka kb) ka = true ∧ accB (wantK ka kb) kb = decide (ka = kb ∨ ka = 0 ∨ kb = 0)) := by
  unfold wantK accB; constructor
  · split <;> simp_all
  · split
    · simp_all
    · next h => rw [decide_eq_decide]; omega
set_option maxHeartbeats 4000000 in
theorem bi_prg (op : Int) (ho : 3 ≤ op ∧ op ≤ 9) (a b : Int × Int) (hca : a.2 ≠ 0 → a.1 = 0) (hcb : b.2 ≠ 0 → b.1 = 0) (w : World) : Calls Tryz.prog 154 #[.int .i64 op, kv a, kv b] w fun e w' => e = .returned (kv (biO op a b)) ∧ Ext w w' := by
  obtain ⟨ka, ea⟩ := a
  obtain ⟨kb, eb⟩ := b
  simp only at hca hcb
  by_cases h : ea = 0
  case neg =>
    obtain rfl := hca h
    have H := Lib.hid (show biO op (0, ea) (kb, eb) = (0, ea) by simp [biO, h])
    clear hca hcb ho
    go_enter Tryz.func154, Tryz.ntmps154
    go_wp2_with fail
    exact bodyPost_ret (v := kv (0, ea)) (by simp [results, Tryz.results154, go_sem]) rfl ⟨ret_kv H.out.symm, by repeat (first | exact Ext.refl _ | refine Ext.alloc ?_ _ _ | refine Ext.setNew ?_ _ _ (by simp; try omega) _)⟩
  subst h
  by_cases h : eb = 0
  case neg =>
    obtain rfl := hcb h
    have H := Lib.hid (show biO op (ka, 0) (0, eb) = (0, eb) by simp [biO, h])
    clear hca hcb ho
    go_enter Tryz.func154, Tryz.ntmps154
    go_wp2_with fail
    exact bodyPost_ret (v := kv (0, eb)) (by simp [results, Tryz.results154, go_sem]) rfl ⟨ret_kv H.out.symm, by repeat (first | exact Ext.refl _ | refine Ext.alloc ?_ _ _ | refine Ext.setNew ?_ _ _ (by simp; try omega) _)⟩
  subst h
  clear hca hcb
  rcases (show op = 3 ∨ op = 4 ∨ op = 5 ∨ op = 6 ∨ op = 7 ∨ op = 8 ∨ op = 9 by omega) with rfl | rfl | rfl | rfl | rfl | rfl | rfl
  · have hA := acc_prg 1 ka
    have hB := acc_prg 1 kb
    cases ha : accB 1 ka with
    | false =>
      rw [ha] at hA
      have HA := Lib.hid hA
      have H := Lib.hid (show biO 3 (ka, 0) (kb, 0) = (0, 7) by simp [biO, ha])
      clear hA hB ha ho
      go_enter Tryz.func154, Tryz.ntmps154
      go_wp2_with fail
      refine (HA.out _).mono ?_; rintro e w1 ⟨rfl, rfl⟩
      go_wp2_with fail
      exact bodyPost_ret (v := kv (0, 7)) (by simp [results, Tryz.results154, go_sem]) rfl ⟨ret_kv H.out.symm, by repeat (first | exact Ext.refl _ | refine Ext.alloc ?_ _ _ | refine Ext.setNew ?_ _ _ (by simp; try omega) _)⟩
    | true =>
      rw [ha] at hA
      have HA := Lib.hid hA
      cases hb : accB 1 kb with
      | false =>
        rw [hb] at hB
        have HB := Lib.hid hB
        have H := Lib.hid (show biO 3 (ka, 0) (kb, 0) = (0, 7) by simp [biO, ha, hb])
        clear hA hB ha hb ho
        go_enter Tryz.func154, Tryz.ntmps154
        go_wp2_with fail
        refine (HA.out _).mono ?_; rintro e w1 ⟨rfl, rfl⟩
        go_wp2_with fail
        refine (HB.out _).mono ?_; rintro e w1 ⟨rfl, rfl⟩
        go_wp2_with fail
        exact bodyPost_ret (v := kv (0, 7)) (by simp [results, Tryz.results154, go_sem]) rfl ⟨ret_kv H.out.symm, by repeat (first | exact Ext.refl _ | refine Ext.alloc ?_ _ _ | refine Ext.setNew ?_ _ _ (by simp; try omega) _)⟩
      | true =>
        rw [hb] at hB
        have HB := Lib.hid hB
        have H := Lib.hid (show biO 3 (ka, 0) (kb, 0) = (1, 0) by simp [biO, ha, hb])
        clear hA hB ha hb ho
        go_enter Tryz.func154, Tryz.ntmps154
        go_wp2_with fail
        refine (HA.out _).mono ?_; rintro e w1 ⟨rfl, rfl⟩
        go_wp2_with fail
        refine (HB.out _).mono ?_; rintro e w1 ⟨rfl, rfl⟩
        go_wp2_with fail
        exact bodyPost_ret (v := kv (1, 0)) (by simp [results, Tryz.results154, go_sem]) rfl ⟨ret_kv H.out.symm, by repeat (first | exact Ext.refl _ | refine Ext.alloc ?_ _ _ | refine Ext.setNew ?_ _ _ (by simp; try omega) _)⟩
  · have hA := acc_prg 1 ka
    have hB := acc_prg 1 kb
    cases ha : accB 1 ka with
    | false =>
      rw [ha] at hA
      have HA := Lib.hid hA
      have H := Lib.hid (show biO 4 (ka, 0) (kb, 0) = (0, 7) by simp [biO, ha])
      clear hA hB ha ho
      go_enter Tryz.func154, Tryz.ntmps154
      go_wp2_with fail
      refine (HA.out _).mono ?_; rintro e w1 ⟨rfl, rfl⟩
      go_wp2_with fail
      exact bodyPost_ret (v := kv (0, 7)) (by simp [results, Tryz.results154, go_sem]) rfl ⟨ret_kv H.out.symm, by repeat (first | exact Ext.refl _ | refine Ext.alloc ?_ _ _ | refine Ext.setNew ?_ _ _ (by simp; try omega) _)⟩
    | true =>
      rw [ha] at hA
      have HA := Lib.hid hA
      cases hb : accB 1 kb with
      | false =>
        rw [hb] at hB
        have HB := Lib.hid hB
        have H := Lib.hid (show biO 4 (ka, 0) (kb, 0) = (0, 7) by simp [biO, ha, hb])
        clear hA hB ha hb ho
        go_enter Tryz.func154, Tryz.ntmps154
        go_wp2_with fail
        refine (HA.out _).mono ?_; rintro e w1 ⟨rfl, rfl⟩
        go_wp2_with fail
        refine (HB.out _).mono ?_; rintro e w1 ⟨rfl, rfl⟩
        go_wp2_with fail
        exact bodyPost_ret (v := kv (0, 7)) (by simp [results, Tryz.results154, go_sem]) rfl ⟨ret_kv H.out.symm, by repeat (first | exact Ext.refl _ | refine Ext.alloc ?_ _ _ | refine Ext.setNew ?_ _ _ (by simp; try omega) _)⟩
      | true =>
        rw [hb] at hB
        have HB := Lib.hid hB
        have H := Lib.hid (show biO 4 (ka, 0) (kb, 0) = (1, 0) by simp [biO, ha, hb])
        clear hA hB ha hb ho
        go_enter Tryz.func154, Tryz.ntmps154
        go_wp2_with fail
        refine (HA.out _).mono ?_; rintro e w1 ⟨rfl, rfl⟩
        go_wp2_with fail
        refine (HB.out _).mono ?_; rintro e w1 ⟨rfl, rfl⟩
        go_wp2_with fail
        exact bodyPost_ret (v := kv (1, 0)) (by simp [results, Tryz.results154, go_sem]) rfl ⟨ret_kv H.out.symm, by repeat (first | exact Ext.refl _ | refine Ext.alloc ?_ _ _ | refine Ext.setNew ?_ _ _ (by simp; try omega) _)⟩
  · have hA := acc_prg 1 ka
    have hB := acc_prg 1 kb
    cases ha : accB 1 ka with
    | false =>
      rw [ha] at hA
      have HA := Lib.hid hA
      have H := Lib.hid (show biO 5 (ka, 0) (kb, 0) = (0, 7) by simp [biO, ha])
      clear hA hB ha ho
      go_enter Tryz.func154, Tryz.ntmps154
      go_wp2_with fail
      refine (HA.out _).mono ?_; rintro e w1 ⟨rfl, rfl⟩
      go_wp2_with fail
      exact bodyPost_ret (v := kv (0, 7)) (by simp [results, Tryz.results154, go_sem]) rfl ⟨ret_kv H.out.symm, by repeat (first | exact Ext.refl _ | refine Ext.alloc ?_ _ _ | refine Ext.setNew ?_ _ _ (by simp; try omega) _)⟩
    | true =>
      rw [ha] at hA
      have HA := Lib.hid hA
      cases hb : accB 1 kb with
      | false =>
        rw [hb] at hB
        have HB := Lib.hid hB
        have H := Lib.hid (show biO 5 (ka, 0) (kb, 0) = (0, 7) by simp [biO, ha, hb])
        clear hA hB ha hb ho
        go_enter Tryz.func154, Tryz.ntmps154
        go_wp2_with fail
        refine (HA.out _).mono ?_; rintro e w1 ⟨rfl, rfl⟩
        go_wp2_with fail
        refine (HB.out _).mono ?_; rintro e w1 ⟨rfl, rfl⟩
        go_wp2_with fail
        exact bodyPost_ret (v := kv (0, 7)) (by simp [results, Tryz.results154, go_sem]) rfl ⟨ret_kv H.out.symm, by repeat (first | exact Ext.refl _ | refine Ext.alloc ?_ _ _ | refine Ext.setNew ?_ _ _ (by simp; try omega) _)⟩
      | true =>
        rw [hb] at hB
        have HB := Lib.hid hB
        have H := Lib.hid (show biO 5 (ka, 0) (kb, 0) = (1, 0) by simp [biO, ha, hb])
        clear hA hB ha hb ho
        go_enter Tryz.func154, Tryz.ntmps154
        go_wp2_with fail
        refine (HA.out _).mono ?_; rintro e w1 ⟨rfl, rfl⟩
        go_wp2_with fail
        refine (HB.out _).mono ?_; rintro e w1 ⟨rfl, rfl⟩
        go_wp2_with fail
        exact bodyPost_ret (v := kv (1, 0)) (by simp [results, Tryz.results154, go_sem]) rfl ⟨ret_kv H.out.symm, by repeat (first | exact Ext.refl _ | refine Ext.alloc ?_ _ _ | refine Ext.setNew ?_ _ _ (by simp; try omega) _)⟩
  · have hw := want_acc ka kb
    have hA := acc_prg (wantK ka kb) ka
    have hB := acc_prg (wantK ka kb) kb
    rw [hw.1] at hA
    rw [hw.2] at hB
    have hbi : biO 6 (ka, 0) (kb, 0) = if ka = kb ∨ ka = 0 ∨ kb = 0 then (3, 0) else (0, 7) := by simp [biO]
    clear hw
    by_cases hk : ka = 0
    · subst hk
      have hwk : wantK 0 kb = kb := by simp [wantK]
      rw [hwk] at hA hB
      rw [decide_eq_true (by simp)] at hB
      rw [if_pos (by simp)] at hbi
      have HA := Lib.hid hA
      have HB := Lib.hid hB
      have H := Lib.hid hbi
      clear hA hB hbi hwk ho
      go_enter Tryz.func154, Tryz.ntmps154
      go_wp2_with fail
      refine (HA.out _).mono ?_; rintro e w1 ⟨rfl, rfl⟩
      go_wp2_with fail
      refine (HB.out _).mono ?_; rintro e w1 ⟨rfl, rfl⟩
      go_wp2_with fail
      exact bodyPost_ret (v := kv (3, 0)) (by simp [results, Tryz.results154, go_sem]) rfl ⟨ret_kv H.out.symm, by repeat (first | exact Ext.refl _ | refine Ext.alloc ?_ _ _ | refine Ext.setNew ?_ _ _ (by simp; try omega) _)⟩
    · have hwk : wantK ka kb = ka := by simp [wantK, hk]
      rw [hwk] at hA hB
      by_cases hd : ka = kb ∨ ka = 0 ∨ kb = 0
      · rw [decide_eq_true hd] at hB
        rw [if_pos hd] at hbi
        have HA := Lib.hid hA
        have HB := Lib.hid hB
        have H := Lib.hid hbi
        clear hA hB hbi hwk hd ho
        go_enter Tryz.func154, Tryz.ntmps154
        go_wp2_with fail
        refine (HA.out _).mono ?_; rintro e w1 ⟨rfl, rfl⟩
        go_wp2_with fail
        refine (HB.out _).mono ?_; rintro e w1 ⟨rfl, rfl⟩
        go_wp2_with fail
        exact bodyPost_ret (v := kv (3, 0)) (by simp [results, Tryz.results154, go_sem]) rfl ⟨ret_kv H.out.symm, by repeat (first | exact Ext.refl _ | refine Ext.alloc ?_ _ _ | refine Ext.setNew ?_ _ _ (by simp; try omega) _)⟩
      · rw [decide_eq_false hd] at hB
        rw [if_neg hd] at hbi
        have HA := Lib.hid hA
        have HB := Lib.hid hB
        have H := Lib.hid hbi
        clear hA hB hbi hwk hd ho
        go_enter Tryz.func154, Tryz.ntmps154
        go_wp2_with fail
        refine (HA.out _).mono ?_; rintro e w1 ⟨rfl, rfl⟩
        go_wp2_with fail
        refine (HB.out _).mono ?_; rintro e w1 ⟨rfl, rfl⟩
        go_wp2_with fail
        exact bodyPost_ret (v := kv (0, 7)) (by simp [results, Tryz.results154, go_sem]) rfl ⟨ret_kv H.out.symm, by repeat (first | exact Ext.refl _ | refine Ext.alloc ?_ _ _ | refine Ext.setNew ?_ _ _ (by simp; try omega) _)⟩
  · have hw := want_acc ka kb
    have hA := acc_prg (wantK ka kb) ka
    have hB := acc_prg (wantK ka kb) kb
    rw [hw.1] at hA
    rw [hw.2] at hB
    have hbi : biO 7 (ka, 0) (kb, 0) = if ka = kb ∨ ka = 0 ∨ kb = 0 then (3, 0) else (0, 7) := by simp [biO]
    clear hw
    by_cases hk : ka = 0
    · subst hk
      have hwk : wantK 0 kb = kb := by simp [wantK]
      rw [hwk] at hA hB
      rw [decide_eq_true (by simp)] at hB
      rw [if_pos (by simp)] at hbi
      have HA := Lib.hid hA
      have HB := Lib.hid hB
      have H := Lib.hid hbi
      clear hA hB hbi hwk ho
      go_enter Tryz.func154, Tryz.ntmps154
      go_wp2_with fail
      refine (HA.out _).mono ?_; rintro e w1 ⟨rfl, rfl⟩
      go_wp2_with fail
      refine (HB.out _).mono ?_; rintro e w1 ⟨rfl, rfl⟩
      go_wp2_with fail
      exact bodyPost_ret (v := kv (3, 0)) (by simp [results, Tryz.results154, go_sem]) rfl ⟨ret_kv H.out.symm, by repeat (first | exact Ext.refl _ | refine Ext.alloc ?_ _ _ | refine Ext.setNew ?_ _ _ (by simp; try omega) _)⟩
    · have hwk : wantK ka kb = ka := by simp [wantK, hk]
      rw [hwk] at hA hB
      by_cases hd : ka = kb ∨ ka = 0 ∨ kb = 0
      · rw [decide_eq_true hd] at hB
        rw [if_pos hd] at hbi
        have HA := Lib.hid hA
        have HB := Lib.hid hB
        have H := Lib.hid hbi
        clear hA hB hbi hwk hd ho
        go_enter Tryz.func154, Tryz.ntmps154
        go_wp2_with fail
        refine (HA.out _).mono ?_; rintro e w1 ⟨rfl, rfl⟩
        go_wp2_with fail
        refine (HB.out _).mono ?_; rintro e w1 ⟨rfl, rfl⟩
        go_wp2_with fail
        exact bodyPost_ret (v := kv (3, 0)) (by simp [results, Tryz.results154, go_sem]) rfl ⟨ret_kv H.out.symm, by repeat (first | exact Ext.refl _ | refine Ext.alloc ?_ _ _ | refine Ext.setNew ?_ _ _ (by simp; try omega) _)⟩
      · rw [decide_eq_false hd] at hB
        rw [if_neg hd] at hbi
        have HA := Lib.hid hA
        have HB := Lib.hid hB
        have H := Lib.hid hbi
        clear hA hB hbi hwk hd ho
        go_enter Tryz.func154, Tryz.ntmps154
        go_wp2_with fail
        refine (HA.out _).mono ?_; rintro e w1 ⟨rfl, rfl⟩
        go_wp2_with fail
        refine (HB.out _).mono ?_; rintro e w1 ⟨rfl, rfl⟩
        go_wp2_with fail
        exact bodyPost_ret (v := kv (0, 7)) (by simp [results, Tryz.results154, go_sem]) rfl ⟨ret_kv H.out.symm, by repeat (first | exact Ext.refl _ | refine Ext.alloc ?_ _ _ | refine Ext.setNew ?_ _ _ (by simp; try omega) _)⟩
  · have hA := acc_prg 3 ka
    have hB := acc_prg 3 kb
    cases ha : accB 3 ka with
    | false =>
      rw [ha] at hA
      have HA := Lib.hid hA
      have H := Lib.hid (show biO 8 (ka, 0) (kb, 0) = (0, 7) by simp [biO, ha])
      clear hA hB ha ho
      go_enter Tryz.func154, Tryz.ntmps154
      go_wp2_with fail
      refine (HA.out _).mono ?_; rintro e w1 ⟨rfl, rfl⟩
      go_wp2_with fail
      exact bodyPost_ret (v := kv (0, 7)) (by simp [results, Tryz.results154, go_sem]) rfl ⟨ret_kv H.out.symm, by repeat (first | exact Ext.refl _ | refine Ext.alloc ?_ _ _ | refine Ext.setNew ?_ _ _ (by simp; try omega) _)⟩
    | true =>
      rw [ha] at hA
      have HA := Lib.hid hA
      cases hb : accB 3 kb with
      | false =>
        rw [hb] at hB
        have HB := Lib.hid hB
        have H := Lib.hid (show biO 8 (ka, 0) (kb, 0) = (0, 7) by simp [biO, ha, hb])
        clear hA hB ha hb ho
        go_enter Tryz.func154, Tryz.ntmps154
        go_wp2_with fail
        refine (HA.out _).mono ?_; rintro e w1 ⟨rfl, rfl⟩
        go_wp2_with fail
        refine (HB.out _).mono ?_; rintro e w1 ⟨rfl, rfl⟩
        go_wp2_with fail
        exact bodyPost_ret (v := kv (0, 7)) (by simp [results, Tryz.results154, go_sem]) rfl ⟨ret_kv H.out.symm, by repeat (first | exact Ext.refl _ | refine Ext.alloc ?_ _ _ | refine Ext.setNew ?_ _ _ (by simp; try omega) _)⟩
      | true =>
        rw [hb] at hB
        have HB := Lib.hid hB
        have H := Lib.hid (show biO 8 (ka, 0) (kb, 0) = (3, 0) by simp [biO, ha, hb])
        clear hA hB ha hb ho
        go_enter Tryz.func154, Tryz.ntmps154
        go_wp2_with fail
        refine (HA.out _).mono ?_; rintro e w1 ⟨rfl, rfl⟩
        go_wp2_with fail
        refine (HB.out _).mono ?_; rintro e w1 ⟨rfl, rfl⟩
        go_wp2_with fail
        exact bodyPost_ret (v := kv (3, 0)) (by simp [results, Tryz.results154, go_sem]) rfl ⟨ret_kv H.out.symm, by repeat (first | exact Ext.refl _ | refine Ext.alloc ?_ _ _ | refine Ext.setNew ?_ _ _ (by simp; try omega) _)⟩
  · have hA := acc_prg 3 ka
    have hB := acc_prg 3 kb
    cases ha : accB 3 ka with
    | false =>
      rw [ha] at hA
      have HA := Lib.hid hA
      have H := Lib.hid (show biO 9 (ka, 0) (kb, 0) = (0, 7) by simp [biO, ha])
      clear hA hB ha ho
      go_enter Tryz.func154, Tryz.ntmps154
      go_wp2_with fail
      refine (HA.out _).mono ?_; rintro e w1 ⟨rfl, rfl⟩
      go_wp2_with fail
      exact bodyPost_ret (v := kv (0, 7)) (by simp [results, Tryz.results154, go_sem]) rfl ⟨ret_kv H.out.symm, by repeat (first | exact Ext.refl _ | refine Ext.alloc ?_ _ _ | refine Ext.setNew ?_ _ _ (by simp; try omega) _)⟩
    | true =>
      rw [ha] at hA
      have HA := Lib.hid hA
      cases hb : accB 3 kb with
      | false =>
        rw [hb] at hB
        have HB := Lib.hid hB
        have H := Lib.hid (show biO 9 (ka, 0) (kb, 0) = (0, 7) by simp [biO, ha, hb])
        clear hA hB ha hb ho
        go_enter Tryz.func154, Tryz.ntmps154
        go_wp2_with fail
        refine (HA.out _).mono ?_; rintro e w1 ⟨rfl, rfl⟩
        go_wp2_with fail
        refine (HB.out _).mono ?_; rintro e w1 ⟨rfl, rfl⟩
        go_wp2_with fail
        exact bodyPost_ret (v := kv (0, 7)) (by simp [results, Tryz.results154, go_sem]) rfl ⟨ret_kv H.out.symm, by repeat (first | exact Ext.refl _ | refine Ext.alloc ?_ _ _ | refine Ext.setNew ?_ _ _ (by simp; try omega) _)⟩
      | true =>
        rw [hb] at hB
        have HB := Lib.hid hB
        have H := Lib.hid (show biO 9 (ka, 0) (kb, 0) = (3, 0) by simp [biO, ha, hb])
        clear hA hB ha hb ho
        go_enter Tryz.func154, Tryz.ntmps154
        go_wp2_with fail
        refine (HA.out _).mono ?_; rintro e w1 ⟨rfl, rfl⟩
        go_wp2_with fail
        refine (HB.out _).mono ?_; rintro e w1 ⟨rfl, rfl⟩
        go_wp2_with fail
        exact bodyPost_ret (v := kv (3, 0)) (by simp [results, Tryz.results154, go_sem]) rfl ⟨ret_kv H.out.symm, by repeat (first | exact Ext.refl _ | refine Ext.alloc ?_ _ _ | refine Ext.setNew ?_ _ _ (by simp; try omega) _)⟩
end Go.Proofs.YtbplapkcleipiaaGreatDoor
