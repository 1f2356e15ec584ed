/- The program's Multiplicity. -/
import Derived.Test.YtbplapkcleipiaaGreatDoorZz26
import Derived.Test.YtbplapkcleipiaaGreatDoorZz43
import Derived.Test.YtbplapkcleipiaaGreatDoorZy5
namespace Go.Proofs.YtbplapkcleipiaaGreatDoor
open Go.ChangeShapes Go.WideShapes Go.ChangeAt Go.RowKit

theorem cnt_step (l : List R) (k : Nat) (h : k < l.length) (v : List V) : cnt (l.take (k + 1)) v = cnt (l.take k) v + (if l[k].v = v then 1 else 0) := by
  rw [List.take_succ_eq_append_getElem h, cnt_app, cnt_cons]; simp [cnt]
def MuR (w : World) (l : List R) (v : List V) (c i : Value) (wr : World) : Prop := ∃ k : Nat, k ≤ l.length ∧ i = .int .i64 k ∧ c = .int .i64 (cnt (l.take k) v : Nat) ∧ Ext w wr
set_option maxHeartbeats 4000000 in
set_option maxRecDepth 100000 in
theorem mult_prg (ps : List P) (vl : List V) (v vv : Value) (w : World) (ha : RdG w v ps) (ia : RdAll w ps) (hv : RdG w vv vl) :
    Calls Tryz.prog 19 #[v, vv] w fun e w' => e = .returned (.int .i64 (cnt (rows ps) vl : Nat)) ∧ Ext w w' := by
  obtain ⟨ad, cap, rfl, h1, h2⟩ := ha.shape
  obtain ⟨bd, bcap, rfl, i1, i2⟩ := hv.shape
  have HA := Lib.hid ha
  have IA := Lib.hid ia
  have HB := Lib.hid hv
  clear ha ia hv
  obtain ⟨n, hn⟩ : ∃ n, n = ps.length := ⟨_, rfl⟩
  obtain ⟨m, hm⟩ : ∃ m, m = vl.length := ⟨_, rfl⟩
  have HN := Lib.hid hn
  rw [← hn] at h1 HA ⊢
  rw [← hm] at i1 HB ⊢
  clear hn hm
  unfold maxLen at h2 i2
  go_enter Tryz.func19, Tryz.ntmps19
  go_wp2_with fail
  go_loopw [5, 10] (MuR w (rows ps) vl) (fun _ i _ => n - (intOf i).toNat)
  case atStart => exact ⟨0, Nat.zero_le _, rfl, by simp [cnt], Ext.refl _⟩
  case round =>
    obtain ⟨k, hk, rfl, rfl, hE⟩ := hrel
    rw [rows_len] at hk
    have hkn : k ≤ n := by rw [HN.out]; exact hk
    have hcb : cnt ((rows ps).take k) vl ≤ k := Nat.le_trans (cnt_le _ _) (by rw [List.length_take]; exact Nat.min_le_left _ _)
    by_cases hlt : k < n
    · have hlt' : k < ps.length := by rw [← HN.out]; exact hlt
      have hst := cnt_step (rows ps) k (by rw [rows_len]; exact hlt') vl
      rw [rows_at ps k hlt'] at hst
      obtain ⟨g, o, rfl, c0', c1'⟩ := rd_P HA.out k hlt'
      have c0 := hE.keeps c0'
      have c1 := hE.keeps c1'
      have hix := IA.out ps[k] (List.getElem_mem _)
      clear c0' c1'
      generalize ps[k] = x at *
      obtain ⟨⟨xa, xn, xc, xb, xm, xd⟩, xr⟩ := x
      simp only [Hd.x, Hd.y] at c0 c1 hst
      have hcv := fun w2 (hg : Ext w w2) => crows_gw xr.v vl _ _ w2 (hix.1.ext hg) (HB.out.ext hg)
      clear hix
      simp only [Hd.x] at hcv
      by_cases hz : xr.v = vl
      · rw [if_pos hz] at hst
        have HST := Lib.hid hst
        have hc0 : cmpR xr.v vl = 0 := (cr_ord.zero _ _).2 hz
        rw [hc0] at hcv
        have HV := Lib.hid hcv
        clear hst hcv hz hc0
        generalize cnt ((rows ps).take k) vl = c at *
        go_wp2_with fail
        refine (HV.out _ (hE.alloc _ _)).mono ?_; rintro e w1 ⟨rfl, hg⟩
        go_wp2_with fail
        go_roundw
        case rel => exact ⟨k + 1, by rw [rows_len]; exact hlt', by go_num, by rw [HST.out]; go_num, (hE.alloc _ _).trans hg.ext⟩
        case measure => simp [intOf]; omega
      · rw [if_neg hz] at hst
        have HST := Lib.hid hst
        have hz0 : ¬ cmpR xr.v vl = 0 := fun e => hz ((cr_ord.zero _ _).1 e)
        have hz1 : (cmpR xr.v vl == 0) = false := by simpa using hz0
        have HV := Lib.hid hcv
        clear hst hcv hz
        generalize cnt ((rows ps).take k) vl = c at *
        go_wp2_with fail
        refine (HV.out _ (hE.alloc _ _)).mono ?_; rintro e w1 ⟨rfl, hg⟩
        go_wp2_with fail
        go_roundw
        case rel => exact ⟨k + 1, by rw [rows_len]; exact hlt', by go_num, by rw [HST.out]; rfl, (hE.alloc _ _).trans hg.ext⟩
        case measure => simp [intOf]; omega
    · have hall : (rows ps).take k = rows ps := by rw [List.take_of_length_le]; rw [rows_len, ← HN.out]; omega
      have HC := Lib.hid (show (cnt ((rows ps).take k) vl : Int) = (cnt (rows ps) vl : Int) by rw [hall])
      clear hall
      generalize cnt ((rows ps).take k) vl = c at hcb HC ⊢
      go_wp2_with fail
      go_ret
      exact ⟨ret_int HC.out, hE⟩
end Go.Proofs.YtbplapkcleipiaaGreatDoor
/- Rows of the laws are small; what Eval hands back, sorted. -/
namespace Go.Proofs.YtbplapkcleipiaaGreatDoor
open Go.ChangeShapes Go.WideShapes Go.ChangeAt Go.RowKit

def Z5 : List Int := [1, 2, 3, 4, 5]
theorem gd_rows {ps : List P} (h : ∀ p ∈ ps, p.r.v.length = 2 ∧ p.r.t.length = 1 ∧ GdR p.r) : RowsB 10 Z5 6 (rows ps) := fun r hr => by
  obtain ⟨p, hp, rfl⟩ := List.mem_map.1 hr
  obtain ⟨a, b, c, d⟩ := h p hp
  refine ⟨by omega, fun v hv => sm_good (by omega) (c v hv), .inl (by omega), fun x hx => ?_⟩
  have := d x hx
  simp only [Z5, List.mem_cons, List.not_mem_nil, or_false]
  omega
/-- these rows, sorted, are handed back -/
def SoP (z : List R) (w : World) (e : Ending) (w' : World) : Prop := ∃ ad cp ds, e = .returned (.tuple #[.slice ad (List.length ds) cp, .int .i64 0]) ∧ RdG w' (.slice ad (List.length ds) cp) (ds : List P) ∧ RdAll w' ds ∧ rows ds = sortR z ∧ Ext w w'
theorem ev_so {w w' : World} {c : List R × Int} {e : Ending} {z : List R} (h : EvP w c e w') (hc : c = (sortR z, 0)) : SoP z w e w' := by
  subst hc
  obtain ⟨v, qs, rfl, h1, h2, h3, h4⟩ := h
  obtain ⟨ad, cp, rfl, _, _⟩ := h1.shape
  exact ⟨ad, cp, qs, rfl, h1, h2, h3, h4⟩
end Go.Proofs.YtbplapkcleipiaaGreatDoor
