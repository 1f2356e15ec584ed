/- reachable, of the program. -/
import Derived.Test.YtbplapkcleipiaaGreatDoorZz11
import Derived.Test.YtbplapkcleipiaaGreatDoorZz21
import Derived.Test.YtbplapkcleipiaaGreatDoorZz22
namespace Go.Proofs.YtbplapkcleipiaaGreatDoor
open Go.ChangeShapes Go.WideShapes Go.ChangeAt Go.RowKit

theorem Arr.put1 {e : TypeId} {W w : World} {g : Nat} {l : List Bool} (h : Arr e W w g l) (i : Nat) (b : Bool) (hi : i < l.length) : Arr e W (w.setCell ⟨g, i, none⟩ (.bool b)) g (l.set i b) := by
  have h1 := (h.put i b hi).1
  have e1 : putAll w g (i * Enc.sz Bool) (Enc.cells b) = w.setCell ⟨g, i * 1, none⟩ (.bool b) := rfl
  rw [e1, Nat.mul_one] at h1
  exact h1
theorem Arr.cellB {e : TypeId} {W w : World} {g : Nat} {l : List Bool} (h : Arr e W w g l) (i : Nat) (hi : i < l.length) : w.cell? ⟨g, i, none⟩ = some (.bool (l.getD i false)) := by
  have := h.cell i 0 _ hi rfl
  rw [getD_at l false i hi]
  simpa [Enc.sz] using this
theorem rst_no (l : List X) (i : Nat) (u : List Bool) (h : u.getD i false = false) : rst l i u = u := by unfold rst; rw [if_neg (by rw [h]; decide)]
theorem rst_ff (l : List X) (i : Nat) (u : List Bool) (hA : lgA (l.getD i nulX) i = false) (hB : lgB (l.getD i nulX) i = false) : rst l i u = u := by
  unfold rst; split
  · rw [if_neg (by rw [hB]; decide), if_neg (by rw [hA]; decide)]
  · rfl
theorem rst_tf (l : List X) (i : Nat) (u : List Bool) (h : u.getD i false = true) (hA : lgA (l.getD i nulX) i = true) (hB : lgB (l.getD i nulX) i = false) : rst l i u = u.set (l.getD i nulX).a.toNat true := by
  unfold rst; rw [if_pos h, if_neg (by rw [hB]; decide), if_pos hA]
theorem rst_ft (l : List X) (i : Nat) (u : List Bool) (h : u.getD i false = true) (hA : lgA (l.getD i nulX) i = false) (hB : lgB (l.getD i nulX) i = true) : rst l i u = u.set (l.getD i nulX).b.toNat true := by
  unfold rst; rw [if_pos h, if_pos hB, if_neg (by rw [hA]; decide)]
theorem rst_tt (l : List X) (i : Nat) (u : List Bool) (h : u.getD i false = true) (hA : lgA (l.getD i nulX) i = true) (hB : lgB (l.getD i nulX) i = true) : rst l i u = (u.set (l.getD i nulX).a.toNat true).set (l.getD i nulX).b.toNat true := by
  unfold rst; rw [if_pos h, if_pos hB, if_pos hA]
def ReR (w : World) (l : List X) (r : Nat) (i : Value) (wr : World) : Prop := ∃ (k : Nat) (u : List Bool) (z : Int), k ≤ r + 1 ∧ i = .int .i64 z ∧ z = (k : Int) - 1 ∧ u.length = r + 1 ∧ Arr tB.e w wr w.heap.size u ∧ rdn l k u = rea l r
def ReP (w : World) (l : List X) (r : Nat) (e : Ending) (w' : World) : Prop := e = .returned (.slice (some ⟨w.heap.size, 0, none⟩) (r + 1) (r + 1)) ∧ Arr tB.e w w' w.heap.size (rea l r)
set_option maxHeartbeats 4000000 in
set_option maxRecDepth 100000 in
theorem rea_prg (l : List X) (r : Nat) (vl : Value) (w : World) (hl : RdG w vl l) (hr : r < l.length) (hs : l.length ≤ 1000) :
    Calls Tryz.prog 142 #[vl, .int .i64 r] w (ReP w l r) := by
  obtain ⟨al, cl, rfl, ll1, ll2⟩ := hl.shape
  have HL := Lib.hid hl
  clear hl
  unfold maxLen at ll2
  obtain ⟨n, hn⟩ : ∃ n, n = l.length := ⟨_, rfl⟩
  have HN := Lib.hid hn
  rw [← hn] at HL ll1 hr hs ⊢
  clear hn
  have hZ : (0 : Int) ≤ (r : Int) := by omega
  have hZ1 : (r : Int) < ((r + 1 : Nat) : Int) := by omega
  have hZ2 : (r : Int) < (r : Int) + 1 := by omega
  go_enter Tryz.func142, Tryz.ntmps142
  go_wp2_with (at_make; refine makeG tB rfl _ _ rfl w (Ext.refl _) ((r : Int) + 1) ((r : Int) + 1) (r + 1) rfl rfl (by omega) (by omega) (by omega) ?_; intro w1 hA hE1; have hF := hA.frozen r; have hc0 := hA.cellB r (by simp); have hB := hA.lo.2)
  have hA1 := hA.put1 r true (by simp)
  have HA1 := Lib.hid hA1
  clear hA1 hA
  clear hc0 hF
  go_loopw [6] (ReR w l r) (fun i _ => (intOf i + 1).toNat)
  case atStart => exact ⟨r + 1, _, r, Nat.le_refl _, rfl, by omega, by simp, HA1.out, rfl⟩
  case round =>
    obtain ⟨k, u, z, hk, rfl, hz, hu, hAr, hrd⟩ := hrel
    have HRD := Lib.hid hrd
    have HU := Lib.hid hu
    clear hrd hu
    cases k with
    | zero =>
      obtain rfl : z = -1 := by omega
      clear hz
      have hrd : u = rea l r := HRD.out
      rw [hrd] at hAr
      clear HRD
      go_wp2_with fail
      go_ret
      exact ⟨rfl, hAr⟩
    | succ j =>
      obtain rfl : z = (j : Int) := by omega
      clear hz
      have hj0 : (0 : Int) ≤ (j : Int) := by omega
      have hj1 : (j : Int) < (r : Int) + 1 := by omega
      have hj2 : (j : Int) < ((r + 1 : Nat) : Int) := by omega
      have hj3 : (j : Int) < (n : Int) := by omega
      have hjl : j < l.length := by rw [← HN.out]; omega
      have hju : j < u.length := by rw [HU.out]; omega
      have hcj := hAr.cellB j hju
      have hdec : ((j : Int) - 1) = ((j : Nat) : Int) - 1 := rfl
      cases hb : u.getD j false with
      | false =>
        rw [hb] at hcj
        have hrs := Lib.hid (rst_no l j u hb)
        clear hb hdec
        go_wp2_with fail
        go_roundw
        case rel => exact ⟨j, u, _, by omega, rfl, by go_num, HU.out, hAr, by have := HRD.out; rw [rdn, hrs.out] at this; exact this⟩
        case measure => simp [intOf]; try omega
      | true =>
        rw [hb] at hcj
        have HB := Lib.hid hb
        clear hb hdec
        obtain ⟨g, o, rfl, c0, c1, c2, c3, c4, c5, c6⟩ := rd_X HL.out j hjl
        have hgl : g < w.heap.size := World.block_lt_of_cell? _ _ c0
        have hne : w.heap.size ≠ g := by omega
        have hx := getD_at l nulX j hjl
        have HX := Lib.hid hx
        clear hx
        generalize l[j] = x at *
        obtain ⟨xop, xa, xb, xc, ⟨xk, xn, xs⟩⟩ := x
        simp only at c0 c1 c2 c3 c4 c5 c6
        have hPA := lgA_prg ⟨xop, xa, xb, xc, ⟨xk, xn, xs⟩⟩ j
        have hPB := lgB_prg ⟨xop, xa, xb, xc, ⟨xk, xn, xs⟩⟩ j
        have C0 := hAr.2.keeps c0
        have C1 := hAr.2.keeps c1
        have C2 := hAr.2.keeps c2
        have C3 := hAr.2.keeps c3
        have C4 := hAr.2.keeps c4
        have C5 := hAr.2.keeps c5
        have C6 := hAr.2.keeps c6
        cases hA : lgA ⟨xop, xa, xb, xc, ⟨xk, xn, xs⟩⟩ j with
        | false =>
          cases hB : lgB ⟨xop, xa, xb, xc, ⟨xk, xn, xs⟩⟩ j with
          | false =>
            rw [hA] at hPA
            rw [hB] at hPB
            have HRS := Lib.hid (rst_ff l j u (by rw [HX.out]; exact hA) (by rw [HX.out]; exact hB))
            try rw [HX.out] at HRS
            have HPA := Lib.hid hPA
            have HPB := Lib.hid hPB
            clear hPA hPB hA hB
            go_wp2_with fail
            refine (HPA.out _).mono ?_; rintro e w2 ⟨rfl, hg2⟩
            have hA2 := hAr.ext (ext_of_grown hg2)
            have D0 := hA2.2.keeps c0
            have D1 := hA2.2.keeps c1
            have D2 := hA2.2.keeps c2
            have D3 := hA2.2.keeps c3
            have D4 := hA2.2.keeps c4
            have D5 := hA2.2.keeps c5
            have D6 := hA2.2.keeps c6
            have hf2 := hA2.frozen
            have hs2 : w.heap.size < w2.heap.size := hA2.lo.2
            have hs2' : g < w2.heap.size := by omega
            clear C0 C1 C2 C3 C4 C5 C6 hcj hg2
            go_wp2_with fail
            refine (HPB.out _).mono ?_; rintro e w4 ⟨rfl, hg4⟩
            have hA4 := hA2.ext (ext_of_grown hg4)
            clear D0 D1 D2 D3 D4 D5 D6 hg4 hA2 hf2
            go_wp2_with fail
            go_roundw
            case rel => exact ⟨j, _, _, by omega, rfl, by go_num, (by simp [HU.out]), hA4, by have := HRD.out; rw [rdn, HRS.out] at this; exact this⟩
            case measure => simp [intOf]; try omega
          | true =>
            rw [hA] at hPA
            rw [hB] at hPB
            have HRS := Lib.hid (rst_ft l j u HB.out (by rw [HX.out]; exact hA) (by rw [HX.out]; exact hB))
            try rw [HX.out] at HRS
            obtain ⟨hb0, hb1⟩ := lgB_lt hB
            have HPA := Lib.hid hPA
            have HPB := Lib.hid hPB
            clear hPA hPB hA hB
            simp only at hb0 hb1
            obtain ⟨b, rfl⟩ := nat_of hb0
            have hb3 : b < r + 1 := by omega
            have hb4 : (b : Int) < ((r + 1 : Nat) : Int) := by omega
            have hb5 : (b : Int) < (r : Int) + 1 := by omega
            clear hb1
            go_wp2_with fail
            refine (HPA.out _).mono ?_; rintro e w2 ⟨rfl, hg2⟩
            have hA2 := hAr.ext (ext_of_grown hg2)
            have D0 := hA2.2.keeps c0
            have D1 := hA2.2.keeps c1
            have D2 := hA2.2.keeps c2
            have D3 := hA2.2.keeps c3
            have D4 := hA2.2.keeps c4
            have D5 := hA2.2.keeps c5
            have D6 := hA2.2.keeps c6
            have hf2 := hA2.frozen
            have hs2 : w.heap.size < w2.heap.size := hA2.lo.2
            have hs2' : g < w2.heap.size := by omega
            clear C0 C1 C2 C3 C4 C5 C6 hcj hg2
            go_wp2_with fail
            refine (HPB.out _).mono ?_; rintro e w4 ⟨rfl, hg4⟩
            have hA4 := hA2.ext (ext_of_grown hg4)
            clear D0 D1 D2 D3 D4 D5 D6 hg4 hA2 hf2
            have G0 := hA4.2.keeps c0
            have G1 := hA4.2.keeps c1
            have G2 := hA4.2.keeps c2
            have G3 := hA4.2.keeps c3
            have G4 := hA4.2.keeps c4
            have G5 := hA4.2.keeps c5
            have G6 := hA4.2.keeps c6
            have hf4 := hA4.frozen
            have hs4 : w.heap.size < w4.heap.size := hA4.lo.2
            have hs4' : g < w4.heap.size := by omega
            have hA5 := hA4.put1 b true (by rw [HU.out]; exact hb3)
            have hcb := hA4.cellB b (by rw [HU.out]; exact hb3)
            have HA5 := Lib.hid hA5
            clear hA5
            try go_wp2_with fail
            go_roundw
            case rel => exact ⟨j, _, _, by omega, rfl, by go_num, (by simp [HU.out]), HA5.out, by have := HRD.out; rw [rdn, HRS.out] at this; exact this⟩
            case measure => simp [intOf]; try omega
        | true =>
          cases hB : lgB ⟨xop, xa, xb, xc, ⟨xk, xn, xs⟩⟩ j with
          | false =>
            rw [hA] at hPA
            rw [hB] at hPB
            have HRS := Lib.hid (rst_tf l j u HB.out (by rw [HX.out]; exact hA) (by rw [HX.out]; exact hB))
            try rw [HX.out] at HRS
            obtain ⟨ha0, ha1⟩ := lgA_lt hA
            have HPA := Lib.hid hPA
            have HPB := Lib.hid hPB
            clear hPA hPB hA hB
            simp only at ha0 ha1
            obtain ⟨a, rfl⟩ := nat_of ha0
            have ha3 : a < r + 1 := by omega
            have ha4 : (a : Int) < ((r + 1 : Nat) : Int) := by omega
            have ha5 : (a : Int) < (r : Int) + 1 := by omega
            clear ha1
            go_wp2_with fail
            refine (HPA.out _).mono ?_; rintro e w2 ⟨rfl, hg2⟩
            have hA2 := hAr.ext (ext_of_grown hg2)
            have D0 := hA2.2.keeps c0
            have D1 := hA2.2.keeps c1
            have D2 := hA2.2.keeps c2
            have D3 := hA2.2.keeps c3
            have D4 := hA2.2.keeps c4
            have D5 := hA2.2.keeps c5
            have D6 := hA2.2.keeps c6
            have hf2 := hA2.frozen
            have hs2 : w.heap.size < w2.heap.size := hA2.lo.2
            have hs2' : g < w2.heap.size := by omega
            have hA3 := hA2.put1 a true (by rw [HU.out]; exact ha3)
            have hca := hA2.cellB a (by rw [HU.out]; exact ha3)
            have F0 := hA3.2.keeps c0
            have F1 := hA3.2.keeps c1
            have F2 := hA3.2.keeps c2
            have F3 := hA3.2.keeps c3
            have F4 := hA3.2.keeps c4
            have F5 := hA3.2.keeps c5
            have F6 := hA3.2.keeps c6
            have HA3 := Lib.hid hA3
            clear hA3
            clear C0 C1 C2 C3 C4 C5 C6 hcj hg2
            try go_wp2_with fail
            refine (HPB.out _).mono ?_; rintro e w4 ⟨rfl, hg4⟩
            have hA4 := HA3.out.ext (ext_of_grown hg4)
            clear D0 D1 D2 D3 D4 D5 D6 F0 F1 F2 F3 F4 F5 F6 hg4 hA2 hf2 hca
            go_wp2_with fail
            go_roundw
            case rel => exact ⟨j, _, _, by omega, rfl, by go_num, (by simp [HU.out]), hA4, by have := HRD.out; rw [rdn, HRS.out] at this; exact this⟩
            case measure => simp [intOf]; try omega
          | true =>
            rw [hA] at hPA
            rw [hB] at hPB
            have HRS := Lib.hid (rst_tt l j u HB.out (by rw [HX.out]; exact hA) (by rw [HX.out]; exact hB))
            try rw [HX.out] at HRS
            obtain ⟨ha0, ha1⟩ := lgA_lt hA
            obtain ⟨hb0, hb1⟩ := lgB_lt hB
            have HPA := Lib.hid hPA
            have HPB := Lib.hid hPB
            clear hPA hPB hA hB
            simp only at ha0 ha1
            obtain ⟨a, rfl⟩ := nat_of ha0
            have ha3 : a < r + 1 := by omega
            have ha4 : (a : Int) < ((r + 1 : Nat) : Int) := by omega
            have ha5 : (a : Int) < (r : Int) + 1 := by omega
            clear ha1
            simp only at hb0 hb1
            obtain ⟨b, rfl⟩ := nat_of hb0
            have hb3 : b < r + 1 := by omega
            have hb4 : (b : Int) < ((r + 1 : Nat) : Int) := by omega
            have hb5 : (b : Int) < (r : Int) + 1 := by omega
            clear hb1
            go_wp2_with fail
            refine (HPA.out _).mono ?_; rintro e w2 ⟨rfl, hg2⟩
            have hA2 := hAr.ext (ext_of_grown hg2)
            have D0 := hA2.2.keeps c0
            have D1 := hA2.2.keeps c1
            have D2 := hA2.2.keeps c2
            have D3 := hA2.2.keeps c3
            have D4 := hA2.2.keeps c4
            have D5 := hA2.2.keeps c5
            have D6 := hA2.2.keeps c6
            have hf2 := hA2.frozen
            have hs2 : w.heap.size < w2.heap.size := hA2.lo.2
            have hs2' : g < w2.heap.size := by omega
            have hA3 := hA2.put1 a true (by rw [HU.out]; exact ha3)
            have hca := hA2.cellB a (by rw [HU.out]; exact ha3)
            have F0 := hA3.2.keeps c0
            have F1 := hA3.2.keeps c1
            have F2 := hA3.2.keeps c2
            have F3 := hA3.2.keeps c3
            have F4 := hA3.2.keeps c4
            have F5 := hA3.2.keeps c5
            have F6 := hA3.2.keeps c6
            have HA3 := Lib.hid hA3
            clear hA3
            clear C0 C1 C2 C3 C4 C5 C6 hcj hg2
            try go_wp2_with fail
            refine (HPB.out _).mono ?_; rintro e w4 ⟨rfl, hg4⟩
            have hA4 := HA3.out.ext (ext_of_grown hg4)
            clear D0 D1 D2 D3 D4 D5 D6 F0 F1 F2 F3 F4 F5 F6 hg4 hA2 hf2 hca
            have G0 := hA4.2.keeps c0
            have G1 := hA4.2.keeps c1
            have G2 := hA4.2.keeps c2
            have G3 := hA4.2.keeps c3
            have G4 := hA4.2.keeps c4
            have G5 := hA4.2.keeps c5
            have G6 := hA4.2.keeps c6
            have hf4 := hA4.frozen
            have hs4 : w.heap.size < w4.heap.size := hA4.lo.2
            have hs4' : g < w4.heap.size := by omega
            have hA5 := hA4.put1 b true (by rw [List.length_set, HU.out]; exact hb3)
            have hcb := hA4.cellB b (by rw [List.length_set, HU.out]; exact hb3)
            have HA5 := Lib.hid hA5
            clear hA5
            try go_wp2_with fail
            go_roundw
            case rel => exact ⟨j, _, _, by omega, rfl, by go_num, (by simp [HU.out]), HA5.out, by have := HRD.out; rw [rdn, HRS.out] at this; exact this⟩
            case measure => simp [intOf]; try omega
end Go.Proofs.YtbplapkcleipiaaGreatDoor
/- evalOne and Eval, of the program. -/
namespace Go.Proofs.YtbplapkcleipiaaGreatDoor
open Go.ChangeShapes Go.WideShapes Go.ChangeAt Go.RowKit

theorem evo_prg (x : X) (pre row : List V) (vp vr : Value) (w : World) (hp : RdG w vp pre) (hr : RdG w vr row) (hop : ∀ v ∈ pre, okN v.n) : Calls Tryz.prog 143 #[xv x, vp, vr] w fun e w' => e = .returned (vv (evO x pre row)) ∧ Ext w w' := by
  cases hb : lgl x pre.length with
  | false => exact evo_no x pre row vp vr w hp hr hop hb
  | true =>
    by_cases h1 : x.op = 1
    · exact evo_1 x pre row vp vr w hp hr hop hb h1
    by_cases h2 : x.op = 2
    · exact evo_2 x pre row vp vr w hp hr hop hb h1 h2
    by_cases h10 : x.op = 10
    · exact evo_10 x pre row vp vr w hp hr hop hb h1 h2 h10
    by_cases h11 : x.op = 11
    · exact evo_11 x pre row vp vr w hp hr hop hb h1 h2 h10 h11
    by_cases h35 : 3 ≤ x.op ∧ x.op ≤ 5
    · exact evo_35 x pre row vp vr w hp hr hop hb h1 h2 h10 h11 h35
    by_cases h69 : 6 ≤ x.op ∧ x.op ≤ 9
    · exact evo_69 x pre row vp vr w hp hr hop hb h1 h2 h10 h11 h35 h69
    exact evo_else x pre row vp vr w hp hr hop hb h1 h2 h10 h11 h35 h69

theorem okN_nul : okN nul.n := (⟨by decide, by decide⟩ : okN 0)
theorem okR_at {row : List V} (h : OkR row) (i : Nat) : okN (row.getD i nul).n := by
  by_cases hi : i < row.length
  · rw [getD_at row nul i hi]; exact h _ (List.getElem_mem _)
  · rw [show row.getD i nul = nul by simp [List.getD, List.getElem?_eq_none (Nat.le_of_not_lt hi)]]; exact okN_nul
theorem calV_ok (op : Int) (a b : V) : okN (calV op a b).n := by
  unfold calV; split
  · unfold numV; split
    · rename_i h; unfold fitB at h; simp only [decide_eq_true_eq] at h; exact h
    · exact okN_nul
  · exact okN_nul
theorem evO_ok (x : X) (pre row : List V) (hx : okN x.c.n) (hr : OkR row) : okN (evO x pre row).n := by
  have hb : ∀ b, okN (booV b).n := fun b => by unfold okN booV; cases b <;> simp
  unfold evO
  repeat' split
  all_goals (first | exact okN_nul | exact hx | exact hb _ | exact (show okN (row.getD x.col.toNat nul).n from okR_at hr _) | exact calV_ok _ _ _)
theorem evs_ok (row : List V) (hr : OkR row) (l : List X) (hx : OkX l) : OkR (evs row l) := by
  intro v hv
  obtain ⟨i, hi, rfl⟩ := List.getElem_of_mem hv
  have hl : i < l.length := by rw [evs_len] at hi; exact hi
  rw [← getD_at (evs row l) nul i hi, evs_get row l i hl]
  exact evO_ok _ _ _ (hx _ (List.getElem_mem _)) hr
theorem pvs_ok (row : List V) (hr : OkR row) (l : List X) (hx : OkX l) (R : List Bool) (n k : Nat) : OkR (pvs row l R n k) := by
  intro v hv
  unfold pvs at hv
  obtain ⟨j, _, rfl⟩ := List.mem_map.1 hv
  split
  · exact okR_at (evs_ok row hr l hx) j
  · exact okN_nul
theorem okR_take {row : List V} (h : OkR row) (k : Nat) : OkR (row.take k) := fun v hv => h v (List.mem_of_mem_take hv)

theorem Arr.put3 {e : TypeId} {W w : World} {g : Nat} {l : List V} (h : Arr e W w g l) (i : Nat) (p q : Int) (t : List UInt8) (hi : i < l.length) : Arr e W (((w.setCell ⟨g, i * 3, none⟩ (.int .i64 p)).setCell ⟨g, i * 3 + 1, none⟩ (.int .i64 q)).setCell ⟨g, i * 3 + 2, none⟩ (sv t)) g (l.set i ⟨p, q, t⟩) := (h.put i ⟨p, q, t⟩ hi).1
theorem Arr.c3 {e : TypeId} {W w : World} {g : Nat} {l : List V} (h : Arr e W w g l) (i : Nat) (v : V) (hi : i < l.length) (hv : l.getD i nul = v) : w.cell? ⟨g, i * 3, none⟩ = some (.int .i64 v.k) ∧ w.cell? ⟨g, i * 3 + 1, none⟩ = some (.int .i64 v.n) ∧ w.cell? ⟨g, i * 3 + 2, none⟩ = some (sv v.s) := by
  rw [getD_at l nul i hi] at hv
  subst hv
  exact ⟨h.cell i 0 _ hi rfl, h.cell i 1 _ hi rfl, h.cell i 2 _ hi rfl⟩
theorem pvs_here (row : List V) (l : List X) (R : List Bool) (n k : Nat) (hk : k < n) : (pvs row l R n k).getD k nul = nul := by rw [pvs_at _ _ _ _ _ _ hk, if_neg (by omega)]
def EvR (W : World) (l : List X) (row : List V) (r : Nat) (i : Value) (wr : World) : Prop := ∃ k : Nat, k ≤ r + 1 ∧ i = .int .i64 k ∧ Arr tV.e W wr W.heap.size (pvs row l (rea l r) (r + 1) k)
theorem box3 (w : World) (a b c : Value) (t : TypeId) : (w.alloc (.cells #[a, b, c] t)).cell? ⟨w.heap.size, 0, none⟩ = some a ∧ (w.alloc (.cells #[a, b, c] t)).cell? ⟨w.heap.size, 1, none⟩ = some b ∧ (w.alloc (.cells #[a, b, c] t)).cell? ⟨w.heap.size, 2, none⟩ = some c :=
  ⟨al_c w #[a, b, c] t 0 a rfl, al_c w #[a, b, c] t 1 b rfl, al_c w #[a, b, c] t 2 c rfl⟩
set_option maxHeartbeats 4000000 in
set_option maxRecDepth 100000 in
theorem eval_no (l : List X) (root : Int) (row : List V) (vl vr : Value) (w : World) (hl : RdG w vl l) (hb : isIx root l.length = false) :
    Calls Tryz.prog 128 #[vl, .int .i64 root, vr] w fun e w' => e = .returned (vv (evlV l root row)) ∧ Ext w w' := by
  obtain ⟨al, cl, rfl, ll1, ll2⟩ := hl.shape
  have H := Lib.hid (show evlV l root row = nul by unfold evlV; rw [if_pos hb])
  have hI := isx_prg root l.length
  rw [hb] at hI
  have HI := Lib.hid hI
  clear hI hb hl ll1 ll2
  go_enter Tryz.func128, Tryz.ntmps128
  obtain ⟨k0, k1, k2⟩ := box3 w (.int .i64 0) (.int .i64 0) (sv []) 58
  go_wp2_with fail
  refine (HI.out _).mono ?_; rintro e w1 ⟨rfl, rfl⟩
  go_wp2_with fail
  rw [show (evlV l root row) = nul from H.out]
  exact bodyPost_ret (v := vv nul) (by simp [results, Tryz.results128, go_sem, k0, k1, k2, vv, nul]) rfl ⟨rfl, by repeat (first | exact Ext.refl _ | refine Ext.alloc ?_ _ _ | refine Ext.setNew ?_ _ _ (by simp; try omega) _)⟩
end Go.Proofs.YtbplapkcleipiaaGreatDoor
/- Eval, of the program. -/
namespace Go.Proofs.YtbplapkcleipiaaGreatDoor
open Go.ChangeShapes Go.WideShapes Go.ChangeAt Go.RowKit

set_option maxHeartbeats 8000000 in
set_option maxRecDepth 100000 in
theorem eval_yes (l : List X) (r : Nat) (row : List V) (vl vr : Value) (w : World) (hl : RdG w vl l) (hrow : RdG w vr row) (hr : r < l.length) (hs : l.length ≤ 1000) (hx : OkX l) (ho : OkR row) :
    Calls Tryz.prog 128 #[vl, .int .i64 r, vr] w fun e w' => e = .returned (vv ((evs row l).getD r nul)) ∧ Ext w w' := by
  have hi := isx_prg r l.length
  rw [(isIx_iff _ _).2 ⟨by omega, by omega⟩] at hi
  have hRe := fun w' h => rea_prg l r vl w' h hr hs
  obtain ⟨al, cl, rfl, ll1, ll2⟩ := hl.shape
  obtain ⟨ar, cr, rfl, lr1, lr2⟩ := hrow.shape
  have HL := Lib.hid hl
  have HR := Lib.hid hrow
  have HX := Lib.hid hx
  have HO := Lib.hid ho
  have HI := Lib.hid hi
  have HRe := Lib.hid hRe
  clear hl hrow hx ho hi hRe
  unfold maxLen at ll2 lr2
  obtain ⟨n, hn⟩ : ∃ n, n = l.length := ⟨_, rfl⟩
  obtain ⟨m, hm⟩ : ∃ m, m = row.length := ⟨_, rfl⟩
  have HN := Lib.hid hn
  have HM := Lib.hid hm
  rw [← hn] at HL HI HRe ll1 hr hs ⊢
  rw [← hm] at HR lr1 ⊢
  clear hn hm
  have e1 : (0 : Int) ≤ (r : Int) + 1 := by omega
  have e2 : (r : Int) + 1 ≤ (cl : Int) := by omega
  go_enter Tryz.func128, Tryz.ntmps128
  obtain ⟨k0, k1, k2⟩ := box3 w (.int .i64 0) (.int .i64 0) (sv []) 58
  have hE0 : Ext w (w.alloc (.cells #[.int .i64 0, .int .i64 0, sv []] 58)) := (Ext.refl _).alloc _ _
  go_wp2_with fail
  refine (HI.out _).mono ?_; rintro e w1 ⟨rfl, rfl⟩
  go_wp2_with fail
  refine (HRe.out _ (HL.out.ext hE0)).mono ?_; rintro e w1 ⟨rfl, hA⟩
  have hE1 := hE0.trans hA.2
  have g0 := hA.2.keeps k0
  have g1 := hA.2.keeps k1
  have g2 := hA.2.keeps k2
  have hb1 := hA.lo
  have hf0 : ∀ o, w1.frozen? ⟨w.heap.size, o, none⟩ = false := fun o => by rw [hA.2.2.1 ⟨w.heap.size, o, none⟩ (by simp), frozen?_alloc_cells]; exact frozen_new _ _ _ (Nat.le_refl _)
  have hbs : (w.alloc (.cells #[.int .i64 0, .int .i64 0, sv []] 58)).heap.size = w.heap.size + 1 := alsz _ _
  rw [hbs] at hb1 hA ⊢
  have HB := Lib.hid hA.rd
  rw [rea_len] at HB
  have hw1 : w.heap.size < w1.heap.size := by omega
  clear hA hbs k0 k1 k2 hE0
  have HE1 := Lib.hid hE1
  have HL1 := Lib.hid (HL.out.ext hE1)
  have HR1 := Lib.hid (HR.out.ext hE1)
  clear hE1
  go_wp2_with (at_make; refine makeG tV rfl _ _ rfl w1 (Ext.refl _) ((r : Int) + 1) ((r : Int) + 1) (r + 1) rfl rfl (by omega) (by omega) (by omega) ?_; intro w2 hA hE2)
  have hw2 : w1.heap.size < w2.heap.size := hA.lo.2
  go_loopw [28] (EvR w1 l row r) (fun i _ => r + 1 - (intOf i).toNat)
  case atStart => exact ⟨0, by omega, rfl, by rw [pvs_zero]; exact hA⟩
  case round =>
    clear hA hE2 hw2
    obtain ⟨k, hk, rfl, hAr⟩ := hrel
    have hrn : r < l.length := by rw [← HN.out]; exact hr
    by_cases hlt : k < r + 1
    · have hkl : k < l.length := by omega
      have hi1 : (k : Int) < (r : Int) + 1 := by omega
      have hi0 : (0 : Int) ≤ (k : Int) := by omega
      have hi2 : (k : Int) ≤ (r : Int) + 1 := by omega
      have hi3 : (k : Int) ≤ ((r + 1 : Nat) : Int) := by omega
      have hi4 : (k : Int) < ((r + 1 : Nat) : Int) := by omega
      obtain ⟨g, o, rfl, c0, c1, c2, c3, c4, c5, c6⟩ := rd_X HL1.out k hkl
      have hgl : g < w1.heap.size := World.block_lt_of_cell? _ _ c0
      obtain ⟨gb, ob, hgb, cb⟩ := rd_B HB.out k (by rw [rea_len]; exact hlt)
      injection hgb with hgb
      injection hgb with hgb1 hgb2
      subst hgb1 hgb2
      rw [← getD_at (rea l r) false k (by rw [rea_len]; exact hlt), Nat.zero_add] at cb
      have hxk := getD_at l nulX k hkl
      have hst := pvs_step row l r k hrn (by omega)
      have hsk := pvs_skip row l (rea l r) (r + 1) k
      rw [hxk] at hst
      have hOk : okN l[k].c.n := HX.out _ (List.getElem_mem _)
      have hpl : (pvs row l (rea l r) (r + 1) k).length = r + 1 := pvs_len _ _ _ _ _
      have hP := hAr.rd.take k (by rw [hpl]; exact hi3 |> (fun h => by omega))
      have hO := fun vp vr w' h1 h2 => evo_prg l[k] ((pvs row l (rea l r) (r + 1) k).take k) row vp vr w' h1 h2 (okR_take (pvs_ok row HO.out l HX.out (rea l r) (r + 1) k) k)
      have hN := pvs_here row l (rea l r) (r + 1) k hlt
      obtain ⟨z0, z1, z2⟩ := hAr.c3 k _ (by rw [hpl]; exact hlt) hN
      rw [hpl] at hP
      have HST := Lib.hid hst
      have HSK := Lib.hid hsk
      have HPL := Lib.hid hpl
      clear hst hsk hxk hOk hpl hN z0 z1 z2
      generalize hpr : evO l[k] ((pvs row l (rea l r) (r + 1) k).take k) row = pq at *
      obtain ⟨p, q, t⟩ := pq
      clear hpr
      generalize l[k] = x at *
      obtain ⟨xop, xa, xb, xc, ⟨xk, xn, xs⟩⟩ := x
      simp only at c0 c1 c2 c3 c4 c5 c6
      have C0 := hAr.2.keeps c0
      have C1 := hAr.2.keeps c1
      have C2 := hAr.2.keeps c2
      have C3 := hAr.2.keeps c3
      have C4 := hAr.2.keeps c4
      have C5 := hAr.2.keeps c5
      have C6 := hAr.2.keeps c6
      have CB := hAr.2.keeps cb
      have hrs : w1.heap.size < wr.heap.size := hAr.lo.2
      have hrs0 : w.heap.size < wr.heap.size := by omega
      have hrs1 : w.heap.size + 1 < wr.heap.size := by omega
      clear c0 c1 c2 c3 c4 c5 c6 cb
      have hE0 : Ext wr (wr.alloc (.cells #[.int .i64 xop, .int .i64 xa, .int .i64 xb, .int .i64 xc, .int .i64 xk, .int .i64 xn, sv xs] 64)) := (Ext.refl _).alloc _ _
      have hA0 := hAr.ext hE0
      cases hbv : (rea l r).getD k false with
      | false =>
        rw [hbv] at CB
        have H1 := Lib.hid (HSK.out hbv)
        have HA0 := Lib.hid hA0
        clear hbv hO hP hA0 hE0 hAr
        go_wp2_with fail
        go_roundw
        case rel => exact ⟨k + 1, by omega, by go_num, by rw [H1.out]; exact HA0.out⟩
        case measure => simp [intOf]; omega
      | true =>
        rw [hbv] at CB
        have H1 := Lib.hid (HST.out hbv)
        have hHO := Lib.hid hO
        clear hbv hO
        go_wp2_with fail
        have b0 := al_c wr #[.int .i64 xop, .int .i64 xa, .int .i64 xb, .int .i64 xc, .int .i64 xk, .int .i64 xn, sv xs] 64 0 (.int .i64 xop) rfl
        have b1 := al_c wr #[.int .i64 xop, .int .i64 xa, .int .i64 xb, .int .i64 xc, .int .i64 xk, .int .i64 xn, sv xs] 64 1 (.int .i64 xa) rfl
        have b2 := al_c wr #[.int .i64 xop, .int .i64 xa, .int .i64 xb, .int .i64 xc, .int .i64 xk, .int .i64 xn, sv xs] 64 2 (.int .i64 xb) rfl
        have b3 := al_c wr #[.int .i64 xop, .int .i64 xa, .int .i64 xb, .int .i64 xc, .int .i64 xk, .int .i64 xn, sv xs] 64 3 (.int .i64 xc) rfl
        have b4 := al_c wr #[.int .i64 xop, .int .i64 xa, .int .i64 xb, .int .i64 xc, .int .i64 xk, .int .i64 xn, sv xs] 64 4 (.int .i64 xk) rfl
        have b5 := al_c wr #[.int .i64 xop, .int .i64 xa, .int .i64 xb, .int .i64 xc, .int .i64 xk, .int .i64 xn, sv xs] 64 5 (.int .i64 xn) rfl
        have b6 := al_c wr #[.int .i64 xop, .int .i64 xa, .int .i64 xb, .int .i64 xc, .int .i64 xk, .int .i64 xn, sv xs] 64 6 (sv xs) rfl
        generalize wr.alloc (.cells #[.int .i64 xop, .int .i64 xa, .int .i64 xb, .int .i64 xc, .int .i64 xk, .int .i64 xn, sv xs] 64) = W0 at hE0 hA0 b0 b1 b2 b3 b4 b5 b6 ⊢
        have B0 := Lib.hid b0
        have B1 := Lib.hid b1
        have B2 := Lib.hid b2
        have B3 := Lib.hid b3
        have B4 := Lib.hid b4
        have B5 := Lib.hid b5
        have B6 := Lib.hid b6
        have n0 : w1.heap.size ≠ wr.heap.size := by omega
        have hP0 := hP.ext hE0
        have hR0 := HR1.out.ext hA0.2
        have hbl : wr.heap.size < W0.heap.size := World.block_lt_of_cell? _ _ b0
        have hHA := Lib.hid hA0
        have HP0 := Lib.hid hP0
        have HR0 := Lib.hid hR0
        clear hP hP0 hR0 hE0 b0 b1 b2 b3 b4 b5 b6 hA0 C0 C1 C2 C3 C4 C5 C6 CB hAr
        go_region_held3 (fun w' => w'.cell? ⟨wr.heap.size, 0, none⟩ = some (.int .i64 xop) ∧ w'.cell? ⟨wr.heap.size, 1, none⟩ = some (.int .i64 xa) ∧ w'.cell? ⟨wr.heap.size, 2, none⟩ = some (.int .i64 xb) ∧ w'.cell? ⟨wr.heap.size, 3, none⟩ = some (.int .i64 xc) ∧ w'.cell? ⟨wr.heap.size, 4, none⟩ = some (.int .i64 xk) ∧ w'.cell? ⟨wr.heap.size, 5, none⟩ = some (.int .i64 xn) ∧ w'.cell? ⟨wr.heap.size, 6, none⟩ = some (sv xs)) (first | exact ⟨B0.out, B1.out, B2.out, B3.out, B4.out, B5.out, B6.out⟩ | exact ⟨f0, f1, f2, f3, f4, f5, f6⟩ | exact ⟨set3far n0 f0, set3far n0 f1, set3far n0 f2, set3far n0 f3, set3far n0 f4, set3far n0 f5, set3far n0 f6⟩ | go_keep)
          (first | (go_at_call 143; refine (heldE W0 (hHO.out _ _ _ (HP0.out.ext ?_) (HR0.out.ext ?_)) ?_).mono ?_; (first | assumption | exact Ext.refl _ | exact (Ext.refl _).drew); (first | assumption | exact Ext.refl _ | exact (Ext.refl _).drew); (first | assumption | exact Ext.refl _ | exact (Ext.refl _).drew); rintro e w3 ⟨rfl, -, qG⟩; have f0 := qG.keeps B0.out; have f1 := qG.keeps B1.out; have f2 := qG.keeps B2.out; have f3 := qG.keeps B3.out; have f4 := qG.keeps B4.out; have f5 := qG.keeps B5.out; have f6 := qG.keeps B6.out; have hA3 := hHA.out.ext qG; obtain ⟨z0, z1, z2⟩ := hA3.c3 k nul (by rw [HPL.out]; exact hlt) (pvs_here row l (rea l r) (r + 1) k hlt); simp only [nul] at z0 z1 z2; have y0 := hA3.frozen (k * 3); have y1 := hA3.frozen (k * 3 + 1); have y2 := hA3.frozen (k * 3 + 2); have hs3 := hA3.lo.2))
        have hA4 := hA3.put3 k p q t (by rw [HPL.out]; exact hlt)
        rw [← H1.out] at hA4
        go_wp2_with fail
        go_roundw
        case rel => exact ⟨k + 1, by omega, by go_num, hA4⟩
        case measure => simp [intOf]; omega
    · have hke : k = r + 1 := by omega
      subst hke
      have hpl : (pvs row l (rea l r) (r + 1) (r + 1)).length = r + 1 := pvs_len _ _ _ _ _
      obtain ⟨c0, c1, c2⟩ := hAr.c3 r _ (by rw [hpl]; omega) (pvs_end row l r)
      generalize hpq : (evs row l).getD r nul = pq at *
      obtain ⟨p, q, t⟩ := pq
      have HQ := Lib.hid hpq
      clear hpq
      simp only at c0 c1 c2
      have d0 := hAr.2.keeps g0
      have d1 := hAr.2.keeps g1
      have d2 := hAr.2.keeps g2
      have df : ∀ o, wr.frozen? ⟨w.heap.size, o, none⟩ = false := fun o => by rw [hAr.2.2.1 ⟨w.heap.size, o, none⟩ hw1]; exact hf0 o
      have d3 := df 0
      have d4 := df 1
      have d5 := df 2
      have hrs0 : w.heap.size < wr.heap.size := by have := hAr.lo.2; omega
      have hE := HE1.out.trans hAr.2
      have hi0 : (0 : Int) ≤ (r : Int) := by omega
      have hi1 : (r : Int) < (r : Int) + 1 := by omega
      have hi4 : (r : Int) < ((r + 1 : Nat) : Int) := by omega
      have hend : decide (((r + 1 : Nat) : Int) < (r : Int) + 1) = false := by simp
      clear hpl df hf0 g0 g1 g2
      go_wp2_with fail
      exact bodyPost_ret (v := vv ⟨p, q, t⟩) (by simp [results, Tryz.results128, go_sem, d0, d1, d2, vv]) rfl ⟨by rw [HQ.out], by repeat (first | exact hE | refine Ext.setNew ?_ _ _ (by simp; try omega) _)⟩
theorem eval_prg (l : List X) (root : Int) (row : List V) (vl vr : Value) (w : World) (hl : RdG w vl l) (hrow : RdG w vr row) (hs : l.length ≤ 1000) (hx : OkX l) (ho : OkR row) :
    Calls Tryz.prog 128 #[vl, .int .i64 root, vr] w fun e w' => e = .returned (vv (evlV l root row)) ∧ Ext w w' := by
  cases hb : isIx root l.length with
  | false => exact eval_no l root row vl vr w hl hb
  | true =>
    have h := (isIx_iff _ _).1 hb
    obtain ⟨r, rfl⟩ := nat_of h.1
    have e : evlV l r row = (evs row l).getD r nul := by unfold evlV; rw [if_neg (by rw [hb]; decide)]; rfl
    rw [e]
    exact eval_yes l r row vl vr w hl hrow (by omega) hs hx ho
end Go.Proofs.YtbplapkcleipiaaGreatDoor
