/- reachable, of the program. -/
import Derived.Test.YtfojeajmonnifaaGreatDoorZz10
import Derived.Test.YtfojeajmonnifaaGreatDoorZz17
import Derived.Test.YtfojeajmonnifaaGreatDoorZz18
import Derived.Test.YtfojeajmonnifaaGreatDoorZz19
namespace Go.Proofs.YtfojeajmonnifaaGreatDoor
open Go.ChangeShapes Go.WideShapes Go.ChangeAt Go.RowKit

theorem Arr.put1 {e : TypeId} {W w : World} {g : Nat} {l : List Bool} (h : Arr e W w g l) (i : Nat) (b : Bool) (hi : i < l.length) : Arr e W (w.setCell ⟨g, i, none⟩ (.bool b)) g (l.set i b) := by
  have h1 := (h.put i b hi).1
  have e1 : putAll w g (i * Enc.sz Bool) (Enc.cells b) = w.setCell ⟨g, i * 1, none⟩ (.bool b) := rfl
  rw [e1, Nat.mul_one] at h1
  exact h1
theorem Arr.cellB {e : TypeId} {W w : World} {g : Nat} {l : List Bool} (h : Arr e W w g l) (i : Nat) (hi : i < l.length) : w.cell? ⟨g, i, none⟩ = some (.bool (l.getD i false)) := by
  have := h.cell i 0 _ hi rfl
  rw [getD_at l false i hi]
  simpa [Enc.sz] using this
theorem rst_no (l : List X) (i : Nat) (u : List Bool) (h : u.getD i false = false) : rst l i u = u := by unfold rst; rw [if_neg (by rw [h]; decide)]
theorem rst_ff (l : List X) (i : Nat) (u : List Bool) (hA : lgA (l.getD i nulX) i = false) (hB : lgB (l.getD i nulX) i = false) : rst l i u = u := by
  unfold rst; split
  · rw [if_neg (by rw [hB]; decide), if_neg (by rw [hA]; decide)]
  · rfl
theorem rst_tf (l : List X) (i : Nat) (u : List Bool) (h : u.getD i false = true) (hA : lgA (l.getD i nulX) i = true) (hB : lgB (l.getD i nulX) i = false) : rst l i u = u.set (l.getD i nulX).a.toNat true := by
  unfold rst; rw [if_pos h, if_neg (by rw [hB]; decide), if_pos hA]
theorem rst_ft (l : List X) (i : Nat) (u : List Bool) (h : u.getD i false = true) (hA : lgA (l.getD i nulX) i = false) (hB : lgB (l.getD i nulX) i = true) : rst l i u = u.set (l.getD i nulX).b.toNat true := by
  unfold rst; rw [if_pos h, if_pos hB, if_neg (by rw [hA]; decide)]
theorem rst_tt (l : List X) (i : Nat) (u : List Bool) (h : u.getD i false = true) (hA : lgA (l.getD i nulX) i = true) (hB : lgB (l.getD i nulX) i = true) : rst l i u = (u.set (l.getD i nulX).a.toNat true).set (l.getD i nulX).b.toNat true := by
  unfold rst; rw [if_pos h, if_pos hB, if_pos hA]
def ReR (w : World) (l : List X) (r : Nat) (i : Value) (wr : World) : Prop := ∃ (k : Nat) (u : List Bool) (z : Int), k ≤ r + 1 ∧ i = .int .i64 z ∧ z = (k : Int) - 1 ∧ u.length = r + 1 ∧ Arr tB.e w wr w.heap.size u ∧ rdn l k u = rea l r
def ReP (w : World) (l : List X) (r : Nat) (e : Ending) (w' : World) : Prop := e = .returned (.slice (some ⟨w.heap.size, 0, none⟩) (r + 1) (r + 1)) ∧ Arr tB.e w w' w.heap.size (rea l r)
set_option maxHeartbeats 4000000 in
set_option maxRecDepth 100000 in
theorem rea_prg (l : List X) (r : Nat) (vl : Value) (w : World) (hl : RdG w vl l) (hr : r < l.length) (hs : l.length ≤ 1000) :
    Calls Tryz.prog 187 #[vl, .int .i64 r] w (ReP w l r) := by
  obtain ⟨al, cl, rfl, ll1, ll2⟩ := hl.shape
  have HL := Lib.hid hl
  clear hl
  unfold maxLen at ll2
  obtain ⟨n, hn⟩ : ∃ n, n = l.length := ⟨_, rfl⟩
  have HN := Lib.hid hn
  rw [← hn] at HL ll1 hr hs ⊢
  clear hn
  have hZ : (0 : Int) ≤ (r : Int) := by omega
  have hZ1 : (r : Int) < ((r + 1 : Nat) : Int) := by omega
  have hZ2 : (r : Int) < (r : Int) + 1 := by omega
  go_enter Tryz.func187, Tryz.ntmps187
  go_wp2_with (at_make; refine makeG tB rfl _ _ rfl w (Ext.refl _) ((r : Int) + 1) ((r : Int) + 1) (r + 1) rfl rfl (by omega) (by omega) (by omega) ?_; intro w1 hA hE1; have hF := hA.frozen r; have hc0 := hA.cellB r (by simp); have hB := hA.lo.2)
  have hA1 := hA.put1 r true (by simp)
  have HA1 := Lib.hid hA1
  clear hA1 hA
  clear hc0 hF
  go_loopw [6] (ReR w l r) (fun i _ => (intOf i + 1).toNat)
  case atStart => exact ⟨r + 1, _, r, Nat.le_refl _, rfl, by omega, by simp, HA1.out, rfl⟩
  case round =>
    obtain ⟨k, u, z, hk, rfl, hz, hu, hAr, hrd⟩ := hrel
    have HRD := Lib.hid hrd
    have HU := Lib.hid hu
    clear hrd hu
    cases k with
    | zero =>
      obtain rfl : z = -1 := by omega
      clear hz
      have hrd : u = rea l r := HRD.out
      rw [hrd] at hAr
      clear HRD
      go_wp2_with fail
      go_ret
      exact ⟨rfl, hAr⟩
    | succ j =>
      obtain rfl : z = (j : Int) := by omega
      clear hz
      have hj0 : (0 : Int) ≤ (j : Int) := by omega
      have hj1 : (j : Int) < (r : Int) + 1 := by omega
      have hj2 : (j : Int) < ((r + 1 : Nat) : Int) := by omega
      have hj3 : (j : Int) < (n : Int) := by omega
      have hjl : j < l.length := by rw [← HN.out]; omega
      have hju : j < u.length := by rw [HU.out]; omega
      have hcj := hAr.cellB j hju
      have hdec : ((j : Int) - 1) = ((j : Nat) : Int) - 1 := rfl
      cases hb : u.getD j false with
      | false =>
        rw [hb] at hcj
        have hrs := Lib.hid (rst_no l j u hb)
        clear hb hdec
        go_wp2_with fail
        go_roundw
        case rel => exact ⟨j, u, _, by omega, rfl, by go_num, HU.out, hAr, by have := HRD.out; rw [rdn, hrs.out] at this; exact this⟩
        case measure => simp [intOf]; try omega
      | true =>
        rw [hb] at hcj
        have HB := Lib.hid hb
        clear hb hdec
        obtain ⟨g, o, rfl, c0, c1, c2, c3, c4, c5, c6⟩ := rd_X HL.out j hjl
        have hgl : g < w.heap.size := World.block_lt_of_cell? _ _ c0
        have hne : w.heap.size ≠ g := by omega
        have hx := getD_at l nulX j hjl
        have HX := Lib.hid hx
        clear hx
        generalize l[j] = x at *
        obtain ⟨xop, xa, xb, xc, ⟨xk, xn, xs⟩⟩ := x
        simp only at c0 c1 c2 c3 c4 c5 c6
        have hPA := lgA_prg ⟨xop, xa, xb, xc, ⟨xk, xn, xs⟩⟩ j
        have hPB := lgB_prg ⟨xop, xa, xb, xc, ⟨xk, xn, xs⟩⟩ j
        have C0 := hAr.2.keeps c0
        have C1 := hAr.2.keeps c1
        have C2 := hAr.2.keeps c2
        have C3 := hAr.2.keeps c3
        have C4 := hAr.2.keeps c4
        have C5 := hAr.2.keeps c5
        have C6 := hAr.2.keeps c6
        cases hA : lgA ⟨xop, xa, xb, xc, ⟨xk, xn, xs⟩⟩ j with
        | false =>
          cases hB : lgB ⟨xop, xa, xb, xc, ⟨xk, xn, xs⟩⟩ j with
          | false =>
            rw [hA] at hPA
            rw [hB] at hPB
            have HRS := Lib.hid (rst_ff l j u (by rw [HX.out]; exact hA) (by rw [HX.out]; exact hB))
            try rw [HX.out] at HRS
            have HPA := Lib.hid hPA
            have HPB := Lib.hid hPB
            clear hPA hPB hA hB
            go_wp2_with fail
            refine (HPA.out _).mono ?_; rintro e w2 ⟨rfl, hg2⟩
            have hA2 := hAr.ext (ext_of_grown hg2)
            have D0 := hA2.2.keeps c0
            have D1 := hA2.2.keeps c1
            have D2 := hA2.2.keeps c2
            have D3 := hA2.2.keeps c3
            have D4 := hA2.2.keeps c4
            have D5 := hA2.2.keeps c5
            have D6 := hA2.2.keeps c6
            have hf2 := hA2.frozen
            have hs2 : w.heap.size < w2.heap.size := hA2.lo.2
            have hs2' : g < w2.heap.size := by omega
            clear C0 C1 C2 C3 C4 C5 C6 hcj hg2
            go_wp2_with fail
            refine (HPB.out _).mono ?_; rintro e w4 ⟨rfl, hg4⟩
            have hA4 := hA2.ext (ext_of_grown hg4)
            clear D0 D1 D2 D3 D4 D5 D6 hg4 hA2 hf2
            go_wp2_with fail
            go_roundw
            case rel => exact ⟨j, _, _, by omega, rfl, by go_num, (by simp [HU.out]), hA4, by have := HRD.out; rw [rdn, HRS.out] at this; exact this⟩
            case measure => simp [intOf]; try omega
          | true =>
            rw [hA] at hPA
            rw [hB] at hPB
            have HRS := Lib.hid (rst_ft l j u HB.out (by rw [HX.out]; exact hA) (by rw [HX.out]; exact hB))
            try rw [HX.out] at HRS
            obtain ⟨hb0, hb1⟩ := lgB_lt hB
            have HPA := Lib.hid hPA
            have HPB := Lib.hid hPB
            clear hPA hPB hA hB
            simp only at hb0 hb1
            obtain ⟨b, rfl⟩ := nat_of hb0
            have hb3 : b < r + 1 := by omega
            have hb4 : (b : Int) < ((r + 1 : Nat) : Int) := by omega
            have hb5 : (b : Int) < (r : Int) + 1 := by omega
            clear hb1
            go_wp2_with fail
            refine (HPA.out _).mono ?_; rintro e w2 ⟨rfl, hg2⟩
            have hA2 := hAr.ext (ext_of_grown hg2)
            have D0 := hA2.2.keeps c0
            have D1 := hA2.2.keeps c1
            have D2 := hA2.2.keeps c2
            have D3 := hA2.2.keeps c3
            have D4 := hA2.2.keeps c4
            have D5 := hA2.2.keeps c5
            have D6 := hA2.2.keeps c6
            have hf2 := hA2.frozen
            have hs2 : w.heap.size < w2.heap.size := hA2.lo.2
            have hs2' : g < w2.heap.size := by omega
            clear C0 C1 C2 C3 C4 C5 C6 hcj hg2
            go_wp2_with fail
            refine (HPB.out _).mono ?_; rintro e w4 ⟨rfl, hg4⟩
            have hA4 := hA2.ext (ext_of_grown hg4)
            clear D0 D1 D2 D3 D4 D5 D6 hg4 hA2 hf2
            have G0 := hA4.2.keeps c0
            have G1 := hA4.2.keeps c1
            have G2 := hA4.2.keeps c2
            have G3 := hA4.2.keeps c3
            have G4 := hA4.2.keeps c4
            have G5 := hA4.2.keeps c5
            have G6 := hA4.2.keeps c6
            have hf4 := hA4.frozen
            have hs4 : w.heap.size < w4.heap.size := hA4.lo.2
            have hs4' : g < w4.heap.size := by omega
            have hA5 := hA4.put1 b true (by rw [HU.out]; exact hb3)
            have hcb := hA4.cellB b (by rw [HU.out]; exact hb3)
            have HA5 := Lib.hid hA5
            clear hA5
            try go_wp2_with fail
            go_roundw
            case rel => exact ⟨j, _, _, by omega, rfl, by go_num, (by simp [HU.out]), HA5.out, by have := HRD.out; rw [rdn, HRS.out] at this; exact this⟩
            case measure => simp [intOf]; try omega
        | true =>
          cases hB : lgB ⟨xop, xa, xb, xc, ⟨xk, xn, xs⟩⟩ j with
          | false =>
            rw [hA] at hPA
            rw [hB] at hPB
            have HRS := Lib.hid (rst_tf l j u HB.out (by rw [HX.out]; exact hA) (by rw [HX.out]; exact hB))
            try rw [HX.out] at HRS
            obtain ⟨ha0, ha1⟩ := lgA_lt hA
            have HPA := Lib.hid hPA
            have HPB := Lib.hid hPB
            clear hPA hPB hA hB
            simp only at ha0 ha1
            obtain ⟨a, rfl⟩ := nat_of ha0
            have ha3 : a < r + 1 := by omega
            have ha4 : (a : Int) < ((r + 1 : Nat) : Int) := by omega
            have ha5 : (a : Int) < (r : Int) + 1 := by omega
            clear ha1
            go_wp2_with fail
            refine (HPA.out _).mono ?_; rintro e w2 ⟨rfl, hg2⟩
            have hA2 := hAr.ext (ext_of_grown hg2)
            have D0 := hA2.2.keeps c0
            have D1 := hA2.2.keeps c1
            have D2 := hA2.2.keeps c2
            have D3 := hA2.2.keeps c3
            have D4 := hA2.2.keeps c4
            have D5 := hA2.2.keeps c5
            have D6 := hA2.2.keeps c6
            have hf2 := hA2.frozen
            have hs2 : w.heap.size < w2.heap.size := hA2.lo.2
            have hs2' : g < w2.heap.size := by omega
            have hA3 := hA2.put1 a true (by rw [HU.out]; exact ha3)
            have hca := hA2.cellB a (by rw [HU.out]; exact ha3)
            have F0 := hA3.2.keeps c0
            have F1 := hA3.2.keeps c1
            have F2 := hA3.2.keeps c2
            have F3 := hA3.2.keeps c3
            have F4 := hA3.2.keeps c4
            have F5 := hA3.2.keeps c5
            have F6 := hA3.2.keeps c6
            have HA3 := Lib.hid hA3
            clear hA3
            clear C0 C1 C2 C3 C4 C5 C6 hcj hg2
            try go_wp2_with fail
            refine (HPB.out _).mono ?_; rintro e w4 ⟨rfl, hg4⟩
            have hA4 := HA3.out.ext (ext_of_grown hg4)
            clear D0 D1 D2 D3 D4 D5 D6 F0 F1 F2 F3 F4 F5 F6 hg4 hA2 hf2 hca
            go_wp2_with fail
            go_roundw
            case rel => exact ⟨j, _, _, by omega, rfl, by go_num, (by simp [HU.out]), hA4, by have := HRD.out; rw [rdn, HRS.out] at this; exact this⟩
            case measure => simp [intOf]; try omega
          | true =>
            rw [hA] at hPA
            rw [hB] at hPB
            have HRS := Lib.hid (rst_tt l j u HB.out (by rw [HX.out]; exact hA) (by rw [HX.out]; exact hB))
            try rw [HX.out] at HRS
            obtain ⟨ha0, ha1⟩ := lgA_lt hA
            obtain ⟨hb0, hb1⟩ := lgB_lt hB
            have HPA := Lib.hid hPA
            have HPB := Lib.hid hPB
            clear hPA hPB hA hB
            simp only at ha0 ha1
            obtain ⟨a, rfl⟩ := nat_of ha0
            have ha3 : a < r + 1 := by omega
            have ha4 : (a : Int) < ((r + 1 : Nat) : Int) := by omega
            have ha5 : (a : Int) < (r : Int) + 1 := by omega
            clear ha1
            simp only at hb0 hb1
            obtain ⟨b, rfl⟩ := nat_of hb0
            have hb3 : b < r + 1 := by omega
            have hb4 : (b : Int) < ((r + 1 : Nat) : Int) := by omega
            have hb5 : (b : Int) < (r : Int) + 1 := by omega
            clear hb1
            go_wp2_with fail
            refine (HPA.out _).mono ?_; rintro e w2 ⟨rfl, hg2⟩
            have hA2 := hAr.ext (ext_of_grown hg2)
            have D0 := hA2.2.keeps c0
            have D1 := hA2.2.keeps c1
            have D2 := hA2.2.keeps c2
            have D3 := hA2.2.keeps c3
            have D4 := hA2.2.keeps c4
            have D5 := hA2.2.keeps c5
            have D6 := hA2.2.keeps c6
            have hf2 := hA2.frozen
            have hs2 : w.heap.size < w2.heap.size := hA2.lo.2
            have hs2' : g < w2.heap.size := by omega
            have hA3 := hA2.put1 a true (by rw [HU.out]; exact ha3)
            have hca := hA2.cellB a (by rw [HU.out]; exact ha3)
            have F0 := hA3.2.keeps c0
            have F1 := hA3.2.keeps c1
            have F2 := hA3.2.keeps c2
            have F3 := hA3.2.keeps c3
            have F4 := hA3.2.keeps c4
            have F5 := hA3.2.keeps c5
            have F6 := hA3.2.keeps c6
            have HA3 := Lib.hid hA3
            clear hA3
            clear C0 C1 C2 C3 C4 C5 C6 hcj hg2
            try go_wp2_with fail
            refine (HPB.out _).mono ?_; rintro e w4 ⟨rfl, hg4⟩
            have hA4 := HA3.out.ext (ext_of_grown hg4)
            clear D0 D1 D2 D3 D4 D5 D6 F0 F1 F2 F3 F4 F5 F6 hg4 hA2 hf2 hca
            have G0 := hA4.2.keeps c0
            have G1 := hA4.2.keeps c1
            have G2 := hA4.2.keeps c2
            have G3 := hA4.2.keeps c3
            have G4 := hA4.2.keeps c4
            have G5 := hA4.2.keeps c5
            have G6 := hA4.2.keeps c6
            have hf4 := hA4.frozen
            have hs4 : w.heap.size < w4.heap.size := hA4.lo.2
            have hs4' : g < w4.heap.size := by omega
            have hA5 := hA4.put1 b true (by rw [List.length_set, HU.out]; exact hb3)
            have hcb := hA4.cellB b (by rw [List.length_set, HU.out]; exact hb3)
            have HA5 := Lib.hid hA5
            clear hA5
            try go_wp2_with fail
            go_roundw
            case rel => exact ⟨j, _, _, by omega, rfl, by go_num, (by simp [HU.out]), HA5.out, by have := HRD.out; rw [rdn, HRS.out] at this; exact this⟩
            case measure => simp [intOf]; try omega
end Go.Proofs.YtfojeajmonnifaaGreatDoor
/- evalOne and Eval, of the program. -/
namespace Go.Proofs.YtfojeajmonnifaaGreatDoor
open Go.ChangeShapes Go.WideShapes Go.ChangeAt Go.RowKit

theorem evo_prg (x : X) (pre row : List V) (vp vr : Value) (w : World) (hp : RdG w vp pre) (hr : RdG w vr row) (hop : ∀ v ∈ pre, okN v.n) : Calls Tryz.prog 188 #[xv x, vp, vr] w fun e w' => e = .returned (vv (evO x pre row)) ∧ Ext w w' := by
  cases hb : lgl x pre.length with
  | false => exact evo_no x pre row vp vr w hp hr hop hb
  | true =>
    by_cases h1 : x.op = 1
    · exact evo_1 x pre row vp vr w hp hr hop hb h1
    by_cases h2 : x.op = 2
    · exact evo_2 x pre row vp vr w hp hr hop hb h1 h2
    by_cases h10 : x.op = 10
    · exact evo_10 x pre row vp vr w hp hr hop hb h1 h2 h10
    by_cases h11 : x.op = 11
    · exact evo_11 x pre row vp vr w hp hr hop hb h1 h2 h10 h11
    by_cases h35 : 3 ≤ x.op ∧ x.op ≤ 5
    · exact evo_35 x pre row vp vr w hp hr hop hb h1 h2 h10 h11 h35
    by_cases h69 : 6 ≤ x.op ∧ x.op ≤ 9
    · exact evo_69 x pre row vp vr w hp hr hop hb h1 h2 h10 h11 h35 h69
    exact evo_else x pre row vp vr w hp hr hop hb h1 h2 h10 h11 h35 h69

theorem okN_nul : okN nul.n := (⟨by decide, by decide⟩ : okN 0)
theorem okR_at {row : List V} (h : OkR row) (i : Nat) : okN (row.getD i nul).n := by
  by_cases hi : i < row.length
  · rw [getD_at row nul i hi]; exact h _ (List.getElem_mem _)
  · rw [show row.getD i nul = nul by simp [List.getD, List.getElem?_eq_none (Nat.le_of_not_lt hi)]]; exact okN_nul
theorem calV_ok (op : Int) (a b : V) : okN (calV op a b).n := by
  unfold calV; split
  · unfold numV; split
    · rename_i h; unfold fitB at h; simp only [decide_eq_true_eq] at h; exact h
    · exact okN_nul
  · exact okN_nul
theorem evO_ok (x : X) (pre row : List V) (hx : okN x.c.n) (hr : OkR row) : okN (evO x pre row).n := by
  have hb : ∀ b, okN (booV b).n := fun b => by unfold okN booV; cases b <;> simp
  unfold evO
  repeat' split
  all_goals (first | exact okN_nul | exact hx | exact hb _ | exact (show okN (row.getD x.col.toNat nul).n from okR_at hr _) | exact calV_ok _ _ _)
theorem evs_ok (row : List V) (hr : OkR row) (l : List X) (hx : OkX l) : OkR (evs row l) := by
  intro v hv
  obtain ⟨i, hi, rfl⟩ := List.getElem_of_mem hv
  have hl : i < l.length := by rw [evs_len] at hi; exact hi
  rw [← getD_at (evs row l) nul i hi, evs_get row l i hl]
  exact evO_ok _ _ _ (hx _ (List.getElem_mem _)) hr
theorem pvs_ok (row : List V) (hr : OkR row) (l : List X) (hx : OkX l) (R : List Bool) (n k : Nat) : OkR (pvs row l R n k) := by
  intro v hv
  unfold pvs at hv
  obtain ⟨j, _, rfl⟩ := List.mem_map.1 hv
  split
  · exact okR_at (evs_ok row hr l hx) j
  · exact okN_nul
theorem okR_take {row : List V} (h : OkR row) (k : Nat) : OkR (row.take k) := fun v hv => h v (List.mem_of_mem_take hv)

theorem Arr.put3 {e : TypeId} {W w : World} {g : Nat} {l : List V} (h : Arr e W w g l) (i : Nat) (p q : Int) (t : List UInt8) (hi : i < l.length) : Arr e W (((w.setCell ⟨g, i * 3, none⟩ (.int .i64 p)).setCell ⟨g, i * 3 + 1, none⟩ (.int .i64 q)).setCell ⟨g, i * 3 + 2, none⟩ (sv t)) g (l.set i ⟨p, q, t⟩) := (h.put i ⟨p, q, t⟩ hi).1
theorem Arr.c3 {e : TypeId} {W w : World} {g : Nat} {l : List V} (h : Arr e W w g l) (i : Nat) (v : V) (hi : i < l.length) (hv : l.getD i nul = v) : w.cell? ⟨g, i * 3, none⟩ = some (.int .i64 v.k) ∧ w.cell? ⟨g, i * 3 + 1, none⟩ = some (.int .i64 v.n) ∧ w.cell? ⟨g, i * 3 + 2, none⟩ = some (sv v.s) := by
  rw [getD_at l nul i hi] at hv
  subst hv
  exact ⟨h.cell i 0 _ hi rfl, h.cell i 1 _ hi rfl, h.cell i 2 _ hi rfl⟩
theorem pvs_here (row : List V) (l : List X) (R : List Bool) (n k : Nat) (hk : k < n) : (pvs row l R n k).getD k nul = nul := by rw [pvs_at _ _ _ _ _ _ hk, if_neg (by omega)]
def EvR (W : World) (l : List X) (row : List V) (r : Nat) (i : Value) (wr : World) : Prop := ∃ k : Nat, k ≤ r + 1 ∧ i = .int .i64 k ∧ Arr tV.e W wr W.heap.size (pvs row l (rea l r) (r + 1) k)
theorem box3 (w : World) (a b c : Value) (t : TypeId) : (w.alloc (.cells #[a, b, c] t)).cell? ⟨w.heap.size, 0, none⟩ = some a ∧ (w.alloc (.cells #[a, b, c] t)).cell? ⟨w.heap.size, 1, none⟩ = some b ∧ (w.alloc (.cells #[a, b, c] t)).cell? ⟨w.heap.size, 2, none⟩ = some c :=
  ⟨al_c w #[a, b, c] t 0 a rfl, al_c w #[a, b, c] t 1 b rfl, al_c w #[a, b, c] t 2 c rfl⟩
set_option maxHeartbeats 4000000 in
set_option maxRecDepth 100000 in
theorem eval_no (l : List X) (root : Int) (row : List V) (vl vr : Value) (w : World) (hl : RdG w vl l) (hb : isIx root l.length = false) :
    Calls Tryz.prog 173 #[vl, .int .i64 root, vr] w fun e w' => e = .returned (vv (evlV l root row)) ∧ Ext w w' := by
  obtain ⟨al, cl, rfl, ll1, ll2⟩ := hl.shape
  have H := Lib.hid (show evlV l root row = nul by unfold evlV; rw [if_pos hb])
  have hI := isx_prg root l.length
  rw [hb] at hI
  have HI := Lib.hid hI
  clear hI hb hl ll1 ll2
  go_enter Tryz.func173, Tryz.ntmps173
  obtain ⟨k0, k1, k2⟩ := box3 w (.int .i64 0) (.int .i64 0) (sv []) 74
  go_wp2_with fail
  refine (HI.out _).mono ?_; rintro e w1 ⟨rfl, rfl⟩
  go_wp2_with fail
  rw [show (evlV l root row) = nul from H.out]
  exact bodyPost_ret (v := vv nul) (by simp [results, Tryz.results173, go_sem, k0, k1, k2, vv, nul]) rfl ⟨rfl, by repeat (first | exact Ext.refl _ | refine Ext.alloc ?_ _ _ | refine Ext.setNew ?_ _ _ (by simp; try omega) _)⟩
end Go.Proofs.YtfojeajmonnifaaGreatDoor
