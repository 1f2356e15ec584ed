/- Columns, of the reference. -/
import Derived.Test.YtdamlnfjhpmpmaaCol
import Derived.Test.YtdamlnfjhpmpmaaMl2
namespace Go.Proofs.Ytdamlnfjhpmpmaa
open Go.ChangeShapes Go.WideShapes Go.ChangeAt Go.RowKit

/-- a row that is read, away from block g0 -/
def RdA (g0 : Nat) (w : World) (v : Value) (l : List Int) : Prop := RdG w v l ∧ (v = .slice none 0 0 ∨ ∃ g n cap, v = .slice (some ⟨g, 0, none⟩) n cap ∧ g ≠ g0)
theorem RdA.put {g0 : Nat} {w : World} {v : Value} {l : List Int} (h : RdA g0 w v l) (i : Nat) (x : Value) : RdA g0 (w.setCell ⟨g0, i, none⟩ x) v l := by
  obtain ⟨⟨ad, cap, rfl, h1, h2, h3, h4⟩, h5⟩ := h
  refine ⟨⟨ad, cap, rfl, h1, h2, h3, fun j hj => ?_⟩, h5⟩
  obtain ⟨g, o, rfl, c⟩ := h4 j hj
  refine ⟨g, o, rfl, fun jj u hu => ?_⟩
  have hne : g ≠ g0 := by
    rcases h5 with h5 | ⟨g', n, cap', e, hne⟩
    · simp at h5
    · simp only [Value.slice.injEq, Option.some.injEq, Addr.mk.injEq, and_true] at e
      rw [e.1.1]; exact hne
  rw [World.cell?_setCell_other _ _ _ _ (fun hh => hne (congrArg Addr.block hh).symm)]
  exact c jj u hu
theorem RdA.ext {g0 : Nat} {w w' : World} {v : Value} {l : List Int} (h : RdA g0 w v l) (e : Ext w w') : RdA g0 w' v l := ⟨h.1.ext e, h.2⟩
theorem rdA_own {g0 : Nat} {W w : World} {v : Value} {l : List Int} (h : OwnG tI.e W w v l) (hg : g0 < W.heap.size) : RdA g0 w v l := by
  refine ⟨h.rd, ?_⟩
  rcases h.1.2 with ⟨h1, h2⟩ | ⟨g, cap, cur, h1, h2, h3, h4, h5, _⟩
  · exact .inl h1
  · exact .inr ⟨g, _, cap, h1, by omega⟩
/-- the columns of what is reached at k and above -/
def CrM (l : List X) (r k : Nat) (cs : List Int) : Prop := Asc cs ∧ (∀ c, c ∈ cs ↔ ∃ i, k ≤ i ∧ i ≤ r ∧ (rea l r).getD i false = true ∧ (l.getD i nulX).op = 2 ∧ (l.getD i nulX).col = c) ∧ cs.length ≤ r + 1 - k
theorem crm_no {l : List X} {r j : Nat} {cs : List Int} (h : CrM l r (j + 1) cs) (hn : (rea l r).getD j false = false ∨ (l.getD j nulX).op ≠ 2) : CrM l r j cs := by
  obtain ⟨h1, h2, h3⟩ := h
  refine ⟨h1, fun c => ?_, by omega⟩
  rw [h2 c]
  constructor
  · rintro ⟨i, a, b⟩; exact ⟨i, by omega, b⟩
  · rintro ⟨i, a, b, c1, d1, e1⟩
    rcases Nat.lt_or_ge j i with h | h
    · exact ⟨i, h, b, c1, d1, e1⟩
    · obtain rfl : i = j := by omega
      rcases hn with hn | hn
      · rw [hn] at c1; cases c1
      · exact absurd d1 hn
theorem crm_yes {l : List X} {r j : Nat} {cs cs' : List Int} (h : CrM l r (j + 1) cs) (hj : j ≤ r) (hr : (rea l r).getD j false = true) (hop : (l.getD j nulX).op = 2) (ha : Asc cs') (hm : ∀ c, c ∈ cs' ↔ c ∈ cs ∨ c = (l.getD j nulX).col) (hl : cs'.length ≤ cs.length + 1) : CrM l r j cs' := by
  obtain ⟨h1, h2, h3⟩ := h
  refine ⟨ha, fun c => ?_, by omega⟩
  rw [hm c, h2 c]
  constructor
  · rintro (⟨i, a, b⟩ | rfl)
    · exact ⟨i, by omega, b⟩
    · exact ⟨j, Nat.le_refl _, hj, hr, hop, rfl⟩
  · rintro ⟨i, a, b, c1, d1, e1⟩
    rcases Nat.lt_or_ge j i with h | h
    · exact .inl ⟨i, h, b, c1, d1, e1⟩
    · obtain rfl : i = j := by omega
      exact .inr e1.symm
theorem crm_end {l : List X} {r : Nat} {cs : List Int} (h : CrM l r 0 cs) (c : Int) : c ∈ cs ↔ Uses l r c := by
  rw [h.2.1 c]
  unfold Uses
  constructor
  · rintro ⟨i, _, b⟩; exact ⟨i, b⟩
  · rintro ⟨i, b⟩; exact ⟨i, Nat.zero_le _, b⟩
theorem lgA_mk {x : X} {i : Int} (h1 : 1 ≤ ari x.op) (h2 : 0 ≤ x.a) (h3 : x.a < i) : lgA x i = true := by simp [lgA, isIx]; omega
theorem lgA_no0 {x : X} {i : Int} (h1 : ari x.op < 1) : lgA x i = false := by
  have : decide (1 ≤ ari x.op) = false := by simp; omega
  simp [lgA, this]
theorem lgA_no1 {x : X} {i : Int} (h : x.a < 0 ∨ i ≤ x.a) : lgA x i = false := by
  have : isIx x.a i = false := (isIx_no _ _).2 h
  simp [lgA, this]
theorem lgB_mk {x : X} {i : Int} (h1 : ari x.op = 2) (h2 : 0 ≤ x.b) (h3 : x.b < i) : lgB x i = true := by simp [lgB, isIx]; omega
theorem lgB_no0 {x : X} {i : Int} (h1 : ari x.op < 2) : lgB x i = false := by
  have : decide (ari x.op = 2) = false := by simp; omega
  simp [lgB, this]
theorem lgB_no1 {x : X} {i : Int} (h : x.b < 0 ∨ i ≤ x.b) : lgB x i = false := by
  have : isIx x.b i = false := (isIx_no _ _).2 h
  simp [lgB, this]
def CrR (w : World) (l : List X) (r : Nat) (v i : Value) (wr : World) : Prop := ∃ (k : Nat) (u : List Bool) (z : Int) (cs : List Int), k ≤ r + 1 ∧ i = .int .i64 z ∧ z = (k : Int) - 1 ∧ u.length = r + 1 ∧ Arr tB.e w wr w.heap.size u ∧ rdn l k u = rea l r ∧ RdA w.heap.size wr v cs ∧ CrM l r k cs
theorem ari2 {op : Int} (h : ari op = 1 ∨ ari op = 2) : op ≠ 2 := by rintro rfl; simp [ari] at h
set_option maxHeartbeats 16000000 in
set_option maxRecDepth 100000 in
theorem col_ryes (l : List X) (r : Nat) (vl : Value) (w : World) (hl : RdG w vl l) (hr : r < l.length) (hs : l.length ≤ 1000) :
    Calls Try.prog 19 #[vl, .int .i64 r] w (ColP l r w) := by
  have HIX := Lib.hid ((isIx_iff r l.length).2 ⟨by omega, by omega⟩)
  obtain ⟨al, cl, rfl, ll1, ll2⟩ := hl.shape
  have HL := Lib.hid hl
  clear hl
  unfold maxLen at ll2
  obtain ⟨n, hn⟩ : ∃ n, n = l.length := ⟨_, rfl⟩
  have HN := Lib.hid hn
  rw [← hn] at HL ll1 hr hs ⊢
  clear hn
  have hZ : (0 : Int) ≤ (r : Int) := by omega
  have hZ0 : decide ((r : Int) < 0) = false := by simp
  have hZ9 : (r : Int) < (n : Int) := by omega
  have hZ1 : (r : Int) < ((r + 1 : Nat) : Int) := by omega
  have hZ2 : (r : Int) < (r : Int) + 1 := by omega
  go_enter Try.func19, Try.ntmps19
  go_wp2_with (at_make; refine makeG tB rfl _ _ rfl w (Ext.refl _) ((r : Int) + 1) ((r : Int) + 1) (r + 1) rfl rfl (by omega) (by omega) (by omega) ?_; intro w1 hA hE1; have hF := hA.frozen r; have hc0 := hA.cellB r (by simp); have hB := hA.lo.2)
  have hA1 := hA.put1 r true (by simp)
  have HA1 := Lib.hid hA1
  clear hA1 hA
  clear hc0 hF
  go_loopw [6, 7] (CrR w l r) (fun _ i _ => (intOf i + 1).toNat)
  case atStart => exact ⟨r + 1, _, r, [], Nat.le_refl _, rfl, by omega, by simp, HA1.out, rfl, ⟨rdG_nil _, .inl rfl⟩, ⟨by simp [Asc], fun c => ⟨fun h => (by cases h), fun ⟨i, a, b, _⟩ => (by omega)⟩, by simp⟩⟩
  case round =>
    obtain ⟨k, u, z, cs, hk, rfl, hz, hu, hAr, hrd, hO, hcm⟩ := hrel
    have HRD := Lib.hid hrd
    have HU := Lib.hid hu
    have HO := Lib.hid hO
    have HCM := Lib.hid hcm
    clear hrd hu hO hcm
    cases k with
    | zero =>
      obtain rfl : z = -1 := by omega
      clear hz
      have HAr := Lib.hid hAr
      clear hAr
      go_wp2_with fail
      go_ret
      exact ⟨_, cs, rfl, HO.out.1, HAr.out.2, HCM.out.1, fun c => ⟨fun h => ⟨HIX.out, by simpa using (crm_end HCM.out c).1 h⟩, fun h => (crm_end HCM.out c).2 (by simpa using h.2)⟩⟩
    | succ j =>
      obtain rfl : z = (j : Int) := by omega
      clear hz
      have hj0 : (0 : Int) ≤ (j : Int) := by omega
      have hj1 : (j : Int) < (r : Int) + 1 := by omega
      have hj2 : (j : Int) < ((r + 1 : Nat) : Int) := by omega
      have hj3 : (j : Int) < (n : Int) := by omega
      have hjl : j < l.length := by rw [← HN.out]; omega
      have hju : j < u.length := by rw [HU.out]; omega
      have hcj := hAr.cellB j hju
      have HREA0 := Lib.hid (rdn_high l j (j + 1) u (Nat.le_refl _))
      rw [HRD.out] at HREA0
      cases hb : u.getD j false with
      | false =>
        rw [hb] at hcj
        have HREA := Lib.hid (HREA0.out.trans hb)
        have hrs := Lib.hid (rst_no l j u hb)
        clear hb
        have HAr := Lib.hid hAr
        clear hAr
        go_wp2_with fail
        go_roundw
        case rel => exact ⟨j, u, _, cs, by omega, rfl, by go_num, HU.out, HAr.out, by have := HRD.out; rw [rdn, hrs.out] at this; exact this, HO.out, crm_no HCM.out (.inl HREA.out)⟩
        case measure => simp [intOf]; try omega
      | true =>
        rw [hb] at hcj
        have HREA := Lib.hid (HREA0.out.trans hb)
        have HB := Lib.hid hb
        clear hb
        obtain ⟨g, o, rfl, c0, c1, c2, c3, c4, c5, c6⟩ := rd_X HL.out j hjl
        have hgl : g < w.heap.size := World.block_lt_of_cell? _ _ c0
        have hne : w.heap.size ≠ g := by omega
        have hx := getD_at l nulX j hjl
        have HX := Lib.hid hx
        clear hx c4 c5 c6
        generalize l[j] = x at *
        obtain ⟨xop, xa, xb, xc, ⟨xk, xn, xs⟩⟩ := x
        simp only at c0 c1 c2 c3
        have C0 := hAr.2.keeps c0
        have C1 := hAr.2.keeps c1
        have C2 := hAr.2.keeps c2
        have C3 := hAr.2.keeps c3
        have HAR := Lib.hid (ari_ref xop)
        by_cases hop : xop = 2
        · have hn2 : ari 2 = 0 := rfl
          rw [hop] at HAR
          rw [hn2] at HAR
          subst hop
          have HRS := Lib.hid (rst_ff l j u (by rw [HX.out]; exact lgA_no0 (by show ari 2 < 1; omega)) (by rw [HX.out]; exact lgB_no0 (by show ari 2 < 2; omega)))
          clear hn2
          have hAr0 := Lib.hid hAr
          clear hAr
          go_wp2_with fail
          refine (HAR.out _).mono ?_; rintro e w2 ⟨rfl, rfl⟩
          go_wp2_with fail
          refine (ml_ref cs [xc] _ _ _ (HO.out.1.ext ((Ext.refl _).alloc _ _)) (rd_lit1I _ xc _ _ rfl) (by have := HCM.out.2.2; omega) (by simp)).mono ?_; rintro e w3 ⟨v', cs', rfl, hO, hasc, hmem, hlen⟩
          have hE3 : Ext wr w3 := ((Ext.refl _).alloc _ _).trans hO.2
          have HA4 := Lib.hid (hAr0.out.ext hE3)
          have HO4 := Lib.hid (rdA_own (g0 := w.heap.size) hO (by have := hAr0.out.lo.2; simp; omega))
          have HCM4 := Lib.hid (crm_yes HCM.out (by omega) HREA.out (by rw [HX.out]) hasc (fun c => by rw [hmem c, HX.out]; simp) (by simpa using hlen))
          clear hO hasc hmem hlen hE3
          go_wp2_with fail
          go_roundw
          case rel => exact ⟨j, _, _, cs', by omega, rfl, by go_num, HU.out, HA4.out, by have := HRD.out; rw [rdn, HRS.out] at this; exact this, HO4.out, HCM4.out⟩
          case measure => simp [intOf]; try omega
        · have HOP : Hid ((l.getD j nulX).op ≠ 2) := Lib.hid (by rw [HX.out]; exact hop)
          have hop2 : ((xop == (2 : Int)) : Bool) = false := by simpa using hop
          rcases ari_vals xop with hn2 | hn2 | hn2 | hn2
          · rw [hn2] at HAR
            have HRS := Lib.hid (rst_ff l j u (by rw [HX.out]; exact lgA_no0 (by show ari xop < 1; omega)) (by rw [HX.out]; exact lgB_no0 (by show ari xop < 2; omega)))
            clear hn2
            have HA3 := Lib.hid hAr
            have HO3 := HO
            have HA4 := HA3
            have HO4 := HO3
            clear hAr
            go_wp2_with fail
            refine (HAR.out _).mono ?_; rintro e w2 ⟨rfl, rfl⟩
            go_wp2_with fail
            go_roundw
            case rel => exact ⟨j, _, _, cs, by omega, rfl, by go_num, (by simp [HU.out]), HA4.out, by have := HRD.out; rw [rdn, HRS.out] at this; exact this, HO4.out, crm_no HCM.out (.inr HOP.out)⟩
            case measure => simp [intOf]; try omega
          · rw [hn2] at HAR
            have HRS := Lib.hid (rst_ff l j u (by rw [HX.out]; exact lgA_no0 (by show ari xop < 1; omega)) (by rw [HX.out]; exact lgB_no0 (by show ari xop < 2; omega)))
            clear hn2
            have HA3 := Lib.hid hAr
            have HO3 := HO
            have HA4 := HA3
            have HO4 := HO3
            clear hAr
            go_wp2_with fail
            refine (HAR.out _).mono ?_; rintro e w2 ⟨rfl, rfl⟩
            go_wp2_with fail
            go_roundw
            case rel => exact ⟨j, _, _, cs, by omega, rfl, by go_num, (by simp [HU.out]), HA4.out, by have := HRD.out; rw [rdn, HRS.out] at this; exact this, HO4.out, crm_no HCM.out (.inr HOP.out)⟩
            case measure => simp [intOf]; try omega
          · rw [hn2] at HAR
            rcases (show xa < 0 ∨ (0 ≤ xa ∧ (j : Int) ≤ xa) ∨ (0 ≤ xa ∧ xa < (j : Int)) by omega) with ha0 | ⟨ha0, ha1⟩ | ⟨ha0, ha1⟩
            · have HRS := Lib.hid (rst_ff l j u (by rw [HX.out]; exact lgA_no1 (.inl (by show xa < 0; omega))) (by rw [HX.out]; exact lgB_no0 (by show ari xop < 2; omega)))
              try rw [HX.out] at HRS
              clear hn2
              have ha6 : decide ((0 : Int) ≤ xa) = false := by simp; omega
              have HA3 := Lib.hid hAr
              have HO3 := HO
              have HA4 := HA3
              have HO4 := HO3
              clear hAr
              go_wp2_with fail
              refine (HAR.out _).mono ?_; rintro e w2 ⟨rfl, rfl⟩
              go_wp2_with fail
              go_roundw
              case rel => exact ⟨j, _, _, cs, by omega, rfl, by go_num, (by simp [HU.out]), HA4.out, by have := HRD.out; rw [rdn, HRS.out] at this; exact this, HO4.out, crm_no HCM.out (.inr HOP.out)⟩
              case measure => simp [intOf]; try omega
            · have HRS := Lib.hid (rst_ff l j u (by rw [HX.out]; exact lgA_no1 (.inr (by show (j : Int) ≤ xa; omega))) (by rw [HX.out]; exact lgB_no0 (by show ari xop < 2; omega)))
              try rw [HX.out] at HRS
              clear hn2
              have ha6 : decide ((0 : Int) ≤ xa) = true := by simp; omega
              have ha7 : decide (xa < (j : Int)) = false := by simp; omega
              have ha8 : (0 : Int) ≤ xa := by omega
              have HA3 := Lib.hid hAr
              have HO3 := HO
              have HA4 := HA3
              have HO4 := HO3
              clear hAr
              go_wp2_with fail
              refine (HAR.out _).mono ?_; rintro e w2 ⟨rfl, rfl⟩
              go_wp2_with fail
              go_roundw
              case rel => exact ⟨j, _, _, cs, by omega, rfl, by go_num, (by simp [HU.out]), HA4.out, by have := HRD.out; rw [rdn, HRS.out] at this; exact this, HO4.out, crm_no HCM.out (.inr HOP.out)⟩
              case measure => simp [intOf]; try omega
            · have HRS := Lib.hid (rst_tf l j u HB.out (by rw [HX.out]; exact lgA_mk (by show 1 ≤ ari xop; omega) (by show 0 ≤ xa; omega) (by show xa < (j : Int); omega)) (by rw [HX.out]; exact lgB_no0 (by show ari xop < 2; omega)))
              try rw [HX.out] at HRS
              clear hn2
              obtain ⟨a, rfl⟩ := nat_of ha0
              have ha3 : a < r + 1 := by omega
              have ha4 : (a : Int) < ((r + 1 : Nat) : Int) := by omega
              have ha5 : (a : Int) < (r : Int) + 1 := by omega
              have ha6 : decide ((0 : Int) ≤ (a : Int)) = true := by simp
              have ha7 : decide ((a : Int) < (j : Int)) = true := by simp; omega
              have ha8 : (0 : Int) ≤ (a : Int) := by omega
              have ha9 : (a : Int) < (j : Int) := by omega
              have hA3 := hAr.put1 a true (by rw [HU.out]; exact ha3)
              have hca := hAr.cellB a (by rw [HU.out]; exact ha3)
              have hf3 := hAr.frozen a
              have F0 := hA3.2.keeps c0
              have F1 := hA3.2.keeps c1
              have F2 := hA3.2.keeps c2
              have F3 := hA3.2.keeps c3
              have HA3 := Lib.hid hA3
              have HO3 := Lib.hid (HO.out.put a (.bool true))
              clear hA3
              have HA4 := HA3
              have HO4 := HO3
              clear hAr
              go_wp2_with fail
              refine (HAR.out _).mono ?_; rintro e w2 ⟨rfl, rfl⟩
              go_wp2_with fail
              go_roundw
              case rel => exact ⟨j, _, _, cs, by omega, rfl, by go_num, (by simp [HU.out]), HA4.out, by have := HRD.out; rw [rdn, HRS.out] at this; exact this, HO4.out, crm_no HCM.out (.inr HOP.out)⟩
              case measure => simp [intOf]; try omega
          · rw [hn2] at HAR
            rcases (show xa < 0 ∨ (0 ≤ xa ∧ (j : Int) ≤ xa) ∨ (0 ≤ xa ∧ xa < (j : Int)) by omega) with ha0 | ⟨ha0, ha1⟩ | ⟨ha0, ha1⟩
            · rcases (show xb < 0 ∨ (0 ≤ xb ∧ (j : Int) ≤ xb) ∨ (0 ≤ xb ∧ xb < (j : Int)) by omega) with hb0 | ⟨hb0, hb1⟩ | ⟨hb0, hb1⟩
              · have HRS := Lib.hid (rst_ff l j u (by rw [HX.out]; exact lgA_no1 (.inl (by show xa < 0; omega))) (by rw [HX.out]; exact lgB_no1 (.inl (by show xb < 0; omega))))
                try rw [HX.out] at HRS
                clear hn2
                have ha6 : decide ((0 : Int) ≤ xa) = false := by simp; omega
                have hb6 : decide ((0 : Int) ≤ xb) = false := by simp; omega
                have HA3 := Lib.hid hAr
                have HO3 := HO
                have HA4 := HA3
                have HO4 := HO3
                clear hAr
                go_wp2_with fail
                refine (HAR.out _).mono ?_; rintro e w2 ⟨rfl, rfl⟩
                go_wp2_with fail
                go_roundw
                case rel => exact ⟨j, _, _, cs, by omega, rfl, by go_num, (by simp [HU.out]), HA4.out, by have := HRD.out; rw [rdn, HRS.out] at this; exact this, HO4.out, crm_no HCM.out (.inr HOP.out)⟩
                case measure => simp [intOf]; try omega
              · have HRS := Lib.hid (rst_ff l j u (by rw [HX.out]; exact lgA_no1 (.inl (by show xa < 0; omega))) (by rw [HX.out]; exact lgB_no1 (.inr (by show (j : Int) ≤ xb; omega))))
                try rw [HX.out] at HRS
                clear hn2
                have ha6 : decide ((0 : Int) ≤ xa) = false := by simp; omega
                have hb6 : decide ((0 : Int) ≤ xb) = true := by simp; omega
                have hb7 : decide (xb < (j : Int)) = false := by simp; omega
                have hb8 : (0 : Int) ≤ xb := by omega
                have HA3 := Lib.hid hAr
                have HO3 := HO
                have HA4 := HA3
                have HO4 := HO3
                clear hAr
                go_wp2_with fail
                refine (HAR.out _).mono ?_; rintro e w2 ⟨rfl, rfl⟩
                go_wp2_with fail
                go_roundw
                case rel => exact ⟨j, _, _, cs, by omega, rfl, by go_num, (by simp [HU.out]), HA4.out, by have := HRD.out; rw [rdn, HRS.out] at this; exact this, HO4.out, crm_no HCM.out (.inr HOP.out)⟩
                case measure => simp [intOf]; try omega
              · have HRS := Lib.hid (rst_ft l j u HB.out (by rw [HX.out]; exact lgA_no1 (.inl (by show xa < 0; omega))) (by rw [HX.out]; exact lgB_mk (by show ari xop = 2; omega) (by show 0 ≤ xb; omega) (by show xb < (j : Int); omega)))
                try rw [HX.out] at HRS
                clear hn2
                have ha6 : decide ((0 : Int) ≤ xa) = false := by simp; omega
                obtain ⟨b, rfl⟩ := nat_of hb0
                have hb3 : b < r + 1 := by omega
                have hb4 : (b : Int) < ((r + 1 : Nat) : Int) := by omega
                have hb5 : (b : Int) < (r : Int) + 1 := by omega
                have hb6 : decide ((0 : Int) ≤ (b : Int)) = true := by simp
                have hb7 : decide ((b : Int) < (j : Int)) = true := by simp; omega
                have hb8 : (0 : Int) ≤ (b : Int) := by omega
                have hb9 : (b : Int) < (j : Int) := by omega
                have HA3 := Lib.hid hAr
                have HO3 := HO
                have hA4 := HA3.out.put1 b true (by simp [HU.out]; omega)
                have hcb := HA3.out.cellB b (by simp [HU.out]; omega)
                have hf4 := HA3.out.frozen b
                have G0 := hA4.2.keeps c0
                have G1 := hA4.2.keeps c1
                have G2 := hA4.2.keeps c2
                have G3 := hA4.2.keeps c3
                have HA4 := Lib.hid hA4
                have HO4 := Lib.hid (HO3.out.put b (.bool true))
                clear hA4
                clear hAr
                go_wp2_with fail
                refine (HAR.out _).mono ?_; rintro e w2 ⟨rfl, rfl⟩
                go_wp2_with fail
                go_roundw
                case rel => exact ⟨j, _, _, cs, by omega, rfl, by go_num, (by simp [HU.out]), HA4.out, by have := HRD.out; rw [rdn, HRS.out] at this; exact this, HO4.out, crm_no HCM.out (.inr HOP.out)⟩
                case measure => simp [intOf]; try omega
            · rcases (show xb < 0 ∨ (0 ≤ xb ∧ (j : Int) ≤ xb) ∨ (0 ≤ xb ∧ xb < (j : Int)) by omega) with hb0 | ⟨hb0, hb1⟩ | ⟨hb0, hb1⟩
              · have HRS := Lib.hid (rst_ff l j u (by rw [HX.out]; exact lgA_no1 (.inr (by show (j : Int) ≤ xa; omega))) (by rw [HX.out]; exact lgB_no1 (.inl (by show xb < 0; omega))))
                try rw [HX.out] at HRS
                clear hn2
                have ha6 : decide ((0 : Int) ≤ xa) = true := by simp; omega
                have ha7 : decide (xa < (j : Int)) = false := by simp; omega
                have ha8 : (0 : Int) ≤ xa := by omega
                have hb6 : decide ((0 : Int) ≤ xb) = false := by simp; omega
                have HA3 := Lib.hid hAr
                have HO3 := HO
                have HA4 := HA3
                have HO4 := HO3
                clear hAr
                go_wp2_with fail
                refine (HAR.out _).mono ?_; rintro e w2 ⟨rfl, rfl⟩
                go_wp2_with fail
                go_roundw
                case rel => exact ⟨j, _, _, cs, by omega, rfl, by go_num, (by simp [HU.out]), HA4.out, by have := HRD.out; rw [rdn, HRS.out] at this; exact this, HO4.out, crm_no HCM.out (.inr HOP.out)⟩
                case measure => simp [intOf]; try omega
              · have HRS := Lib.hid (rst_ff l j u (by rw [HX.out]; exact lgA_no1 (.inr (by show (j : Int) ≤ xa; omega))) (by rw [HX.out]; exact lgB_no1 (.inr (by show (j : Int) ≤ xb; omega))))
                try rw [HX.out] at HRS
                clear hn2
                have ha6 : decide ((0 : Int) ≤ xa) = true := by simp; omega
                have ha7 : decide (xa < (j : Int)) = false := by simp; omega
                have ha8 : (0 : Int) ≤ xa := by omega
                have hb6 : decide ((0 : Int) ≤ xb) = true := by simp; omega
                have hb7 : decide (xb < (j : Int)) = false := by simp; omega
                have hb8 : (0 : Int) ≤ xb := by omega
                have HA3 := Lib.hid hAr
                have HO3 := HO
                have HA4 := HA3
                have HO4 := HO3
                clear hAr
                go_wp2_with fail
                refine (HAR.out _).mono ?_; rintro e w2 ⟨rfl, rfl⟩
                go_wp2_with fail
                go_roundw
                case rel => exact ⟨j, _, _, cs, by omega, rfl, by go_num, (by simp [HU.out]), HA4.out, by have := HRD.out; rw [rdn, HRS.out] at this; exact this, HO4.out, crm_no HCM.out (.inr HOP.out)⟩
                case measure => simp [intOf]; try omega
              · have HRS := Lib.hid (rst_ft l j u HB.out (by rw [HX.out]; exact lgA_no1 (.inr (by show (j : Int) ≤ xa; omega))) (by rw [HX.out]; exact lgB_mk (by show ari xop = 2; omega) (by show 0 ≤ xb; omega) (by show xb < (j : Int); omega)))
                try rw [HX.out] at HRS
                clear hn2
                have ha6 : decide ((0 : Int) ≤ xa) = true := by simp; omega
                have ha7 : decide (xa < (j : Int)) = false := by simp; omega
                have ha8 : (0 : Int) ≤ xa := by omega
                obtain ⟨b, rfl⟩ := nat_of hb0
                have hb3 : b < r + 1 := by omega
                have hb4 : (b : Int) < ((r + 1 : Nat) : Int) := by omega
                have hb5 : (b : Int) < (r : Int) + 1 := by omega
                have hb6 : decide ((0 : Int) ≤ (b : Int)) = true := by simp
                have hb7 : decide ((b : Int) < (j : Int)) = true := by simp; omega
                have hb8 : (0 : Int) ≤ (b : Int) := by omega
                have hb9 : (b : Int) < (j : Int) := by omega
                have HA3 := Lib.hid hAr
                have HO3 := HO
                have hA4 := HA3.out.put1 b true (by simp [HU.out]; omega)
                have hcb := HA3.out.cellB b (by simp [HU.out]; omega)
                have hf4 := HA3.out.frozen b
                have G0 := hA4.2.keeps c0
                have G1 := hA4.2.keeps c1
                have G2 := hA4.2.keeps c2
                have G3 := hA4.2.keeps c3
                have HA4 := Lib.hid hA4
                have HO4 := Lib.hid (HO3.out.put b (.bool true))
                clear hA4
                clear hAr
                go_wp2_with fail
                refine (HAR.out _).mono ?_; rintro e w2 ⟨rfl, rfl⟩
                go_wp2_with fail
                go_roundw
                case rel => exact ⟨j, _, _, cs, by omega, rfl, by go_num, (by simp [HU.out]), HA4.out, by have := HRD.out; rw [rdn, HRS.out] at this; exact this, HO4.out, crm_no HCM.out (.inr HOP.out)⟩
                case measure => simp [intOf]; try omega
            · rcases (show xb < 0 ∨ (0 ≤ xb ∧ (j : Int) ≤ xb) ∨ (0 ≤ xb ∧ xb < (j : Int)) by omega) with hb0 | ⟨hb0, hb1⟩ | ⟨hb0, hb1⟩
              · have HRS := Lib.hid (rst_tf l j u HB.out (by rw [HX.out]; exact lgA_mk (by show 1 ≤ ari xop; omega) (by show 0 ≤ xa; omega) (by show xa < (j : Int); omega)) (by rw [HX.out]; exact lgB_no1 (.inl (by show xb < 0; omega))))
                try rw [HX.out] at HRS
                clear hn2
                obtain ⟨a, rfl⟩ := nat_of ha0
                have ha3 : a < r + 1 := by omega
                have ha4 : (a : Int) < ((r + 1 : Nat) : Int) := by omega
                have ha5 : (a : Int) < (r : Int) + 1 := by omega
                have ha6 : decide ((0 : Int) ≤ (a : Int)) = true := by simp
                have ha7 : decide ((a : Int) < (j : Int)) = true := by simp; omega
                have ha8 : (0 : Int) ≤ (a : Int) := by omega
                have ha9 : (a : Int) < (j : Int) := by omega
                have hb6 : decide ((0 : Int) ≤ xb) = false := by simp; omega
                have hA3 := hAr.put1 a true (by rw [HU.out]; exact ha3)
                have hca := hAr.cellB a (by rw [HU.out]; exact ha3)
                have hf3 := hAr.frozen a
                have F0 := hA3.2.keeps c0
                have F1 := hA3.2.keeps c1
                have F2 := hA3.2.keeps c2
                have F3 := hA3.2.keeps c3
                have HA3 := Lib.hid hA3
                have HO3 := Lib.hid (HO.out.put a (.bool true))
                clear hA3
                have HA4 := HA3
                have HO4 := HO3
                clear hAr
                go_wp2_with fail
                refine (HAR.out _).mono ?_; rintro e w2 ⟨rfl, rfl⟩
                go_wp2_with fail
                go_roundw
                case rel => exact ⟨j, _, _, cs, by omega, rfl, by go_num, (by simp [HU.out]), HA4.out, by have := HRD.out; rw [rdn, HRS.out] at this; exact this, HO4.out, crm_no HCM.out (.inr HOP.out)⟩
                case measure => simp [intOf]; try omega
              · have HRS := Lib.hid (rst_tf l j u HB.out (by rw [HX.out]; exact lgA_mk (by show 1 ≤ ari xop; omega) (by show 0 ≤ xa; omega) (by show xa < (j : Int); omega)) (by rw [HX.out]; exact lgB_no1 (.inr (by show (j : Int) ≤ xb; omega))))
                try rw [HX.out] at HRS
                clear hn2
                obtain ⟨a, rfl⟩ := nat_of ha0
                have ha3 : a < r + 1 := by omega
                have ha4 : (a : Int) < ((r + 1 : Nat) : Int) := by omega
                have ha5 : (a : Int) < (r : Int) + 1 := by omega
                have ha6 : decide ((0 : Int) ≤ (a : Int)) = true := by simp
                have ha7 : decide ((a : Int) < (j : Int)) = true := by simp; omega
                have ha8 : (0 : Int) ≤ (a : Int) := by omega
                have ha9 : (a : Int) < (j : Int) := by omega
                have hb6 : decide ((0 : Int) ≤ xb) = true := by simp; omega
                have hb7 : decide (xb < (j : Int)) = false := by simp; omega
                have hb8 : (0 : Int) ≤ xb := by omega
                have hA3 := hAr.put1 a true (by rw [HU.out]; exact ha3)
                have hca := hAr.cellB a (by rw [HU.out]; exact ha3)
                have hf3 := hAr.frozen a
                have F0 := hA3.2.keeps c0
                have F1 := hA3.2.keeps c1
                have F2 := hA3.2.keeps c2
                have F3 := hA3.2.keeps c3
                have HA3 := Lib.hid hA3
                have HO3 := Lib.hid (HO.out.put a (.bool true))
                clear hA3
                have HA4 := HA3
                have HO4 := HO3
                clear hAr
                go_wp2_with fail
                refine (HAR.out _).mono ?_; rintro e w2 ⟨rfl, rfl⟩
                go_wp2_with fail
                go_roundw
                case rel => exact ⟨j, _, _, cs, by omega, rfl, by go_num, (by simp [HU.out]), HA4.out, by have := HRD.out; rw [rdn, HRS.out] at this; exact this, HO4.out, crm_no HCM.out (.inr HOP.out)⟩
                case measure => simp [intOf]; try omega
              · have HRS := Lib.hid (rst_tt l j u HB.out (by rw [HX.out]; exact lgA_mk (by show 1 ≤ ari xop; omega) (by show 0 ≤ xa; omega) (by show xa < (j : Int); omega)) (by rw [HX.out]; exact lgB_mk (by show ari xop = 2; omega) (by show 0 ≤ xb; omega) (by show xb < (j : Int); omega)))
                try rw [HX.out] at HRS
                clear hn2
                obtain ⟨a, rfl⟩ := nat_of ha0
                have ha3 : a < r + 1 := by omega
                have ha4 : (a : Int) < ((r + 1 : Nat) : Int) := by omega
                have ha5 : (a : Int) < (r : Int) + 1 := by omega
                have ha6 : decide ((0 : Int) ≤ (a : Int)) = true := by simp
                have ha7 : decide ((a : Int) < (j : Int)) = true := by simp; omega
                have ha8 : (0 : Int) ≤ (a : Int) := by omega
                have ha9 : (a : Int) < (j : Int) := by omega
                obtain ⟨b, rfl⟩ := nat_of hb0
                have hb3 : b < r + 1 := by omega
                have hb4 : (b : Int) < ((r + 1 : Nat) : Int) := by omega
                have hb5 : (b : Int) < (r : Int) + 1 := by omega
                have hb6 : decide ((0 : Int) ≤ (b : Int)) = true := by simp
                have hb7 : decide ((b : Int) < (j : Int)) = true := by simp; omega
                have hb8 : (0 : Int) ≤ (b : Int) := by omega
                have hb9 : (b : Int) < (j : Int) := by omega
                have hA3 := hAr.put1 a true (by rw [HU.out]; exact ha3)
                have hca := hAr.cellB a (by rw [HU.out]; exact ha3)
                have hf3 := hAr.frozen a
                have F0 := hA3.2.keeps c0
                have F1 := hA3.2.keeps c1
                have F2 := hA3.2.keeps c2
                have F3 := hA3.2.keeps c3
                have HA3 := Lib.hid hA3
                have HO3 := Lib.hid (HO.out.put a (.bool true))
                clear hA3
                have hA4 := HA3.out.put1 b true (by simp [HU.out]; omega)
                have hcb := HA3.out.cellB b (by simp [HU.out]; omega)
                have hf4 := HA3.out.frozen b
                have G0 := hA4.2.keeps c0
                have G1 := hA4.2.keeps c1
                have G2 := hA4.2.keeps c2
                have G3 := hA4.2.keeps c3
                have HA4 := Lib.hid hA4
                have HO4 := Lib.hid (HO3.out.put b (.bool true))
                clear hA4
                clear hAr
                go_wp2_with fail
                refine (HAR.out _).mono ?_; rintro e w2 ⟨rfl, rfl⟩
                go_wp2_with fail
                go_roundw
                case rel => exact ⟨j, _, _, cs, by omega, rfl, by go_num, (by simp [HU.out]), HA4.out, by have := HRD.out; rw [rdn, HRS.out] at this; exact this, HO4.out, crm_no HCM.out (.inr HOP.out)⟩
                case measure => simp [intOf]; try omega
end Go.Proofs.Ytdamlnfjhpmpmaa
