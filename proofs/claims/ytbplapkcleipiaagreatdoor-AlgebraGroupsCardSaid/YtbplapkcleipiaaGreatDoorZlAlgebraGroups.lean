/- The law AlgebraGroups. -/
import Derived.Test.YtbplapkcleipiaaGreatDoorZx1
namespace Go.Proofs.YtbplapkcleipiaaGreatDoor
open Go.ChangeShapes Go.WideShapes Go.ChangeAt Go.RowKit

theorem gx_good (c : Int) : GoodX 10 (gx c) := fun x hx => by
  simp only [gx, List.mem_cons, List.not_mem_nil, or_false] at hx
  rcases hx with rfl | rfl <;> exact good_nul 10
theorem RdN.of {w : World} {v : Value} {qs : List NdP} (h1 : RdG w v qs) (h2 : ∀ q ∈ qs, RdNd w q) : RdN w v (qs.map NdP.n) := ⟨qs, h1, h2, rfl⟩
set_option maxHeartbeats 16000000 in
set_option maxRecDepth 100000 in
theorem law_AlgebraGroups (l1 : List Five) (n : Int) (v1 : Value) (w : World) (hG : PT w) (h1 : RdG w v1 l1) (ok1 : ∀ x ∈ l1, x.ok) (n0 : 0 ≤ n) :
    Calls Tryz.prog 7 #[v1, .int .u8 n] w fun e w' => e = .returned (.bool true) ∧ Ext w w' := by
  have HR1 := Lib.hid (rows_law 12 (by omega) l1 v1 w h1 ok1)
  have HG := Lib.hid hG
  obtain ⟨c, hc⟩ : ∃ c : Int, c = n % 2 := ⟨_, rfl⟩
  have hc2 : c = 0 ∨ c = 1 := by omega
  have hm1 : Int.tmod n 2 = c := by rw [Int.tmod_eq_emod_of_nonneg n0]; exact hc.symm
  have hm2 := hc.symm
  have hwk : IntKind.u8.wrap c = c := by simp only [IntKind.wrap, IntKind.bits, IntKind.signed]; simp; omega
  have hwk2 : IntKind.i64.wrap c = c := wrapI c (by omega) (by omega)
  obtain ⟨a1, c1, rfl, _, _⟩ := h1.shape
  clear h1 ok1 hG hc
  go_enter Tryz.func7, Tryz.ntmps7
  go_wp2_with fail
  refine HR1.out.mono ?_; rintro e w1 ⟨x1, ps, rfl, p1, p2, p3, p4, hE1⟩
  have HP := Lib.hid p1
  have HPA := Lib.hid p2
  have HP3 := Lib.hid p3
  have HP4 := Lib.hid p4
  have HE1 := Lib.hid hE1
  obtain ⟨xa, xc, rfl, _, _⟩ := p1.shape
  clear p1 p2 p3 p4 hE1
  obtain ⟨B1, hB1⟩ : ∃ B, B = w1.alloc (.cells #[.int .i64 0] 3) := ⟨_, rfl⟩
  have hs1 : B1.heap.size = w1.heap.size + 1 := by rw [hB1, alsz]
  have hx1 : Ext w1 B1 := by rw [hB1]; exact (Ext.refl _).alloc _ _
  obtain ⟨B2, hB2⟩ : ∃ B, B = B1.alloc (.cells #[.int .i64 1, .int .i64 0] 62) := ⟨_, rfl⟩
  have hs2 : B2.heap.size = w1.heap.size + 1 + 1 := by rw [hB2, alsz, hs1]
  have hx2 : Ext B1 B2 := by rw [hB2]; exact (Ext.refl _).alloc _ _
  obtain ⟨B3, hB3⟩ : ∃ B, B = B2.alloc (.cells #[.int .i64 1] 3) := ⟨_, rfl⟩
  have hs3 : B3.heap.size = w1.heap.size + 1 + 1 + 1 := by rw [hB3, alsz, hs2]
  have hx3 : Ext B2 B3 := by rw [hB3]; exact (Ext.refl _).alloc _ _
  obtain ⟨B4, hB4⟩ : ∃ B, B = B3.alloc (.cells #[.int .i64 1, .int .i64 0] 62) := ⟨_, rfl⟩
  have hs4 : B4.heap.size = w1.heap.size + 1 + 1 + 1 + 1 := by rw [hB4, alsz, hs3]
  have hx4 : Ext B3 B4 := by rw [hB4]; exact (Ext.refl _).alloc _ _
  obtain ⟨B5, hB5⟩ : ∃ B, B = B4.alloc (.cells #[.int .i64 1, .int .i64 0, .int .i64 0, .int .i64 0, sv [114], .slice none 0 0, .slice none 0 0, .int .i64 10, .int .i64 0, .int .i64 0, .int .i64 0, sv [], .slice (some ⟨w1.heap.size, 0, none⟩) 1 1, .slice (some ⟨w1.heap.size + 1, 0, none⟩) 1 1, .int .i64 10, .int .i64 1, .int .i64 0, .int .i64 0, sv [], .slice (some ⟨w1.heap.size + 1 + 1, 0, none⟩) 1 1, .slice (some ⟨w1.heap.size + 1 + 1 + 1, 0, none⟩) 1 1] 45) := ⟨_, rfl⟩
  have hs5 : B5.heap.size = w1.heap.size + 1 + 1 + 1 + 1 + 1 := by rw [hB5, alsz, hs4]
  have hx5 : Ext B4 B5 := by rw [hB5]; exact (Ext.refl _).alloc _ _
  obtain ⟨B6, hB6⟩ : ∃ B, B = B5.alloc (.cells #[.int .i64 2, .int .i64 0, .int .i64 0, .int .i64 c, .int .i64 0, .int .i64 0, sv [], .int .i64 2, .int .i64 0, .int .i64 0, .int .i64 0, .int .i64 0, .int .i64 0, sv []] 64) := ⟨_, rfl⟩
  have hs6 : B6.heap.size = w1.heap.size + 1 + 1 + 1 + 1 + 1 + 1 := by rw [hB6, alsz, hs5]
  have hx6 : Ext B5 B6 := by rw [hB6]; exact (Ext.refl _).alloc _ _
  obtain ⟨B7, hB7⟩ : ∃ B, B = B6.alloc (.cells #[.slice (some ⟨w1.heap.size + 1 + 1 + 1 + 1, 0, none⟩) 3 3, .slice (some ⟨w1.heap.size + 1 + 1 + 1 + 1 + 1, 0, none⟩) 2 2] 26) := ⟨_, rfl⟩
  have hs7 : B7.heap.size = w1.heap.size + 1 + 1 + 1 + 1 + 1 + 1 + 1 := by rw [hB7, alsz, hs6]
  have hx7 : Ext B6 B7 := by rw [hB7]; exact (Ext.refl _).alloc _ _
  have hX : B7 = ((((((w1.alloc (.cells #[.int .i64 0] 3)).alloc (.cells #[.int .i64 1, .int .i64 0] 62)).alloc (.cells #[.int .i64 1] 3)).alloc (.cells #[.int .i64 1, .int .i64 0] 62)).alloc (.cells #[.int .i64 1, .int .i64 0, .int .i64 0, .int .i64 0, sv [114], .slice none 0 0, .slice none 0 0, .int .i64 10, .int .i64 0, .int .i64 0, .int .i64 0, sv [], .slice (some ⟨w1.heap.size, 0, none⟩) 1 1, .slice (some ⟨w1.heap.size + 1, 0, none⟩) 1 1, .int .i64 10, .int .i64 1, .int .i64 0, .int .i64 0, sv [], .slice (some ⟨w1.heap.size + 1 + 1, 0, none⟩) 1 1, .slice (some ⟨w1.heap.size + 1 + 1 + 1, 0, none⟩) 1 1] 45)).alloc (.cells #[.int .i64 2, .int .i64 0, .int .i64 0, .int .i64 c, .int .i64 0, .int .i64 0, sv [], .int .i64 2, .int .i64 0, .int .i64 0, .int .i64 0, .int .i64 0, .int .i64 0, sv []] 64)).alloc (.cells #[.slice (some ⟨w1.heap.size + 1 + 1 + 1 + 1, 0, none⟩) 3 3, .slice (some ⟨w1.heap.size + 1 + 1 + 1 + 1 + 1, 0, none⟩) 2 2] 26) := by rw [hB7, hB6, hB5, hB4, hB3, hB2, hB1]
  have HXE := Lib.hid hX
  have EXB := Lib.hid (show Ext w1 B7 from hx1.trans (hx2.trans (hx3.trans (hx4.trans (hx5.trans (hx6.trans hx7))))))
  have HND := Lib.hid (show RdG B7 (.slice (some ⟨w1.heap.size + 1 + 1 + 1 + 1, 0, none⟩) 3 3) ([⟨hd0, ⟨1, 0, 0, 0, [114], [], []⟩⟩, ⟨⟨some ⟨w1.heap.size, 0, none⟩, 1, 1, some ⟨w1.heap.size + 1, 0, none⟩, 1, 1⟩, ⟨10, 0, 0, 0, [], [0], [(1, 0)]⟩⟩, ⟨⟨some ⟨w1.heap.size + 1 + 1, 0, none⟩, 1, 1, some ⟨w1.heap.size + 1 + 1 + 1, 0, none⟩, 1, 1⟩, ⟨10, 1, 0, 0, [], [1], [(1, 0)]⟩⟩] : List NdP) by
    have h := rd_litG B4 ([⟨hd0, ⟨1, 0, 0, 0, [114], [], []⟩⟩, ⟨⟨some ⟨w1.heap.size, 0, none⟩, 1, 1, some ⟨w1.heap.size + 1, 0, none⟩, 1, 1⟩, ⟨10, 0, 0, 0, [], [0], [(1, 0)]⟩⟩, ⟨⟨some ⟨w1.heap.size + 1 + 1, 0, none⟩, 1, 1, some ⟨w1.heap.size + 1 + 1 + 1, 0, none⟩, 1, 1⟩, ⟨10, 1, 0, 0, [], [1], [(1, 0)]⟩⟩] : List NdP) #[.int .i64 1, .int .i64 0, .int .i64 0, .int .i64 0, sv [114], .slice none 0 0, .slice none 0 0, .int .i64 10, .int .i64 0, .int .i64 0, .int .i64 0, sv [], .slice (some ⟨w1.heap.size, 0, none⟩) 1 1, .slice (some ⟨w1.heap.size + 1, 0, none⟩) 1 1, .int .i64 10, .int .i64 1, .int .i64 0, .int .i64 0, sv [], .slice (some ⟨w1.heap.size + 1 + 1, 0, none⟩) 1 1, .slice (some ⟨w1.heap.size + 1 + 1 + 1, 0, none⟩) 1 1] 45 (w1.heap.size + 1 + 1 + 1 + 1) 3 (by rw [hs4]) rfl (by simp) rfl
    rw [← hB5] at h
    exact h.ext (hx6.trans hx7))
  have HNS := Lib.hid (show ∀ q ∈ ([⟨hd0, ⟨1, 0, 0, 0, [114], [], []⟩⟩, ⟨⟨some ⟨w1.heap.size, 0, none⟩, 1, 1, some ⟨w1.heap.size + 1, 0, none⟩, 1, 1⟩, ⟨10, 0, 0, 0, [], [0], [(1, 0)]⟩⟩, ⟨⟨some ⟨w1.heap.size + 1 + 1, 0, none⟩, 1, 1, some ⟨w1.heap.size + 1 + 1 + 1, 0, none⟩, 1, 1⟩, ⟨10, 1, 0, 0, [], [1], [(1, 0)]⟩⟩] : List NdP), RdNd B7 q from fun q hq => by
    have i1 := rd_litG w1 ([0] : List Int) #[.int .i64 0] 3 (w1.heap.size) 1 rfl rfl (by simp) rfl
    have i2 := rd_litG B1 ([(1, 0)] : List (Int × Int)) #[.int .i64 1, .int .i64 0] 62 (w1.heap.size + 1) 1 (by rw [hs1]) rfl (by simp) rfl
    have i3 := rd_litG B2 ([1] : List Int) #[.int .i64 1] 3 (w1.heap.size + 1 + 1) 1 (by rw [hs2]) rfl (by simp) rfl
    have i4 := rd_litG B3 ([(1, 0)] : List (Int × Int)) #[.int .i64 1, .int .i64 0] 62 (w1.heap.size + 1 + 1 + 1) 1 (by rw [hs3]) rfl (by simp) rfl
    rw [← hB1] at i1
    rw [← hB2] at i2
    rw [← hB3] at i3
    rw [← hB4] at i4
    simp only [List.mem_cons, List.not_mem_nil, or_false] at hq
    rcases hq with rfl | rfl | rfl
    · exact ⟨rdG_nil _, rdG_nil _⟩
    · exact ⟨i1.ext (hx2.trans (hx3.trans (hx4.trans (hx5.trans (hx6.trans hx7))))), i2.ext (hx3.trans (hx4.trans (hx5.trans (hx6.trans hx7))))⟩
    · exact ⟨i3.ext (hx4.trans (hx5.trans (hx6.trans hx7))), i4.ext (hx5.trans (hx6.trans hx7))⟩)
  have HN2 := Lib.hid (show RdN B7 (.slice (some ⟨w1.heap.size + 1 + 1 + 1 + 1, 0, none⟩) 3 3) gq2 from RdN.of HND.out HNS.out)
  have HN1 := Lib.hid (show RdN B7 (.slice (some ⟨w1.heap.size + 1 + 1 + 1 + 1, 0, none⟩) 2 3) gq1 from RdN.of (HND.out.take 2 (by simp)) fun q hq => HNS.out q (List.mem_of_mem_take hq))
  have HLX := Lib.hid (show RdG B7 (.slice (some ⟨w1.heap.size + 1 + 1 + 1 + 1 + 1, 0, none⟩) 2 2) (gx c) by
    have h := rd_litG B5 (gx c) #[.int .i64 2, .int .i64 0, .int .i64 0, .int .i64 c, .int .i64 0, .int .i64 0, sv [], .int .i64 2, .int .i64 0, .int .i64 0, .int .i64 0, .int .i64 0, .int .i64 0, sv []] 64 (w1.heap.size + 1 + 1 + 1 + 1 + 1) 2 (by rw [hs5]) rfl (by simp [gx]) rfl
    rw [← hB6] at h
    exact h.ext hx7)
  have q0 : B7.cell? ⟨w1.heap.size + 1 + 1 + 1 + 1 + 1 + 1, 0, none⟩ = some (.slice (some ⟨w1.heap.size + 1 + 1 + 1 + 1, 0, none⟩) 3 3) := by
    have h := al0 B6 (.slice (some ⟨w1.heap.size + 1 + 1 + 1 + 1, 0, none⟩) 3 3) (.slice (some ⟨w1.heap.size + 1 + 1 + 1 + 1 + 1, 0, none⟩) 2 2) 26
    rw [hs6, ← hB7] at h; exact h
  have q1 : B7.cell? ⟨w1.heap.size + 1 + 1 + 1 + 1 + 1 + 1, 1, none⟩ = some (.slice (some ⟨w1.heap.size + 1 + 1 + 1 + 1 + 1, 0, none⟩) 2 2) := by
    have h := al1 B6 (.slice (some ⟨w1.heap.size + 1 + 1 + 1 + 1, 0, none⟩) 3 3) (.slice (some ⟨w1.heap.size + 1 + 1 + 1 + 1 + 1, 0, none⟩) 2 2) 26
    rw [hs6, ← hB7] at h; exact h
  have Q0 := Lib.hid q0
  have Q1 := Lib.hid q1
  have HS7 := Lib.hid hs7
  clear hX hB1 hB2 hB3 hB4 hB5 hB6 hB7 hx1 hx2 hx3 hx4 hx5 hx6 hx7 hs1 hs2 hs3 hs4 hs5 hs6 hs7 q0 q1
  go_wp2_with fail
  rw [← HXE.out]
  clear HXE
  go_region_held3 (fun w' => w'.cell? ⟨w1.heap.size + 1 + 1 + 1 + 1 + 1 + 1, 0, none⟩ = some (.slice (some ⟨w1.heap.size + 1 + 1 + 1 + 1, 0, none⟩) 3 3) ∧ w'.cell? ⟨w1.heap.size + 1 + 1 + 1 + 1 + 1 + 1, 1, none⟩ = some (.slice (some ⟨w1.heap.size + 1 + 1 + 1 + 1 + 1, 0, none⟩) 2 2)) (first | exact ⟨Q0.out, Q1.out⟩ | exact ⟨((Ext.refl B7).alloc _ _).keeps Q0.out, ((Ext.refl B7).alloc _ _).keeps Q1.out⟩ | go_keep) (fail)
  all_goals
    have r0 : (B7.alloc (.cells #[.slice (some ⟨w1.heap.size + 1 + 1 + 1 + 1, 0, none⟩) 2 3, .slice (some ⟨w1.heap.size + 1 + 1 + 1 + 1 + 1, 0, none⟩) 2 2] 26)).drew.cell? ⟨B7.heap.size, 0, none⟩ = some (.slice (some ⟨w1.heap.size + 1 + 1 + 1 + 1, 0, none⟩) 2 3) := al0 _ _ _ _
    have r1 : (B7.alloc (.cells #[.slice (some ⟨w1.heap.size + 1 + 1 + 1 + 1, 0, none⟩) 2 3, .slice (some ⟨w1.heap.size + 1 + 1 + 1 + 1 + 1, 0, none⟩) 2 2] 26)).drew.cell? ⟨B7.heap.size, 1, none⟩ = some (.slice (some ⟨w1.heap.size + 1 + 1 + 1 + 1 + 1, 0, none⟩) 2 2) := al1 _ _ _ _
    have ex8 : Ext B7 (B7.alloc (.cells #[.slice (some ⟨w1.heap.size + 1 + 1 + 1 + 1, 0, none⟩) 2 3, .slice (some ⟨w1.heap.size + 1 + 1 + 1 + 1 + 1, 0, none⟩) 2 2] 26)).drew := ((Ext.refl _).alloc _ _).drew
    generalize (B7.alloc (.cells #[.slice (some ⟨w1.heap.size + 1 + 1 + 1 + 1, 0, none⟩) 2 3, .slice (some ⟨w1.heap.size + 1 + 1 + 1 + 1 + 1, 0, none⟩) 2 2] 26)).drew = W8 at r0 r1 ex8 ⊢
    have EX8 := Lib.hid ex8
    have HRDB := Lib.hid (fun w' (hE : Ext B7 w') => rowdb_prg (rows ps) [] _ (.slice none 0 0) w' (rdR_of (HP.out.ext (EXB.out.trans hE)) (fun p hp => (HPA.out p hp).ext (EXB.out.trans hE))) (rdR_nil UU w'))
    have HXL := Lib.hid (show (rows ps).length ≤ 4096 by rw [rows_len]; have := HP3.out; omega)
    clear ex8
    have kA0 := r0
    have kA1 := r1
    have KA0 := Lib.hid kA0
    have KA1 := Lib.hid kA1
    have HEVA := Lib.hid (fun (w' : World) (vd : Value) (hE : Ext B7 w') (hd : RdB9 UU w' vd (dbs (rows ps) [])) => (evQ_prg UU 10 Z5 (gx c) gq1 (dbs (rows ps) []) _ _ vd w' (HN1.out.ext hE) (HLX.out.ext hE) hd (up_UU _) (HG.out.ext (HE1.out.trans (EXB.out.trans hE))) (gx_good c) (by omega) (by simp [Z5]) (dbs_bd (gd_rows HP4.out) (fun r hr => by cases hr)) (fun n hn => by simp only [gq1, List.mem_cons, List.not_mem_nil, or_false] at hn; rcases hn with rfl | rfl <;> simp) (by simp [dbs])).mono (R' := SoP (G1 c (rows ps)) w') fun _ _ h => ev_so h (g_ev1 c hc2 (rows ps) HXL.out))
    clear kA0 kA1
    go_wp2_with fail
    go_region_held3 (fun w' => w'.cell? ⟨B7.heap.size, 0, none⟩ = some (.slice (some ⟨w1.heap.size + 1 + 1 + 1 + 1, 0, none⟩) 2 3) ∧ w'.cell? ⟨B7.heap.size, 1, none⟩ = some (.slice (some ⟨w1.heap.size + 1 + 1 + 1 + 1 + 1, 0, none⟩) 2 2)) (first | exact ⟨KA0.out, KA1.out⟩ | exact ⟨fA0, fA1⟩ | exact ⟨gA0, gA1⟩ | go_keep)
      (first
        | (go_at_call 13; refine (HRDB.out _ ?e).mono ?_; (case e => first | exact EX8.out | exact EX8.out.drew); rintro e wa ⟨vdA, rfl, hdA, hE'⟩; have hEA : Ext W8 wa := (by first | exact hE' | exact (Ext.refl _).drew.trans hE'); obtain ⟨daA, dcA, rfl, _, _⟩ := hdA.shape; have fA0 := hEA.keeps KA0.out; have fA1 := hEA.keeps KA1.out; have HDA := Lib.hid hdA; have HEdA := Lib.hid (EX8.out.trans hEA); have HEeA := Lib.hid hEA; clear hE' hdA hEA)
        | (go_at_call 12; refine (HEVA.out _ _ ?e1 ?e2).mono ?_; (case e1 => exact HEdA.out); (case e2 => exact HDA.out); rintro e wb ⟨aA, cA, rAs, rfl, rA1, rA2, rA3, hE'⟩; have gA0 := hE'.keeps fA0; have gA1 := hE'.keeps fA1; have HRA := Lib.hid rA1; have HAA := Lib.hid rA2; have HSA := Lib.hid rA3; have HEA := Lib.hid (HEdA.out.trans hE'); have HEfA := Lib.hid (HEeA.out.trans hE'); clear hE' rA1 rA2 rA3))
    have kB0 := HEA.out.keeps Q0.out
    have kB1 := HEA.out.keeps Q1.out
    have KB0 := Lib.hid kB0
    have KB1 := Lib.hid kB1
    have HEVB := Lib.hid (fun (w' : World) (vd : Value) (hE : Ext B7 w') (hd : RdB9 UU w' vd (dbs (rows ps) [])) => (evQ_prg UU 10 Z5 (gx c) gq2 (dbs (rows ps) []) _ _ vd w' (HN2.out.ext hE) (HLX.out.ext hE) hd (up_UU _) (HG.out.ext (HE1.out.trans (EXB.out.trans hE))) (gx_good c) (by omega) (by simp [Z5]) (dbs_bd (gd_rows HP4.out) (fun r hr => by cases hr)) (fun n hn => by simp only [gq2, List.mem_cons, List.not_mem_nil, or_false] at hn; rcases hn with rfl | rfl | rfl <;> simp) (by simp [dbs])).mono (R' := SoP (G2 c (rows ps)) w') fun _ _ h => ev_so h (g_ev2 c hc2 (rows ps) HXL.out))
    clear kB0 kB1
    go_wp2_with fail
    go_region_held3 (fun w' => w'.cell? ⟨w1.heap.size + 1 + 1 + 1 + 1 + 1 + 1, 0, none⟩ = some (.slice (some ⟨w1.heap.size + 1 + 1 + 1 + 1, 0, none⟩) 3 3) ∧ w'.cell? ⟨w1.heap.size + 1 + 1 + 1 + 1 + 1 + 1, 1, none⟩ = some (.slice (some ⟨w1.heap.size + 1 + 1 + 1 + 1 + 1, 0, none⟩) 2 2)) (first | exact ⟨KB0.out, KB1.out⟩ | exact ⟨fB0, fB1⟩ | exact ⟨gB0, gB1⟩ | go_keep)
      (first
        | (go_at_call 13; refine (HRDB.out _ ?e).mono ?_; (case e => first | exact HEA.out | exact HEA.out.drew); rintro e wc ⟨vdB, rfl, hdB, hE'⟩; have hEB : Ext wb wc := (by first | exact hE' | exact (Ext.refl _).drew.trans hE'); obtain ⟨daB, dcB, rfl, _, _⟩ := hdB.shape; have fB0 := hEB.keeps KB0.out; have fB1 := hEB.keeps KB1.out; have HDB := Lib.hid hdB; have HEdB := Lib.hid (HEA.out.trans hEB); have HEeB := Lib.hid hEB; clear hE' hdB hEB)
        | (go_at_call 12; refine (HEVB.out _ _ ?e1 ?e2).mono ?_; (case e1 => exact HEdB.out); (case e2 => exact HDB.out); rintro e wd ⟨aB, cB, rBs, rfl, rB1, rB2, rB3, hE'⟩; have gB0 := hE'.keeps fB0; have gB1 := hE'.keeps fB1; have HRB := Lib.hid rB1; have HAB := Lib.hid rB2; have HSB := Lib.hid rB3; have HEB := Lib.hid (HEdB.out.trans hE'); have HEfB := Lib.hid (HEeB.out.trans hE'); clear hE' rB1 rB2 rB3))
    have HRA2 := Lib.hid (HRA.out.ext HEfB.out)
    have HAA2 := Lib.hid (show RdAll wd rAs from fun p hp => (HAA.out p hp).ext HEfB.out)
    have HGS := Lib.hid (show gsum (rows rAs) = ps.length by rw [HSA.out, gsum_perm (sortR_perm _), g1_sum, rows_len])
    have HWA := Lib.hid (show ∀ p ∈ rAs, ∃ (u : V) (m : Nat), p.r.v = [u, ⟨1, (m : Int), []⟩] from fun p hp => by
      have hm : p.r ∈ rows rAs := List.mem_map_of_mem hp
      rw [HSA.out] at hm
      exact g1_row ((sortR_perm _).mem_iff.1 hm))
    have HWB := Lib.hid (show ∀ p ∈ rBs, ∃ u : V, p.r.v = [u, ⟨1, 1, []⟩] from fun p hp => by
      have hm : p.r ∈ rows rBs := List.mem_map_of_mem hp
      rw [HSB.out] at hm
      exact g2_row ((sortR_perm _).mem_iff.1 hm))
    have HLAB := Lib.hid (show rBs.length = rAs.length by
      have h := congrArg List.length HSA.out
      have h2 := congrArg List.length HSB.out
      rw [rows_len, sortR_len] at h h2
      rw [h, h2, g2_len])
    have HEW := Lib.hid (HE1.out.trans (EXB.out.trans HEB.out))
    obtain ⟨an, han⟩ : ∃ an, an = rAs.length := ⟨_, rfl⟩
    obtain ⟨bn, hbn⟩ : ∃ bn, bn = rBs.length := ⟨_, rfl⟩
    have HAN := Lib.hid han
    have HBN := Lib.hid hbn
    rw [← han] at HRA2 HLAB ⊢
    rw [← hbn] at HRB HLAB ⊢
    have hal : an ≤ 1000 := by
      have h := congrArg List.length HSA.out
      rw [rows_len, sortR_len] at h
      have h2 := cls_len (gf c 0) (rows ps)
      unfold G1 at h
      rw [List.length_map] at h
      rw [rows_len] at h2
      have := HP3.out; omega
    have hbl : bn ≤ 1000 := by have := HLAB.out; omega
    clear han hbn fA0 fA1 gA0 gA1 fB0 fB1 gB0 gB1
    go_wp2_with fail
    go_loopw [12, 62] (fun s i wr => ∃ k : Nat, k ≤ an ∧ i = .int .i64 k ∧ s = .int .i64 ((gsum ((rows rAs).take k) : Nat) : Int) ∧ Ext wd wr) (fun _ i _ => an - (intOf i).toNat)
    case atStart => exact ⟨0, Nat.zero_le _, rfl, rfl, Ext.refl _⟩
    case round =>
      obtain ⟨k, hk, rfl, rfl, hE⟩ := hrel
      by_cases hlt : k < an
      · have hlt' : k < rAs.length := by rw [← HAN.out]; exact hlt
        obtain ⟨g, o, rfl, d0', d1'⟩ := rd_P HRA2.out k hlt'
        have d0 := hE.keeps d0'
        have d1 := hE.keeps d1'
        clear d0' d1'
        have hst := gsum_step (rows rAs) k (by rw [rows_len]; exact hlt')
        have hle := gsum_le (rows rAs) (k + 1)
        rw [HGS.out] at hle
        rw [rows_at rAs k hlt'] at hst
        obtain ⟨u, m, hv⟩ := HWA.out rAs[k] (List.getElem_mem _)
        have hrd := HAA2.out rAs[k] (List.getElem_mem _)
        generalize rAs[k] = y at *
        obtain ⟨⟨ya, yn, yc, yb, ym, yd⟩, yr, yt⟩ := y
        simp only [Hd.x, Hd.y] at d0 d1 hst hv hrd
        subst hv
        have hx := hrd.1
        simp only [Hd.x] at hx
        obtain rfl : yn = 2 := hx.len.1
        obtain ⟨g2, o2, rfl, c0', c1', c2'⟩ := rdV3 hx 1 (by simp)
        simp only [List.getElem_cons_succ, List.getElem_cons_zero, Nat.one_mul] at c0' c1' c2'
        have c0 := hE.keeps c0'
        have c1 := hE.keeps c1'
        have c2 := hE.keeps c2'
        have c14 : wr.cell? ⟨g2, o2 + 4, none⟩ = some (.int .i64 (m : Int)) := c1
        have sg := World.block_lt_of_cell? _ _ c1
        have hcv : (cntV ⟨[u, ⟨1, (m : Int), []⟩], yt⟩).toNat = m := rfl
        rw [hcv] at hst
        rw [hst] at hle
        obtain ⟨p, hp⟩ : ∃ p, p = gsum ((rows rAs).take k) := ⟨_, rfl⟩
        rw [← hp] at hst hle ⊢
        have hle2 : p + m ≤ 12 := by have := HP3.out; omega
        have HST := Lib.hid hst
        have HL := Lib.hid hlt
        have HE := Lib.hid hE
        clear c0' c1' c2' hrd hx hst hle hp hcv hE
        go_wp2_with fail
        go_roundw
        case rel => exact ⟨k + 1, HL.out, by go_num, by rw [HST.out, Int.natCast_add], HE.out.alloc _ _⟩
        case measure => simp [intOf]; omega
      · have hke : (rows rAs).take k = rows rAs := List.take_of_length_le (by rw [rows_len]; have := HAN.out; omega)
        rw [hke, HGS.out]
        have HE2 := Lib.hid hE
        clear hke hE
        obtain ⟨we, rfl⟩ : ∃ x, x = wr := ⟨_, rfl⟩
        have HRB2 := Lib.hid (HRB.out.ext HE2.out)
        have HAB2 := Lib.hid (show RdAll we rBs from fun p hp => (HAB.out p hp).ext HE2.out)
        go_wp2_with fail
        go_loopw [80] (fun i wr => ∃ k : Nat, k ≤ bn ∧ i = .int .i64 k ∧ Ext we wr) (fun i _ => bn - (intOf i).toNat)
        case atStart => exact ⟨0, Nat.zero_le _, rfl, Ext.refl _⟩
        case round =>
          obtain ⟨k2, hk2, rfl, hE⟩ := hrel
          by_cases hlt2 : k2 < bn
          · have hlt' : k2 < rBs.length := by rw [← HBN.out]; exact hlt2
            obtain ⟨g, o, rfl, d0', d1'⟩ := rd_P HRB2.out k2 hlt'
            have d0 := hE.keeps d0'
            have d1 := hE.keeps d1'
            clear d0' d1'
            obtain ⟨u, hv⟩ := HWB.out rBs[k2] (List.getElem_mem _)
            have hrd := HAB2.out rBs[k2] (List.getElem_mem _)
            generalize rBs[k2] = y at *
            obtain ⟨⟨ya, yn, yc, yb, ym, yd⟩, yr, yt⟩ := y
            simp only [Hd.x, Hd.y] at d0 d1 hv hrd
            subst hv
            have hx := hrd.1
            simp only [Hd.x] at hx
            obtain rfl : yn = 2 := hx.len.1
            obtain ⟨g2, o2, rfl, c0', c1', c2'⟩ := rdV3 hx 1 (by simp)
            simp only [List.getElem_cons_succ, List.getElem_cons_zero, Nat.one_mul] at c0' c1' c2'
            have HB0 := Lib.hid (show Ext wr (wr.alloc (.cells #[.slice (some ⟨g2, o2, none⟩) 2 yc, .slice yb ym yd] 51)) from (Ext.refl _).alloc _ _)
            have C0 := Lib.hid (HB0.out.keeps (hE.keeps c0'))
            have C1 := Lib.hid (HB0.out.keeps (hE.keeps c1'))
            have C2 := Lib.hid (HB0.out.keeps (hE.keeps c2'))
            have K0 := Lib.hid (al0 wr (.slice (some ⟨g2, o2, none⟩) 2 yc) (.slice yb ym yd) 51)
            have HL := Lib.hid hlt2
            have HE := Lib.hid hE
            have HIV := Lib.hid (fun w => int_val 1 w)
            clear c0' c1' c2' hrd hx hE
            go_wp2_with fail
            go_region_held3 (fun w' => w'.cell? ⟨wr.heap.size, 0, none⟩ = some (.slice (some ⟨g2, o2, none⟩) 2 yc) ∧ w'.cell? ⟨g2, o2 + 3, none⟩ = some (.int .i64 1) ∧ w'.cell? ⟨g2, o2 + 3 + 1, none⟩ = some (.int .i64 1) ∧ w'.cell? ⟨g2, o2 + 3 + 2, none⟩ = some (sv [])) (first | exact ⟨K0.out, C0.out, C1.out, C2.out⟩ | exact ⟨f0, f1, f2, f3⟩ | go_keep)
              (first | (go_at_call 23; refine (HIV.out _).mono ?_; rintro e w8 ⟨rfl, hE8'⟩; have hE8 : Ext (wr.alloc (.cells #[.slice (some ⟨g2, o2, none⟩) 2 yc, .slice yb ym yd] 51)) w8 := (by first | exact hE8' | exact (Ext.refl _).drew.trans hE8'); have f0 := hE8.keeps K0.out; have f1 := hE8.keeps C0.out; have f2 := hE8.keeps C1.out; have f3 := hE8.keeps C2.out))
            all_goals
              go_wp2_with fail
              go_roundw
              case rel => exact ⟨k2 + 1, HL.out, by go_num, HE.out.trans (HB0.out.trans hE8)⟩
              case measure => simp [intOf]; omega
          · have HE3 := Lib.hid hE
            clear hE
            obtain ⟨wf, rfl⟩ : ∃ x, x = wr := ⟨_, rfl⟩
            obtain ⟨W9, hW9⟩ : ∃ W, W = wf.alloc (.cells #[.int .i64 1, .int .i64 0, .int .i64 0, .int .i64 0, sv [114], .slice none 0 0, .slice none 0 0, .int .i64 9, .int .i64 0, .int .i64 0, .int .i64 0, sv [], .slice none 0 0, .slice none 0 0] 45) := ⟨_, rfl⟩
            have EX9 := Lib.hid (show Ext wf W9 by rw [hW9]; exact (Ext.refl _).alloc _ _)
            have HN9 := Lib.hid (show RdN W9 (.slice (some ⟨wf.heap.size, 0, none⟩) 2 2) gq3 by
              refine RdN.of (qs := [⟨hd0, ⟨1, 0, 0, 0, [114], [], []⟩⟩, ⟨hd0, ⟨9, 0, 0, 0, [], [], []⟩⟩]) ?_ fun q hq => ?_
              · rw [hW9]; exact rd_litG wf ([⟨hd0, ⟨1, 0, 0, 0, [114], [], []⟩⟩, ⟨hd0, ⟨9, 0, 0, 0, [], [], []⟩⟩] : List NdP) #[.int .i64 1, .int .i64 0, .int .i64 0, .int .i64 0, sv [114], .slice none 0 0, .slice none 0 0, .int .i64 9, .int .i64 0, .int .i64 0, .int .i64 0, sv [], .slice none 0 0, .slice none 0 0] 45 _ 2 rfl rfl (by simp) rfl
              · simp only [List.mem_cons, List.not_mem_nil, or_false] at hq
                rcases hq with rfl | rfl <;> exact ⟨rdG_nil _, rdG_nil _⟩)
            have HE9 := Lib.hid (HEB.out.trans (HE2.out.trans (HE3.out.trans EX9.out)))
            have HW9 := Lib.hid hW9
            clear hW9
            go_wp2_with fail
            rw [← HW9.out]
            refine (HRDB.out _ HE9.out).mono ?_; rintro e wg ⟨vd, rfl, hd, hEg⟩
            have HD9 := Lib.hid hd
            have HEg := Lib.hid hEg
            obtain ⟨da, dc, rfl, _, _⟩ := hd.shape
            have HEV9 := Lib.hid ((evQ_prg UU 10 Z5 [] gq3 (dbs (rows ps) []) _ (.slice none 0 0) _ wg (HN9.out.ext HEg.out) (rdG_nil _) HD9.out (up_UU _) (HG.out.ext (HE1.out.trans (EXB.out.trans (HE9.out.trans HEg.out)))) (fun x hx => by cases hx) (by omega) (by simp [Z5]) (dbs_bd (gd_rows HP4.out) (fun r hr => by cases hr)) (fun n hn => by simp only [gq3, List.mem_cons, List.not_mem_nil, or_false] at hn; rcases hn with rfl | rfl <;> simp) (by simp [dbs])).mono (R' := SoP (D1 (rows ps)) wg) fun _ _ h => ev_so h (g_ev3 (rows ps) HXL.out))
            clear hd hEg
            go_wp2_with fail
            refine HEV9.out.mono ?_; rintro e wh ⟨aD, cD, ds, rfl, rD1, rD2, rD3, hEh⟩
            have HRD := Lib.hid rD1
            have HAD := Lib.hid rD2
            have HWD := Lib.hid (show ∀ p ∈ ds, cnt (rows ds) p.r.v = 1 ∧ 0 < cnt (rows ps) p.r.v from fun p hp => by
              have hm : p.r ∈ rows ds := List.mem_map_of_mem hp
              rw [rD3] at hm ⊢
              rw [cnt_perm (sortR_perm _)]
              exact d1_row ((sortR_perm _).mem_iff.1 hm))
            have HEH := Lib.hid (HE9.out.trans (HEg.out.trans hEh))
            obtain ⟨dn, hdn⟩ : ∃ dn, dn = ds.length := ⟨_, rfl⟩
            have HDN := Lib.hid hdn
            rw [← hdn] at HRD ⊢
            have hdl : dn ≤ 1000 := by
              have h := congrArg List.length rD3
              rw [rows_len, sortR_len] at h
              have h2 := cls_len R.v (rows ps)
              unfold D1 at h
              rw [List.length_map] at h
              rw [rows_len] at h2
              have := HP3.out; omega
            have HPH := Lib.hid (HP.out.ext (EXB.out.trans HEH.out))
            have HPAH := Lib.hid (show RdAll wh ps from fun p hp => (HPA.out p hp).ext (EXB.out.trans HEH.out))
            clear hdn rD1 rD2 rD3 hEh
            go_wp2_with fail
            go_loopw [109] (fun i wr => ∃ k : Nat, k ≤ dn ∧ i = .int .i64 k ∧ Ext wh wr) (fun i _ => dn - (intOf i).toNat)
            case atStart => exact ⟨0, Nat.zero_le _, rfl, Ext.refl _⟩
            case round =>
              obtain ⟨k3, hk3, rfl, hE⟩ := hrel
              by_cases hlt3 : k3 < dn
              · have hlt' : k3 < ds.length := by rw [← HDN.out]; exact hlt3
                obtain ⟨g, o, rfl, d0', d1'⟩ := rd_P HRD.out k3 hlt'
                have d0 := hE.keeps d0'
                have d1 := hE.keeps d1'
                clear d0' d1'
                obtain ⟨n1, n2⟩ := HWD.out ds[k3] (List.getElem_mem _)
                have hrd := HAD.out ds[k3] (List.getElem_mem _)
                generalize ds[k3] = y at *
                obtain ⟨⟨ya, yn, yc, yb, ym, yd⟩, yr⟩ := y
                simp only [Hd.x, Hd.y] at d0 d1 n1 n2 hrd
                have hv := hrd.1
                simp only [Hd.x] at hv
                have HMD := Lib.hid (fun w' (hE : Ext wh w') => mult_prg ds yr.v _ (.slice ya yn yc) w' (HRD.out.ext hE) (fun p hp => (HAD.out p hp).ext hE) (hv.ext hE))
                have HMX := Lib.hid (fun w' (hE : Ext wh w') => mult_prg ps yr.v _ (.slice ya yn yc) w' (HPH.out.ext hE) (fun p hp => (HPAH.out p hp).ext hE) (hv.ext hE))
                rw [n1] at HMD
                generalize cnt (rows ps) yr.v = cx at HMX n2
                have e0 : ((cx : Int) == 0) = false := by simp; omega
                have EX := Lib.hid (show Ext wh (wr.alloc (.cells #[.slice ya yn yc, .slice yb ym yd] 51)) from hE.alloc _ _)
                have K0 := Lib.hid (al0 wr (.slice ya yn yc) (.slice yb ym yd) 51)
                have HL := Lib.hid hlt3
                clear hrd hv n1 n2 hE
                go_wp2_with fail
                refine (HMD.out _ EX.out).mono ?_; rintro e y1 ⟨rfl, hY1⟩
                have f0 := hY1.keeps K0.out
                have HY1 := Lib.hid (EX.out.trans hY1)
                clear hY1
                go_wp2_with fail
                refine (HMX.out _ HY1.out).mono ?_; rintro e y2 ⟨rfl, hY2⟩
                have HY2 := Lib.hid (HY1.out.trans hY2)
                clear hY2
                go_wp2_with fail
                go_roundw
                case rel => exact ⟨k3 + 1, HL.out, by go_num, HY2.out⟩
                case measure => simp [intOf]; omega
              · have hEE := Lib.hid (HE1.out.trans (EXB.out.trans (HEH.out.trans hE)))
                have t1 : (an : Int) = (bn : Int) := by have := HLAB.out; omega
                clear hE
                go_wp2_with fail
                refine (awake_law _ (HG.out.ext hEE.out)).mono ?_; rintro e w10 ⟨rfl, hE10⟩
                have HE10 := Lib.hid hE10
                clear hE10
                go_wp2_with fail
                go_ret
                exact ⟨rfl, hEE.out.trans HE10.out⟩
end Go.Proofs.YtbplapkcleipiaaGreatDoor
