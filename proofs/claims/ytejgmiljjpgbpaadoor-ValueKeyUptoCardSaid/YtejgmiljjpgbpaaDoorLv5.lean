/- The law ValueKeySplit. -/
import Derived.Test.YtejgmiljjpgbpaaDoorLv1
namespace Go.Proofs.YtejgmiljjpgbpaaDoor
open Go.ChangeShapes Go.WideShapes Go.ChangeAt Go.RowKit

theorem rdV_lit2 (X : World) (u v : V) (n : Nat) (hn : X.heap.size = n) : RdV (X.alloc (.cells #[.int .i64 u.k, .int .i64 u.n, sv u.s, .int .i64 v.k, .int .i64 v.n, sv v.s] 23)) (.slice (some ⟨n, 0, none⟩) 2 2) [u, v] := by
  subst hn
  refine ⟨_, 2, rfl, Nat.le_refl _, (by unfold maxLen; omega), (fun h => by cases h), fun i hi => ⟨_, 0, rfl, ?_⟩⟩
  have : i = 0 ∨ i = 1 := by simp at hi; omega
  rcases this with rfl | rfl
  · refine ⟨?_, ?_, ?_⟩ <;> (rw [World.cell?, (MapKept.heap_alloc X _).1]; rfl)
  · refine ⟨?_, ?_, ?_⟩ <;> (rw [World.cell?, (MapKept.heap_alloc X _).1]; rfl)
theorem okL_two (s t : List UInt8) : OkL [⟨2, 0, s⟩, ⟨2, 0, t⟩] := by
  intro i h
  have : i = 0 ∨ i = 1 := by simp at h; omega
  rcases this with rfl | rfl <;> simp
theorem itoa_len (n : Int) (h0 : -9223372036854775808 ≤ n) (h1 : n ≤ 9223372036854775807) : (Lib.itoa n).length ≤ 21 := by
  rw [itoa_num]
  have := dec_len20 n.natAbs (by omega)
  unfold numS
  split <;> simp <;> omega
theorem key_two (l : List UInt8) (A : Nat) (v : Value) (Y : World) (hG : GE Y) (hl : l.length ≤ 100) (hr : RdV Y v [⟨2, 0, l.take A⟩, ⟨2, 0, l.drop A⟩]) :
    Calls Tryd.prog 22 #[v] Y fun e w' => e = .returned (sv (keyL [⟨2, 0, l.take A⟩, ⟨2, 0, l.drop A⟩])) ∧ Ext Y w' := by
  have hk : (keyL [⟨2, 0, l.take A⟩, ⟨2, 0, l.drop A⟩]).length ≤ 70368744177664 := by
    have a1 := itoa_len 2 (by omega) (by omega)
    have a2 := itoa_len 0 (by omega) (by omega)
    have a3 := itoa_len (l.take A).length (by omega) (by simp; omega)
    have a4 := itoa_len (l.drop A).length (by omega) (by simp; omega)
    have a5 : (l.take A).length ≤ 100 := by simp; omega
    have a6 : (l.drop A).length ≤ 100 := by simp; omega
    simp only [keyL, List.length_append, List.length_cons, List.length_nil]
    omega
  exact key_val _ _ _ hG hr (okL_two _ _) hk
theorem tmod_nat (i : Int) (n : Nat) (h : 0 ≤ i) : i.tmod ((n : Int) + 1) = ((i.toNat % (n + 1) : Nat) : Int) := by
  rw [Int.tmod_eq_emod_of_nonneg h]
  obtain ⟨m, rfl⟩ := Int.eq_ofNat_of_zero_le h
  rw [Int.toNat_natCast, Int.natCast_emod]; rfl
set_option maxHeartbeats 4000000 in
set_option maxRecDepth 100000 in
theorem law_ValueKeySplit (l : List UInt8) (i j : Int) (w : World) (hG : GE w) (hl : l.length ≤ maxLen) (i0 : 0 ≤ i) (i1 : i ≤ 255) (j0 : 0 ≤ j) (j1 : j ≤ 255) : Calls Tryd.prog 10 #[sv l, .int .u8 i, .int .u8 j] w fun e w' => e = .returned (.bool true) ∧ Ext w w' := by
  have HG := Lib.hid hG
  clear hG
  unfold maxLen at hl
  by_cases hn : 100 < l.length
  · go_enter Tryd.func10, Tryd.ntmps10
    go_wp2_with fail
    refine (awake_law w HG.out).mono ?_; rintro e w1 ⟨rfl, hE⟩
    go_wp2_with fail
    go_ret
    exact ⟨rfl, hE⟩
  obtain ⟨A, hA⟩ : ∃ A : Nat, A = i.toNat % (l.length + 1) := ⟨_, rfl⟩
  obtain ⟨B, hB⟩ : ∃ B : Nat, B = j.toNat % (l.length + 1) := ⟨_, rfl⟩
  have hAl : A ≤ l.length := by have := Nat.mod_lt i.toNat (show 0 < l.length + 1 by omega); omega
  have hBl : B ≤ l.length := by have := Nat.mod_lt j.toNat (show 0 < l.length + 1 by omega); omega
  have ti := tmod_nat i l.length i0
  have tj := tmod_nat j l.length j0
  rw [← hA] at ti
  rw [← hB] at tj
  clear hA hB
  have hsz : (⟨l.toArray⟩ : ByteArray).size = l.length := by simp [ByteArray.size]
  have s1 : ∀ (C : Nat), C ≤ l.length → ∀ w : World, (Instr.slice 9 (sv l) none (some (.int .i64 (C : Int))) none).run Tryd.prog w = .ok (sv (l.take C)) w := fun C hC w => by
    have := run_slice_string_h (P := Tryd.prog) (w := w) (t := 9) (s := ⟨l.toArray⟩) (ht := Tryd.underlying9) .i64 (C : Int) (by omega) (by rw [hsz]; omega)
    rw [this, Int.toNat_natCast, ext_piece]; simp
  have s2 : ∀ (C : Nat), C ≤ l.length → ∀ w : World, (Instr.slice 9 (sv l) (some (.int .i64 (C : Int))) none none).run Tryd.prog w = .ok (sv (l.drop C)) w := fun C hC w => by
    have := run_slice_string_l (P := Tryd.prog) (w := w) (t := 9) (s := ⟨l.toArray⟩) (ht := Tryd.underlying9) .i64 (C : Int) (by omega) (by rw [hsz]; omega)
    rw [this, hsz, Int.toNat_natCast, ext_piece, List.take_of_length_le (by simp)]
  have pA := s1 A hAl
  have qA := s2 A hAl
  have pB := s1 B hBl
  have qB := s2 B hBl
  have HE := Lib.hid (show (keyL [⟨2, 0, l.take A⟩, ⟨2, 0, l.drop A⟩] == keyL [⟨2, 0, l.take B⟩, ⟨2, 0, l.drop B⟩]) = ((A : Int) == (B : Int)) by
    rw [Bool.eq_iff_iff, beq_iff_eq, beq_iff_eq, key_split l A B hAl hBl]; omega)
  have KA := Lib.hid (fun (Y : World) (v : Value) (h : Ext w Y) (hr : RdV Y v _) => key_two l A v Y (HG.out.ext h) (by omega) hr)
  have KB := Lib.hid (fun (Y : World) (v : Value) (h : Ext w Y) (hr : RdV Y v _) => key_two l B v Y (HG.out.ext h) (by omega) hr)
  clear s1 s2 hsz
  generalize keyL [⟨2, 0, l.take A⟩, ⟨2, 0, l.drop A⟩] = x at *
  generalize keyL [⟨2, 0, l.take B⟩, ⟨2, 0, l.drop B⟩] = y at *
  have wr1 : IntKind.i64.wrap ((l.length : Int) + 1) = (l.length : Int) + 1 := IntWalk.i64_in _ (by omega)
  have nz : ((l.length : Int) + 1 == 0) = false := by rw [beq_eq_false_iff_ne]; omega
  go_enter Tryd.func10, Tryd.ntmps10
  go_wp2_with fail
  go_quiet (fail)
  clear wr1 nz ti tj
  go_wp2_with fail
  have hD : Ext w (w.drewN nq) := ext_of_grown (Grown.refl w)
  generalize w.drewN nq = W1 at *
  go_region_held3 (fun _ => True) (trivial)
    (first | (go_at_call 22; refine (KA.out _ _ ?_ ?_).mono ?_; (first | exact (hD.alloc _ _).drew | exact hD.alloc _ _); (first | exact (rdV_lit2 W1 ⟨2, 0, l.take A⟩ ⟨2, 0, l.drop A⟩ _ rfl).ext (Ext.refl _).drew | exact rdV_lit2 W1 ⟨2, 0, l.take A⟩ ⟨2, 0, l.drop A⟩ _ rfl); rintro e w3 ⟨rfl, qG⟩))
  clear pA qA
  have hD3 : Ext w w3 := (hD.alloc #[.int .i64 2, .int .i64 0, sv (l.take A), .int .i64 2, .int .i64 0, sv (l.drop A)] 23).trans ⟨qG.1, qG.2.1, qG.2.2⟩
  clear qG
  go_wp2_with fail
  go_region_held3 (fun _ => True) (trivial)
    (first | (go_at_call 22; refine (KB.out _ _ ?_ ?_).mono ?_; (first | exact (hD3.alloc _ _).drew | exact hD3.alloc _ _); (first | exact (rdV_lit2 w3 ⟨2, 0, l.take B⟩ ⟨2, 0, l.drop B⟩ _ rfl).ext (Ext.refl _).drew | exact rdV_lit2 w3 ⟨2, 0, l.take B⟩ ⟨2, 0, l.drop B⟩ _ rfl); rintro e w5 ⟨rfl, qG⟩))
  clear pB qB
  have hD5 : Ext w w5 := (hD3.alloc #[.int .i64 2, .int .i64 0, sv (l.take B), .int .i64 2, .int .i64 0, sv (l.drop B)] 23).trans ⟨qG.1, qG.2.1, qG.2.2⟩
  clear qG
  go_wp2_with fail
  refine (awake_law _ (HG.out.ext hD5)).mono ?_; rintro e w6 ⟨rfl, hE6⟩
  go_wp2_with fail
  go_ret
  exact ⟨ret_bool (by simp [HE.out]), hD5.trans hE6⟩
end Go.Proofs.YtejgmiljjpgbpaaDoor
