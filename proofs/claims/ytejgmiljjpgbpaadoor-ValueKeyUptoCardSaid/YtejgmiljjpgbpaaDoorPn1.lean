/- The program's isNumberForm and parseInt. -/
import Derived.Test.YtejgmiljjpgbpaaDoorVw3
import Derived.Lib.AtoiErrMem
namespace Go.Proofs.YtejgmiljjpgbpaaDoor
open Go.ChangeShapes Go.WideShapes Go.ChangeAt Go.RowKit

theorem digs_take (d : List UInt8) (k : Nat) (h : k < d.length) (hd : digs (d.take k) = true) (hc : isDig d[k] = true) : digs (d.take (k + 1)) = true := by
  rw [List.take_succ_eq_append_getElem h, digs_app, digs_cons]; exact ⟨hd, hc, rfl⟩
theorem digs_bad (d : List UInt8) (k : Nat) (h : k < d.length) (hc : isDig d[k] = false) : digs d = false := by
  cases hd : digs d with
  | false => rfl
  | true => unfold digs at hd; rw [List.all_eq_true] at hd; rw [hd _ (List.getElem_mem h)] at hc; cases hc
theorem trim_len (l : List UInt8) : (Lib.trimPrefix l [45]).length ≤ l.length := by unfold Lib.trimPrefix; split <;> simp
def NfR (d : List UInt8) (i : Value) : Prop := ∃ k : Nat, k ≤ d.length ∧ i = .int .i64 k ∧ Hid (digs (d.take k) = true)
set_option maxHeartbeats 1000000 in
theorem nf_val (l : List UInt8) (w : World) (hl : l.length ≤ 4000) : Calls Tryd.prog 30 #[sv l] w fun e w' => e = .returned (.bool (numF l)) ∧ w = w' := by
  have HF := Lib.hid (show numF l = (digs (Lib.trimPrefix l [45]) && !(Lib.trimPrefix l [45]).isEmpty) from rfl)
  have hdl := trim_len l
  obtain ⟨d, hd⟩ : ∃ d, d = Lib.trimPrefix l [45] := ⟨_, rfl⟩
  have HD := Lib.hid hd
  rw [← hd] at hdl
  clear hd
  go_enter Tryd.func30, Tryd.ntmps30
  go_wp2_with fail
  refine (Tryd.strings_TrimPrefix _ _ _).mono ?_; rintro e w1 ⟨rfl, rfl⟩
  rw [show (Lib.trimPrefix ({ data := l.toArray } : ByteArray).data.toList ({ data := #[45] } : ByteArray).data.toList) = d from HD.out.symm]
  go_wp2_with fail
  go_loop [9] (NfR d) (fun i => d.length - (intOf i).toNat)
  case atStart => exact ⟨0, Nat.zero_le _, rfl, Lib.hid rfl⟩
  case round =>
    obtain ⟨k, hk, rfl, HK⟩ := hrel
    by_cases hlt : k < d.length
    · have hix : (({ data := d.toArray } : ByteArray)[k]'(by simpa [ByteArray.size] using hlt)) = d[k] := rfl
      cases hc : isDig d[k]
      · have HR := Lib.hid (show numF l = false by rw [HF.out, ← HD.out, digs_bad d k hlt hc]; rfl)
        have hb : ¬ (48 ≤ d[k].toNat ∧ d[k].toNat ≤ 57) := fun e => by rw [(isDig_iff _).2 e] at hc; cases hc
        rw [← hix] at hb
        clear hc hix
        rcases Nat.lt_or_ge (({ data := d.toArray } : ByteArray)[k]'(by simpa [ByteArray.size] using hlt)).toNat 48 with h | h
        · clear hb
          go_wp2_with fail
          go_ret
          exact ⟨ret_bool HR.out.symm, rfl⟩
        · have h' : 57 < (({ data := d.toArray } : ByteArray)[k]'(by simpa [ByteArray.size] using hlt)).toNat := by omega
          clear hb
          go_wp2_with fail
          go_ret
          exact ⟨ret_bool HR.out.symm, rfl⟩
      · have HS := Lib.hid (digs_take d k hlt HK.out hc)
        have hb := (isDig_iff _).1 hc
        rw [← hix] at hb
        clear hc hix
        obtain ⟨b1, b2⟩ := hb
        go_wp2_with fail
        go_round
        case rel => exact ⟨k + 1, by omega, by go_num, HS⟩
        case measure => simp [intOf]; omega
    · have hkd : digs d = true := by have := HK.out; rwa [List.take_of_length_le (by omega)] at this
      by_cases he : d = []
      · have HR := Lib.hid (show numF l = false by rw [HF.out, ← HD.out, he]; rfl)
        subst he
        clear hkd
        go_wp2_with fail
        go_ret
        exact ⟨ret_bool HR.out.symm, rfl⟩
      · have HR := Lib.hid (show numF l = true by rw [HF.out, ← HD.out, hkd]; simpa using he)
        have he1 : d.isEmpty = false := by simpa using he
        clear hkd
        go_wp2_with fail
        go_ret
        exact ⟨ret_bool HR.out.symm, rfl⟩
theorem nf_yes (l : List UInt8) (w : World) (hl : l.length ≤ 4000) (h : numF l = true) : Calls Tryd.prog 30 #[sv l] w fun e w' => e = .returned (.bool true) ∧ w = w' := by
  have := nf_val l w hl; rwa [h] at this
theorem nf_no (l : List UInt8) (w : World) (hl : l.length ≤ 4000) (h : numF l = false) : Calls Tryd.prog 30 #[sv l] w fun e w' => e = .returned (.bool false) ∧ w = w' := by
  have := nf_val l w hl; rwa [h] at this
/-- a box of three cells, as it stands in a later world -/
theorem res3 {w w1 : World} {a b c : Value} {t : TypeId} (hE : Ext (w.alloc (.cells #[a, b, c] t)) w1) :
    w1.cell? ⟨w.heap.size, 0, none⟩ = some a ∧ w1.cell? ⟨w.heap.size, 1, none⟩ = some b ∧ w1.cell? ⟨w.heap.size, 2, none⟩ = some c ∧ (∀ o, w1.frozen? ⟨w.heap.size, o, none⟩ = false) ∧ w.heap.size < w1.heap.size ∧ Ext w w1 := by
  refine ⟨hE.keeps ?_, hE.keeps ?_, hE.keeps ?_, fun o => by rw [hE.2.1 _ (by simp)]; exact (((Grown.refl w).alloc _ _).2.1 _).trans (frozen_new _ _ _ (by omega)), by have := hE.2.2; simp at this; omega, ((Ext.refl _).alloc _ _).trans hE⟩
  all_goals (rw [World.cell?, (MapKept.heap_alloc w _).1]; rfl)
theorem pi_ok (l : List UInt8) (v : Int) (w : World) (hl : l.length ≤ 4000) (h : Lib.parseIntB 64 l = .ok v) : Calls Tryd.prog 41 #[sv l, .int .i64 10, .int .i64 64] w fun e w' => e = .returned (.tuple #[.int .i64 v, .nilIface]) ∧ Ext w w' := by
  refine (Tryd.strconv_ParseInt_10_at64_ok ⟨l.toArray⟩ (by simp [ByteArray.size]; omega) v h w).mono ?_
  rintro e w' ⟨rfl, rfl | ⟨t, rfl⟩⟩
  · exact ⟨rfl, Ext.refl _⟩
  · exact ⟨rfl, ext_of_below (Lib.bytesWorld_below _ _ _)⟩
def PiR (l : List UInt8) (w : World) (e : Ending) (w' : World) : Prop := ∃ N, e = .returned (.tuple #[.int .i64 (Lib.intSat 64 l), .iface 95 (.pointer (some ⟨N, 0, none⟩))]) ∧ Ext w w'
theorem pi_range (l : List UInt8) (w : World) (hG : GE w) (hl : l.length ≤ 4000) (h : Lib.parseIntB 64 l = .range) : Calls Tryd.prog 41 #[sv l, .int .i64 10, .int .i64 64] w (PiR l w) := by
  obtain ⟨_, _, ev, hv, hev⟩ := hG
  refine (Tryd.strconv_ParseInt_10_at64_range ⟨l.toArray⟩ (by simp [ByteArray.size]; omega) h ev w hv hev).mono ?_
  rintro e w' ⟨N, rfl, _, _, hb⟩
  exact ⟨N, rfl, ext_of_below hb⟩
set_option maxHeartbeats 1000000 in
theorem pint_val (l : List UInt8) (w : World) (hG : GE w) (hl : l.length ≤ 4000) (h : numF l = true) : Calls Tryd.prog 31 #[sv l] w fun e w' => e = .returned (.tuple #[vv (intV l).1, .int .i64 (intV l).2]) ∧ Ext w w' := by
  rcases num_cases l h with ⟨hr, hn⟩ | ⟨v, hv, h0, h1, ⟨he, hn⟩ | ⟨he, hn⟩⟩
  · have HI := Lib.hid (show intV l = (⟨0, 0, []⟩, 10) by unfold intV; rw [hn])
    rw [HI.out]
    have HR := Lib.hid hr
    clear hr hn h
    go_enter Tryd.func31, Tryd.ntmps31
    go_wp2_with fail
    refine (pi_range l _ (hG.ext ((Ext.refl _).alloc _ _)) hl HR.out).mono ?_; rintro e w1 ⟨N, rfl, hE⟩
    obtain ⟨k0, k1, k2, kf, hz, hW⟩ := res3 hE
    go_wp2_with fail
    exact bodyPost_ret (v := .tuple #[vv ⟨0, 0, []⟩, .int .i64 10]) (by simp [results, Tryd.results31, go_sem, k0, k1, k2]) rfl ⟨rfl, ((hW.setNew _ _ (Nat.le_refl _) _).setNew _ _ (Nat.le_refl _) _).setNew _ _ (Nat.le_refl _) _⟩
  · have HI := Lib.hid (show intV l = (⟨1, v, []⟩, 0) by unfold intV; rw [hn])
    rw [HI.out]
    have HR := Lib.hid hv
    have HE := Lib.hid he
    clear hv hn h he
    go_enter Tryd.func31, Tryd.ntmps31
    go_wp2_with fail
    refine (pi_ok l v _ hl HR.out).mono ?_; rintro e w1 ⟨rfl, hE⟩
    go_wp2_with fail
    refine (fi_call v w1 (hG.ext (((Ext.refl _).alloc _ _).trans hE)) h0 h1).mono ?_; rintro e w2 ⟨rfl, hE2⟩
    rw [HE.out]
    obtain ⟨k0, k1, k2, kf, hz, hW⟩ := res3 (hE.trans hE2)
    go_wp2_with fail
    exact bodyPost_ret (v := .tuple #[vv ⟨1, v, []⟩, .int .i64 0]) (by simp [results, Tryd.results31, go_sem, k0, k1, k2]) rfl ⟨rfl, ((hW.setNew _ _ (Nat.le_refl _) _).setNew _ _ (Nat.le_refl _) _).setNew _ _ (Nat.le_refl _) _⟩
  · have HI := Lib.hid (show intV l = (⟨0, 0, []⟩, 10) by unfold intV; rw [hn])
    rw [HI.out]
    have HR := Lib.hid hv
    have he1 : (Lib.itoa v == l) = false := by simpa using he
    clear hv hn h he
    go_enter Tryd.func31, Tryd.ntmps31
    go_wp2_with fail
    refine (pi_ok l v _ hl HR.out).mono ?_; rintro e w1 ⟨rfl, hE⟩
    go_wp2_with fail
    refine (fi_call v w1 (hG.ext (((Ext.refl _).alloc _ _).trans hE)) h0 h1).mono ?_; rintro e w2 ⟨rfl, hE2⟩
    obtain ⟨k0, k1, k2, kf, hz, hW⟩ := res3 (hE.trans hE2)
    go_wp2_with fail
    exact bodyPost_ret (v := .tuple #[vv ⟨0, 0, []⟩, .int .i64 10]) (by simp [results, Tryd.results31, go_sem, k0, k1, k2]) rfl ⟨rfl, ((hW.setNew _ _ (Nat.le_refl _) _).setNew _ _ (Nat.le_refl _) _).setNew _ _ (Nat.le_refl _) _⟩
end Go.Proofs.YtejgmiljjpgbpaaDoor
