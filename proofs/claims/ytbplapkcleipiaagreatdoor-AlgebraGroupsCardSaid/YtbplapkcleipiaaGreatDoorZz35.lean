/- slices.Repeat of one row, of the program. -/
import Derived.Laws.CopyRow
import Derived.Deep.AppendLies
import Derived.Test.YtbplapkcleipiaaGreatDoorZz16
import Derived.Test.YtbplapkcleipiaaGreatDoorZz26
import Derived.Test.YtbplapkcleipiaaGreatDoorZz27
import Derived.Test.YtbplapkcleipiaaGreatDoorZz29
import Derived.Test.YtbplapkcleipiaaGreatDoorZz34
namespace Go.Proofs.YtbplapkcleipiaaGreatDoor
open Go.ChangeShapes Go.WideShapes Go.ChangeAt Go.RowKit

theorem setRow_grown (w : World) (g : Nat) (cs : Array Value) : w.grownBy (w.setRow g cs) (some g) :=
  ⟨rfl, rfl, rfl, by simp [World.setRow], fun k _ hn => setRow_other w g k cs (fun e => hn (by rw [e]))⟩
section
variable {α : Type} [Enc α]
/-- copy into an array of the call's own -/
theorem run_copyG (T : RowT α) {w : World} (ty : TypeId) (W : World) (g : Nat) (l : List α) (hA : Arr T.e W w g l) (o dLen dCap : Nat) (ho : o + dLen ≤ l.length) (a : Addr) (cap : Nat) (m : List α) (hrd : RdG w (.slice (some a) m.length cap) m) :
    ∃ w', (Builtin.copy_ #[T.t, T.t] ty #[.slice (some ⟨g, o * Enc.sz α, none⟩) dLen dCap, .slice (some a) m.length cap]).run Tryz.prog w = .ok (goInt (Nat.min m.length dLen)) w' ∧ Arr T.e W w' g (l.take o ++ m.take (Nat.min m.length dLen) ++ l.drop (o + Nat.min m.length dLen)) ∧ w.grownBy w' (some g) := by
  obtain ⟨i0, hi, hz0, hz1, hz2⟩ := info_parts T.hi
  have hp := Enc.pos (α := α)
  obtain ⟨k, hk⟩ : ∃ k, k = Nat.min m.length dLen := ⟨_, rfl⟩
  have hkm : k ≤ m.length := by rw [hk]; exact Nat.min_le_left _ _
  have hkd : k ≤ dLen := by rw [hk]; exact Nat.min_le_right _ _
  rw [← hk]
  rcases hA.1.2 with ⟨e, _⟩ | ⟨g', cap', cur, e, hb, hg, hnc, hcm, hcs, htk⟩
  · cases e
  simp only [Value.slice.injEq, Option.some.injEq, Addr.mk.injEq, and_true] at e
  obtain ⟨rfl, _, rfl⟩ := e
  have hcur : cur.toList = cellsG l := by
    rw [← htk, List.take_of_length_le (by simp [hcs])]
  have hlen : (cellsG (m.take k)).length = k * Enc.sz α := by rw [cellsG_len, List.length_take, Nat.min_eq_left hkm]
  have hsrc : ∀ j v, (cellsG (m.take k))[j]? = some v → w.cell? (a.add j) = some v := fun j v hj => by
    have h1 := (hrd.take k hkm).news j v hj
    exact h1
  have hl := run_loadCells_list (P := Tryz.prog) w a (cellsG (m.take k)) hsrc
  have hfit : o * Enc.sz α + 0 + (cellsG (m.take k)).length ≤ cur.size := by
    rw [hlen, hcs, Nat.add_zero, ← Nat.add_mul]; exact Nat.mul_le_mul_right _ (by omega)
  have hst := run_storeCells_at Tryz.prog g (o * Enc.sz α) T.e (cellsG (m.take k)) 0 cur w hg hfit (cellsG_one _)
  have hnew : cur.toList.take (o * Enc.sz α + 0) ++ cellsG (m.take k) ++ cur.toList.drop (o * Enc.sz α + 0 + (cellsG (m.take k)).length) = cellsG (l.take o ++ m.take k ++ l.drop (o + k)) := by
    rw [hcur, hlen, Nat.add_zero, cellsG_take l o (by omega), ← Nat.add_mul]
    have hd : (cellsG l).drop ((o + k) * Enc.sz α) = cellsG (l.drop (o + k)) := by
      have e := cellsG_append (l.take (o + k)) (l.drop (o + k))
      rw [List.take_append_drop] at e
      rw [e, ← cellsG_take l (o + k) (by omega), List.drop_left' (by rw [List.length_take, cellsG_len]; exact Nat.min_eq_left (Nat.mul_le_mul_right _ (by omega)))]
    rw [hd, cellsG_append, cellsG_append]
  have hll : (l.take o ++ m.take k ++ l.drop (o + k)).length = l.length := by simp; omega
  rw [hnew] at hst
  refine ⟨_, ?_, ⟨⟨by rw [cellsG_len, hll], .inr ⟨g, (l.take o ++ m.take k ++ l.drop (o + k)).length, (cellsG (l.take o ++ m.take k ++ l.drop (o + k))).toArray, rfl, hb, setRow_heap w g cur _ T.e _ hg, Nat.le_refl _, by rw [hll]; exact hcm, by rw [List.size_toArray, cellsG_len], List.take_of_length_le (by rw [cellsG_len]; exact Nat.le_refl _)⟩⟩, ext_grownBy hA.2 (setRow_grown w g _) fun q hq => by injection hq with hq; omega⟩, setRow_grown w g _⟩
  have hq : Tryz.prog.info? T.e = some i0 := hi
  simp [Builtin.copy_, run_underlying T.hu, Builtin.lenOf, Builtin.firstCells, sizeOf, typeInfo, hq, hz1, ← hk, ← hlen, hl, hst]
theorem wpList_copyG (T : RowT α) {w : World} {ops : Array Oper} {rest : List Oper} {o : Oper} {a : Act} {Q : Exit → Act → World → Prop} (hgd : o.guard = none) (d s : Operand)
    (hop : o.op = .call { callee := .builtin .copy, args := #[d, s], argTypes := #[T.t, T.t] }) (W : World) (g : Nat) (l : List α) (hA : Arr T.e W w g l) (p dLen dCap : Nat) (hd : a.eval d = .slice (some ⟨g, p * Enc.sz α, none⟩) dLen dCap) (hp : p + dLen ≤ l.length) (ad : Addr) (cap : Nat) (m : List α) (mn : Nat) (hmn : mn = m.length) (kk : Nat) (hkk : kk = Nat.min mn dLen) (hs : a.eval s = .slice (some ad) mn cap) (hrd : RdG w (.slice (some ad) mn cap) m)
    (h : ∀ w', Arr T.e W w' g (l.take p ++ m.take kk ++ l.drop (p + kk)) → w.grownBy w' (some g) → wpList Tryz.prog ops Q rest (a.put o.dst (goInt kk)) w') : wpList Tryz.prog ops Q (o :: rest) a w := by
  subst hmn; subst hkk
  obtain ⟨w', hr, h1, h2⟩ := run_copyG T o.type W g l hA p dLen dCap hp ad cap m hrd
  refine wpList_plain hgd fun K hK' => ?_
  unfold Oper.wp execOp
  simp only [hop, resolve, invoke, builtin, Sem.run_bind, Sem.run_pure, Result.andThen_ok, List.map_toArray, List.map_cons, List.map_nil, hd, hs, hr]
  exact hK' _ _ (h w' h1 h2)
theorem step_copyG (T : RowT α) {w : World} {ops : Array Oper} {o : Oper} {a : Act} {K : Act → World → Prop} {Q : Exit → Act → World → Prop} {E : Prop} (hgd : o.guard = none) (d s : Operand)
    (hop : o.op = .call { callee := .builtin .copy, args := #[d, s], argTypes := #[T.t, T.t] }) (W : World) (g : Nat) (l : List α) (hA : Arr T.e W w g l) (p dLen dCap : Nat) (hd : a.eval d = .slice (some ⟨g, p * Enc.sz α, none⟩) dLen dCap) (hp : p + dLen ≤ l.length) (ad : Addr) (cap : Nat) (m : List α) (mn : Nat) (hmn : mn = m.length) (kk : Nat) (hkk : kk = Nat.min mn dLen) (hs : a.eval s = .slice (some ad) mn cap) (hrd : RdG w (.slice (some ad) mn cap) m)
    (h : ∀ w', Arr T.e W w' g (l.take p ++ m.take kk ++ l.drop (p + kk)) → w.grownBy w' (some g) → K (a.put o.dst (goInt kk)) w') :
    if Region.wanted o (yielded ops a.tmps) = true then Oper.wp Tryz.prog o a w K Q else E := by
  have hw : Region.wanted o (yielded ops a.tmps) = true := by simp [Region.wanted, hgd]
  rw [if_pos hw]
  subst hmn; subst hkk
  obtain ⟨w', hr, h1, h2⟩ := run_copyG T o.type W g l hA p dLen dCap hp ad cap m hrd
  unfold Oper.wp execOp
  simp only [hop, resolve, invoke, builtin, Sem.run_bind, Sem.run_pure, Result.andThen_ok, List.map_toArray, List.map_cons, List.map_nil, hd, hs, hr]
  exact h w' h1 h2
end
end Go.Proofs.YtbplapkcleipiaaGreatDoor
/- slices.Repeat of one row, of the program: the walk. -/
namespace Go.Proofs.YtbplapkcleipiaaGreatDoor
open Go.ChangeShapes Go.WideShapes Go.ChangeAt Go.RowKit

theorem rep_fill {α : Type} (p d : α) (n k m : Nat) (hk : k + m ≤ n) (hm : m ≤ k) : (List.replicate k p ++ List.replicate (n - k) d).take k ++ (List.replicate k p).take m ++ (List.replicate k p ++ List.replicate (n - k) d).drop (k + m) = List.replicate (k + m) p ++ List.replicate (n - (k + m)) d := by
  have e : List.replicate k p ++ List.replicate (n - k) d = (List.replicate k p ++ List.replicate m d) ++ List.replicate (n - (k + m)) d := by
    rw [List.append_assoc, List.replicate_append_replicate, show m + (n - (k + m)) = n - k by omega]
  have e2 : (List.replicate k p ++ List.replicate (n - k) d).drop (k + m) = List.replicate (n - (k + m)) d := by
    rw [e, List.drop_left' (by simp)]
  rw [e2, List.take_left' (by simp), List.take_replicate, Nat.min_eq_left hm, List.replicate_append_replicate]
def RpR (w : World) (g n : Nat) (p : P) (i : Value) (wr : World) : Prop := ∃ k : Nat, k ≤ n ∧ (0 < n → 0 < k) ∧ i = .int .i64 k ∧ Arr tP.e w wr g (List.replicate k p ++ List.replicate (n - k) tP.z)
set_option maxHeartbeats 2000000 in
set_option maxRecDepth 100000 in
theorem rep_prg (p : P) (n : Nat) (vx : Value) (w : World) (hr : RdG w vx [p]) (hn : n ≤ 1000000) : Calls Tryz.prog 105 #[vx, .int .i64 n] w fun e w' => ∃ v, e = .returned v ∧ OwnG tP.e w w' v (List.replicate n p) := by
  obtain ⟨gx, ox, hax, _⟩ : ∃ g o, True ∧ True := ⟨0, 0, trivial, trivial⟩
  obtain ⟨ad, cx, rfl, hc, hc2⟩ := hr.shape
  obtain ⟨gx, ox, rfl, _⟩ := hr.at 0 (by simp)
  have HR := Lib.hid hr
  have hm := Tryz.bits_Mul 1 n (by omega) (by omega)
  have h0 : 1 * n / 18446744073709551616 = 0 := by omega
  have h1 : 1 * n % 18446744073709551616 = n := by omega
  rw [h0, h1] at hm
  have HM := Lib.hid hm
  simp only [List.length_cons, List.length_nil, Nat.zero_add] at hc HR ⊢
  unfold maxLen at hc2
  clear hm h0 h1 hr hax
  obtain ⟨k0, hk0⟩ : ∃ k0, k0 = Nat.min 1 n := ⟨_, rfl⟩
  have HK0 := Lib.hid hk0
  clear hk0
  go_enter Tryz.func105, Tryz.ntmps105
  go_wp2_with fail
  refine (HM.out _).mono ?_; rintro e w1 ⟨rfl, rfl⟩
  go_wp2_with (first
    | (at_make; refine makeG tP rfl _ _ rfl w1 (Ext.refl _) (n : Int) (n : Int) n rfl rfl rfl rfl (by omega) ?_; intro w2 hA hE2; have HA := Lib.hid hA; clear hA)
    | (refine wpList_copyG tP rfl _ _ rfl w1 w1.heap.size _ HA.out 0 n n rfl (by rw [List.length_replicate]; omega) { block := gx, off := ox } cx [p] 1 rfl k0 HK0.out ?hs (HR.out.ext hE2) ?_; (case hs => rfl); intro w3 hA3 hg3; have HA3 := Lib.hid hA3; clear hA3 hg3))
  have hk1 : k0 ≤ n := by rw [HK0.out]; exact Nat.min_le_right _ _
  have hk2 : 0 < n → 0 < k0 := fun h => by rw [HK0.out]; show 0 < min 1 n; omega
  have HK1 := Lib.hid hk1
  have HK2 := Lib.hid hk2
  clear hk1 hk2
  go_loopw [8] (fun i wr => RpR w1 w1.heap.size n p i wr) (fun i _ => n - (intOf i).toNat)
  case atStart =>
    refine ⟨k0, HK1.out, HK2.out, rfl, ?_⟩
    have e := HA3.out
    have hk := HK0.out
    rcases (show n = 0 ∨ 0 < n by omega) with h | h
    · subst h
      have hk' : k0 = 0 := by rw [hk]; rfl
      rw [hk'] at e ⊢
      simpa using e
    · have hk' : k0 = 1 := by rw [hk]; exact Nat.min_eq_left h
      rw [hk'] at e ⊢
      obtain ⟨m, rfl⟩ : ∃ m, n = m + 1 := ⟨n - 1, by omega⟩
      simpa [List.replicate_succ] using e
  case round =>
    obtain ⟨k, hkn, hk0, rfl, hA4⟩ := hrel
    rcases (show k = n ∨ k < n by omega) with h | h
    · subst h
      have HA4 := Lib.hid hA4
      clear hA4
      go_wp2_with fail
      go_ret
      refine ⟨_, rfl, ?_⟩
      have e := HA4.out
      rw [Nat.sub_self, List.replicate_zero, List.append_nil] at e
      have e2 := e.1
      rw [List.length_replicate] at e2
      exact ⟨by simpa using e.1, e.2⟩
    · have hne : ¬ n = k := by omega
      have hne2 : ¬ k = n := by omega
      obtain ⟨kk, hkk⟩ : ∃ kk, kk = Nat.min k (n - k) := ⟨_, rfl⟩
      have hs0 : RdG wr (.slice (some ⟨w1.heap.size, 0, none⟩) k n) (List.replicate k p) := by
        have e := hA4.rd
        rw [show (List.replicate k p ++ List.replicate (n - k) tP.z).length = n by simp; omega] at e
        have e2 := e.take k (by simp)
        rwa [List.take_left' (by simp)] at e2
      have b1 : kk ≤ k := by rw [hkk]; exact Nat.min_le_left _ _
      have b2 : k + kk ≤ n := by have : kk ≤ n - k := by rw [hkk]; exact Nat.min_le_right _ _
                                 omega
      have b3 : 0 < kk := by rw [hkk]; show 0 < min k (n - k); have := hk0 (by omega); omega
      have HKK := Lib.hid hkk
      have HS0 := Lib.hid hs0
      have HA4 := Lib.hid hA4
      have HB1 := Lib.hid b1
      have HB3 := Lib.hid b3
      have H3 : Hid (k + (n - k) ≤ (List.replicate k p ++ List.replicate (n - k) tP.z).length) := Lib.hid (by simp)
      have H4 : Hid (k = (List.replicate k p).length) := Lib.hid (by simp)
      clear hA4 hkk hs0 b1 b3 hk0
      go_wp2_with fail
      have HA5 := Lib.hid (HA4.out.ext (Ext.refl wr).drew)
      obtain ⟨w5, hr5, hA5, hg5⟩ := run_copyG tP 3 w1 w1.heap.size (List.replicate k p ++ List.replicate (n - k) tP.z) HA5.out k (n - k) (n - k) H3.out ⟨w1.heap.size, 0, none⟩ n (List.replicate k p) (by rw [List.length_replicate]; exact HS0.out.ext (Ext.refl wr).drew)
      rw [List.length_replicate, ← HKK.out] at hr5 hA5
      have hr6 : (Builtin.copy_ #[28, 28] 3 #[.slice (some ⟨w1.heap.size, k * 2, none⟩) (n - k) (n - k), .slice (some ⟨w1.heap.size, 0, none⟩) k n]).run Tryz.prog wr.drew = .ok (.int .i64 kk) w5 := hr5
      rw [rep_fill p tP.z n k kk b2 HB1.out] at hA5
      have HA6 := Lib.hid hA5
      clear hr5 hA5 hg5
      go_region
      all_goals
        go_wp2_with fail
        go_roundw
        case rel => exact ⟨k + kk, b2, fun _ => by have := HB3.out; omega, by simp, HA6.out⟩
        case measure => have := HB3.out; simp [intOf]; omega
end Go.Proofs.YtbplapkcleipiaaGreatDoor
/- Except's and Intersect's counts, of the program: the walks. -/
namespace Go.Proofs.YtbplapkcleipiaaGreatDoor
open Go.ChangeShapes Go.WideShapes Go.ChangeAt Go.RowKit

set_option maxHeartbeats 800000 in
theorem diff_prg (m n : Nat) (w : World) (hm : m ≤ 1000000) (hn : n ≤ 1000000) : Calls Tryz.prog 71 #[.int .i64 m, .int .i64 n] w fun e w' => w = w' ∧ e = .returned (.int .i64 ((m - n : Nat) : Int)) := by
  have e1 : wrap64 ((m : Int) - n) = (m : Int) - n := by unfold wrap64; omega
  have e2 : max (0 : Int) ((m : Int) - n) = ((m - n : Nat) : Int) := by omega
  obtain ⟨d, hd⟩ : ∃ d : Int, d = (m : Int) - n := ⟨_, rfl⟩
  obtain ⟨r, hr⟩ : ∃ r : Int, r = ((m - n : Nat) : Int) := ⟨_, rfl⟩
  rw [← hr]
  rw [← hd] at e1 e2
  rw [← hr] at e2
  have e3 : wrap64 ((m : Int) - n) = d := by rw [hd]; unfold wrap64; omega
  clear e1
  have HD := Lib.hid hd
  have HR := Lib.hid hr
  clear hd hr hm hn
  go_enter Tryz.func71, Tryz.ntmps71
  go_wp2_with fail
  go_ret
  exact ⟨rfl, rfl⟩
set_option maxHeartbeats 800000 in
theorem least_prg (m n : Nat) (w : World) : Calls Tryz.prog 72 #[.int .i64 m, .int .i64 n] w fun e w' => w = w' ∧ e = .returned (.int .i64 ((min m n : Nat) : Int)) := by
  have e2 : min (m : Int) (n : Int) = ((min m n : Nat) : Int) := by omega
  obtain ⟨r, hr⟩ : ∃ r : Int, r = ((min m n : Nat) : Int) := ⟨_, rfl⟩
  rw [← hr] at e2 ⊢
  clear hr
  go_enter Tryz.func72, Tryz.ntmps72
  go_wp2_with fail
  go_ret
  exact ⟨rfl, rfl⟩
end Go.Proofs.YtbplapkcleipiaaGreatDoor
/- The counts of a's keys in combine's map. -/
namespace Go.Proofs.YtbplapkcleipiaaGreatDoor
open Go.ChangeShapes Go.WideShapes Go.ChangeAt Go.RowKit

/-- how often a list of values stands in a list: none if it doesn't -/
def cntF (l : List (List V)) (v : List V) : Option Int := if l.count v = 0 then none else some (l.count v : Int)
theorem cntF_nil : cntF [] = fun _ => none := by funext v; simp [cntF]
theorem cntF_add (l : List (List V)) (v : List V) : cntF (l ++ [v]) = fun u => if u = v then some (((l.count v + 1 : Nat)) : Int) else cntF l u := by
  funext u
  unfold cntF
  by_cases h : u = v
  · subst h
    rw [List.count_append, show List.count u [u] = 1 by simp, if_neg (by omega), if_pos rfl]
  · have h0 : List.count u [v] = 0 := List.count_eq_zero.2 (by simpa using h)
    rw [List.count_append, h0, Nat.add_zero, if_neg h]
/-- what a lookup without ok gives -/
theorem cntF_look {l : List (List V)} {D : DataW Unit} (hf : ∀ v, (cntF l v = none → Maps.has D (litK v) = false) ∧ ∀ i, cntF l v = some i → Maps.has D (litK v) = true ∧ ∀ z, D.atKey (litK v) z = .lit (.int .i64 i)) (v : List V) (c : Int) (h : D.atKey (litK v) (.lit (.int .i64 0)) = .lit (.int .i64 c)) : c = (l.count v : Int) := by
  by_cases h0 : l.count v = 0
  · have := Maps.atKey_of_not_has ((hf v).1 (by simp [cntF, h0])) (.lit (.int .i64 0))
    rw [this] at h
    injection h with h; injection h with _ h
    rw [← h, h0]; rfl
  · have := ((hf v).2 (l.count v) (by simp [cntF, h0])).2 (.lit (.int .i64 0))
    rw [this] at h
    injection h with h; injection h with _ h
    exact h.symm
end Go.Proofs.YtbplapkcleipiaaGreatDoor
/- Evaluating a query, of the program: distinct rows. -/
namespace Go.Proofs.YtbplapkcleipiaaGreatDoor
open Go.ChangeShapes Go.WideShapes Go.ChangeAt Go.RowKit

/-- the rows of a class, read -/
theorem ClsI.rdR {fr : Bool} {S : Nat → Prop} {W w : World} {vc : Value} {cps : List ClP} {ps0 : List P} (h : ClsI fr S W w vc cps ps0) (hp : ∀ p ∈ ps0, RdRow W p ∧ In S p.h.x ∧ In S p.h.y) (hU : Up S W) (c : ClP) (hc : c ∈ cps) : RdR S w c.h.y (rows c.ps) := by
  obtain ⟨h1, h2⟩ := h.rws c hc
  exact ⟨c.ps, h1.rd, h1.inn hU, fun p hpp => ⟨(hp p (h2 p hpp)).1.ext h1.2, (hp p (h2 p hpp)).2⟩, rfl⟩
theorem rd_Cl {w : World} {ad : Option Addr} {n cap : Nat} {l : List ClP} (h : RdG w (.slice ad n cap) l) (i : Nat) (hi : i < l.length) : ∃ g o, ad = some ⟨g, o, none⟩ ∧ w.cell? ⟨g, o + i * 2, none⟩ = some l[i].h.x ∧ w.cell? ⟨g, o + i * 2 + 1, none⟩ = some l[i].h.y := by
  obtain ⟨g, o, e, c⟩ := h.at i hi
  exact ⟨g, o, e, c 0 _ rfl, c 1 _ rfl⟩
def oneD (c : Cl) : R := ⟨c.1, linR c.2⟩
def DsR (S : Nat → Prop) (W1 : World) (cs : List Cl) (v i : Value) (wr : World) : Prop := ∃ k : Nat, k ≤ cs.length ∧ i = .int .i64 k ∧ OwnQ S W1 wr v ((cs.take k).map oneD)
theorem ds_step (cs : List Cl) (k : Nat) (h : k < cs.length) : (cs.take (k + 1)).map oneD = (cs.take k).map oneD ++ [oneD cs[k]] := by
  rw [List.take_succ_eq_append_getElem h, List.map_append]; rfl
set_option maxHeartbeats 8000000 in
set_option maxRecDepth 100000 in
theorem dst_prg (S : Nat → Prop) (l : List R) (vr : Value) (w : World) (hr : RdR S w vr l) (hU : Up S w) (hG : PT w) (hk : ∀ r ∈ l, KeyOk r.v) (hll : l.length ≤ 1000000) (hli : ∀ c ∈ clsF R.v l, (c.2.flatMap R.t).length ≤ 100000000) :
    Calls Tryz.prog 74 #[vr] w (RoP S w ((clsF R.v l).map oneD)) := by
  have HCL := Lib.hid (cls_own S l vr w hr hG hk hll)
  have hcl : (clsF R.v l).length ≤ 1000000 := by
    have hi := clsF_isC R.v l
    have h1 : ((clsF R.v l).map Prod.fst).length ≤ (l.map R.v).length := hi.nd.length_le_of_subset (fun v hv => (hi.mem v).1 hv)
    rw [List.length_map, List.length_map] at h1; omega
  have HU := Lib.hid hU
  have HLI := Lib.hid hli
  obtain ⟨ad, cap, rfl⟩ := rdR_ok.shape hr
  obtain ⟨cs, hcs⟩ : ∃ cs, cs = clsF R.v l := ⟨_, rfl⟩
  rw [← hcs] at HCL hcl HLI ⊢
  obtain ⟨n, hn⟩ : ∃ n, n = l.length := ⟨_, rfl⟩
  rw [← hn] at HCL ⊢
  have HLC := Lib.hid hcl
  clear hr hU hG hk hll hli hcs hn hcl
  go_enter Tryz.func74, Tryz.ntmps74
  go_wp2_with fail
  refine HCL.out.mono ?_; rintro e w1 ⟨v, cps, ps0, rfl, hI, hp0, hd⟩
  obtain ⟨va, vcap, rfl, v1, v2⟩ := hI.own.rd.shape
  have HI := Lib.hid hI
  have HP0 := Lib.hid hp0
  have HD := Lib.hid hd
  have HW := Lib.hid hI.own.2
  have hclen : cps.length = cs.length := by rw [← hd, List.length_map]
  have HRD := Lib.hid hI.own.rd
  obtain ⟨t, ht⟩ : ∃ t, t = cps.length := ⟨_, rfl⟩
  have HT := Lib.hid ht
  have HTC := Lib.hid (show t = cs.length from ht.trans hclen)
  rw [← ht] at HRD v1 ⊢
  unfold maxLen at v2
  clear hI hp0 hd hclen ht
  go_wp2_with fail
  go_loopw [3, 9] (DsR S w1 cs) (fun _ i _ => t - (intOf i).toNat)
  case atStart => exact ⟨0, Nat.zero_le _, rfl, OwnQ.nil S (Ext.refl _)⟩
  case round =>
    obtain ⟨k, hk, rfl, hO⟩ := hrel
    have hkt : k ≤ t := by rw [HTC.out]; exact hk
    have hE1 := Lib.hid hO.old
    by_cases hlt : k < t
    · have hlc : k < cps.length := by rw [← HT.out]; exact hlt
      have hls : k < cs.length := by rw [← HTC.out]; exact hlt
      obtain ⟨g, o, rfl, d0', d1'⟩ := rd_Cl HRD.out k hlc
      have d0 := hE1.out.keeps d0'
      have d1 := hE1.out.keeps d1'
      clear d0' d1'
      have hst := ds_step cs k hls
      have hck : cs[k] = cps[k].d := by have h := HD.out; subst h; simp
      rw [hck] at hst
      have hmem := List.getElem_mem hlc
      have hrr := HI.out.rdR HP0.out HU.out cps[k] hmem
      have hvv := HI.out.val cps[k] hmem
      have hli := HLI.out cs[k] (List.getElem_mem _)
      rw [hck] at hli
      have hpl : ((cs.take k).map oneD).length ≤ 1000000 := by rw [List.length_map, List.length_take]; have := HLC.out; omega
      generalize cps[k] = y at *
      obtain ⟨⟨xa, xn, xc, xb, xm, xd⟩, yv, yps⟩ := y
      simp only [Hd.x, Hd.y, ClP.d] at d0 d1 hrr hst hli
      obtain ⟨w0, hw0⟩ : ∃ w0, w0 = wr.alloc (.cells #[.slice xa xn xc, .slice xb xm xd] 163) := ⟨_, rfl⟩
      have EX := Lib.hid (show Ext wr w0 by rw [hw0]; exact (Ext.refl wr).alloc _ _)
      have m0 : w0.cell? ⟨wr.heap.size, 0, none⟩ = some (.slice xa xn xc) := by rw [hw0]; exact al0 _ _ _ _
      have m1 : w0.cell? ⟨wr.heap.size, 1, none⟩ = some (.slice xb xm xd) := by rw [hw0]; exact al1 _ _ _ _
      have HHH := Lib.hid (fun w' (hE : Ext w0 w') => (lin_prg (rows yps) xa xn xc (.slice xb xm xd) S w' (rdR_ok.ext hrr (hE1.out.trans (EX.out.trans hE))) hli).mono (R' := fun e w'' => ∃ v, e = .returned v ∧ OwnG tI.e w0 w'' v (linR (rows yps)) ∧ Ext w0 w'') (by rintro _ _ ⟨v, rfl, hO⟩; exact ⟨v, rfl, hO.base hE, hE.trans hO.2⟩))
      have HVV := Lib.hid (show RdI S w1 (.slice xa xn xc) yv from hvv.1)
      have HST := Lib.hid hst
      have HL := Lib.hid hls
      obtain ⟨qs, hq1, hq2, hq3⟩ := hO
      have HQL := Lib.hid (show qs.length ≤ 1000000 by have e := rows_len qs; rw [hq3] at e; omega)
      have HQ1 := Lib.hid hq1
      have HQ2 := Lib.hid hq2
      have HQ3 := Lib.hid hq3
      have HQB := Lib.hid (fun kk hh => hq1.lt kk hh)
      have HW0 := Lib.hid hw0
      have KM0 := Lib.hid m0
      have KM1 := Lib.hid m1
      clear hrr hvv hli hpl hst hck hmem hq1 hq2 hq3 hw0
      go_wp2_with fail
      rw [← HW0.out]
      go_region_held3 (fun w' => w'.cell? ⟨wr.heap.size, 0, none⟩ = some (.slice xa xn xc) ∧ w'.cell? ⟨wr.heap.size, 1, none⟩ = some (.slice xb xm xd))
        (first | exact ⟨KM0.out, KM1.out⟩ | exact ⟨f4, f5⟩ | exact ⟨r4, r5⟩ | go_keep)
        (first
          | (go_at_call 104; refine (HHH.out _ ?_).mono ?_; (first | exact Ext.refl _ | exact (Ext.refl _).drew); rintro e w3 ⟨v3, rfl, hO3, e3⟩; obtain ⟨a3', n3', c3', hv3⟩ : ∃ a3' n3' c3', v3 = .slice a3' n3' c3' := (by obtain ⟨a, b, e, _⟩ := hO3.rd.shape; exact ⟨a, _, b, e⟩); subst hv3; have f4 := e3.keeps KM0.out; have f5 := e3.keeps KM1.out; have HO3 := Lib.hid hO3; have HE3 := Lib.hid e3; clear hO3 e3)
          | (refine step_appG tP rfl _ _ rfl w1 _ qs rfl ?a1 _ [⟨⟨xa, xn, xc, a3', n3', c3'⟩, ⟨yv, linR (rows yps)⟩⟩] rfl ?a2 ?a3 ?_; (have z1 := HQ1.out.ext (EX.out.trans (HE3.out.alloc #[.slice xa xn xc, .slice a3' n3' c3'] 51)); case a1 => exact z1); (have z2 := rd_litG w3 [(⟨⟨xa, xn, xc, a3', n3', c3'⟩, ⟨yv, linR (rows yps)⟩⟩ : P)] #[.slice xa xn xc, .slice a3' n3' c3'] 51 _ 1 rfl rfl (by simp) rfl; case a2 => exact z2); (case a3 => have := HQL.out; simp; omega); intro v5 w5 hO5 hg5; have hx1 := (Ext.refl w3).alloc #[.slice xa xn xc, .slice a3' n3' c3'] 51; have r4 := grow_cell hg5 (hx1.keeps f4) (fun kk hh => by have := HQB.out kk hh; omega); have r5 := grow_cell hg5 (hx1.keeps f5) (fun kk hh => by have := HQB.out kk hh; omega)))
      all_goals
        go_wp2_with fail
        go_roundw
        case rel =>
          refine ⟨k + 1, HL.out, by go_num, ?_⟩
          rw [HST.out]
          have hx1 := (Ext.refl w3).alloc #[.slice xa xn xc, .slice a3' n3' c3'] 51
          have hx2 := EX.out.trans (HE3.out.trans hx1)
          refine OwnQ.app (qs := [⟨⟨xa, xn, xc, a3', n3', c3'⟩, ⟨yv, linR (rows yps)⟩⟩]) (HQ1.out.ext hx2) (fun p hp => (HQ2.out p hp).ext hx2) HQ3.out (fun p hp => ?_) hO5 hg5
          simp only [List.mem_singleton] at hp; subst hp
          have hof : Off tP.e w1 (w3.alloc (.cells #[.slice xa xn xc, .slice a3' n3' c3'] 51)) (.slice xa xn xc) := off_old HVV.out.1
          exact ⟨⟨⟨HVV.out.1.ext (hE1.out.trans hx2), HO3.out.rd.ext hx1⟩, hof, (HO3.out.ext hx1).off (by decide)⟩, HVV.out.2, HO3.out.inn (HU.out.ext (HW.out.trans (hE1.out.trans EX.out)))⟩
        case measure => simp [intOf]; omega
    · have hke : cs.take k = cs := List.take_of_length_le (by rw [← HTC.out]; omega)
      rw [hke] at hO
      have HO := Lib.hid hO
      clear hke hO
      go_wp2_with fail
      go_ret
      exact HO.out.roP HW.out (HU.out.ext HW.out)
end Go.Proofs.YtbplapkcleipiaaGreatDoor
/- Concat, of the program, of rows and of values. -/
namespace Go.Proofs.YtbplapkcleipiaaGreatDoor
open Go.ChangeShapes Go.WideShapes Go.ChangeAt Go.RowKit

/-- the first k of two lists, put together -/
def catG9 {α : Type} (a b : List α) : Nat → List α
  | 0 => []
  | 1 => a
  | _ => a ++ b
theorem grow_P (n : Nat) (w : World) (hn : n ≤ 100000000) : Calls Tryz.prog 100 #[.slice none 0 0, .int .i64 n] w fun e w' => ∃ v, e = .returned v ∧ OwnG tP.e w w' v ([] : List P) := by
  obtain ⟨i0, hi, hz0, hz1, hz2⟩ := info_parts tP.hi
  by_cases h0 : n = 0
  · subst h0
    have := Any8.slices_Grow_room Tryz.growP none 0 0 0 w (by omega) (by omega) (by omega) (by omega)
    refine this.mono ?_
    rintro e w' ⟨rfl, rfl⟩
    exact ⟨_, rfl, OwnG.nil _ _ _ (Ext.refl _)⟩
  · have hb : tP.bytes = 48 := rfl
    have hs : Enc.sz P = 2 := rfl
    have := Any8.slices_Grow_grow Tryz.growP i0 (Value.agg #[.slice none 0 0, .slice none 0 0]) hi hz0 (by omega) none 0 0 n [] w (by omega) (by omega) (by rw [hz2, hb]; omega) (by omega) (by simp) (fun _ => rfl) (fun a h => by cases h)
    refine this.mono ?_
    rintro e w' ⟨rfl, rfl⟩
    have hge := grownCap_ge w (0 + n) 0 (Tryz.growP_ren.t 25)
    have hle := grownCap_le_maxLen w (0 + n) 0 (Tryz.growP_ren.t 25) (by unfold maxLen; omega)
    generalize grownCap w (0 + n) 0 (Tryz.growP_ren.t 25) = c at hge hle
    refine ⟨_, rfl, ⟨World.ownsRow_made w.drew _ c (Nat.le_refl _) hle ?_, ((Ext.refl w).drew).alloc _ _⟩⟩
    have hsz : (Value.agg #[.slice none 0 0, .slice none 0 0]).cells.size = 2 := rfl
    simp only [Array.size_append, size_zeroCells, hsz, List.size_toArray, List.length_nil, hs]
    omega
theorem grow_V (n : Nat) (w : World) (hn : n ≤ 100000000) : Calls Tryz.prog 129 #[.slice none 0 0, .int .i64 n] w fun e w' => ∃ v, e = .returned v ∧ OwnG tV.e w w' v ([] : List V) := by
  obtain ⟨i0, hi, hz0, hz1, hz2⟩ := info_parts tV.hi
  by_cases h0 : n = 0
  · subst h0
    have := Any8.slices_Grow_room Tryz.growV none 0 0 0 w (by omega) (by omega) (by omega) (by omega)
    refine this.mono ?_
    rintro e w' ⟨rfl, rfl⟩
    exact ⟨_, rfl, OwnG.nil _ _ _ (Ext.refl _)⟩
  · have hb : tV.bytes = 32 := rfl
    have hs : Enc.sz V = 3 := rfl
    have := Any8.slices_Grow_grow Tryz.growV i0 (Value.agg #[.int .i64 0, .int .i64 0, sv []]) hi hz0 (by omega) none 0 0 n [] w (by omega) (by omega) (by rw [hz2, hb]; omega) (by omega) (by simp) (fun _ => rfl) (fun a h => by cases h)
    refine this.mono ?_
    rintro e w' ⟨rfl, rfl⟩
    have hge := grownCap_ge w (0 + n) 0 (Tryz.growV_ren.t 25)
    have hle := grownCap_le_maxLen w (0 + n) 0 (Tryz.growV_ren.t 25) (by unfold maxLen; omega)
    generalize grownCap w (0 + n) 0 (Tryz.growV_ren.t 25) = c at hge hle
    refine ⟨_, rfl, ⟨World.ownsRow_made w.drew _ c (Nat.le_refl _) hle ?_, ((Ext.refl w).drew).alloc _ _⟩⟩
    have hsz : (Value.agg #[.int .i64 0, .int .i64 0, sv []]).cells.size = 3 := rfl
    simp only [Array.size_append, size_zeroCells, hsz, List.size_toArray, List.length_nil, hs]
    omega
set_option maxHeartbeats 4000000 in
set_option maxRecDepth 100000 in
theorem concat_P (a b : List P) (va vb : Value) (g : Nat) (w : World) (ha : RdG w va a) (hb : RdG w vb b) (g0 : w.cell? ⟨g, 0, none⟩ = some va) (g1 : w.cell? ⟨g, 1, none⟩ = some vb) (hl : a.length + b.length ≤ 100000000) :
    Calls Tryz.prog 69 #[.slice (some ⟨g, 0, none⟩) 2 2] w fun e w' => ∃ v, e = .returned v ∧ OwnG tP.e w w' v (a ++ b) := by
  have GL := Lib.hid (World.block_lt_of_cell? _ _ g0)
  have HA := Lib.hid ha
  have HB := Lib.hid hb
  obtain ⟨ada, capa, rfl, _⟩ := ha.shape
  obtain ⟨adb, capb, rfl, _⟩ := hb.shape
  clear ha hb
  obtain ⟨n, hn⟩ : ∃ n, n = a.length := ⟨_, rfl⟩
  obtain ⟨m, hm⟩ : ∃ m, m = b.length := ⟨_, rfl⟩
  have HN := Lib.hid hn
  have HM := Lib.hid hm
  rw [← hn, ← hm] at hl
  rw [← hn] at g0 HA
  rw [← hm] at g1 HB
  clear hn hm
  go_enter Tryz.func69, Tryz.ntmps69
  go_wp2_with fail
  go_loopw [3, 11] (fun u i wr => w = wr ∧ ((i = .int .i64 0 ∧ u = .int .i64 0) ∨ (i = .int .i64 1 ∧ u = .int .i64 (n : Int)) ∨ (i = .int .i64 2 ∧ u = .int .i64 ((n : Int) + (m : Int))))) (fun _ i _ => 2 - (intOf i).toNat)
  case atStart => exact ⟨by trivial, Or.inl ⟨rfl, rfl⟩⟩
  case round =>
    obtain ⟨rfl, h⟩ := hrel
    rcases h with ⟨rfl, rfl⟩ | ⟨rfl, rfl⟩ | ⟨rfl, rfl⟩
    · go_wp2_with fail
      go_roundw
      case rel => exact ⟨by trivial, Or.inr (Or.inl ⟨rfl, by simp⟩)⟩
      case measure => simp [intOf]
    · go_wp2_with fail
      go_roundw
      case rel => exact ⟨by trivial, Or.inr (Or.inr ⟨rfl, rfl⟩)⟩
      case measure => simp [intOf]
    · rw [show (n : Int) + (m : Int) = ((n + m : Nat) : Int) by omega]
      go_wp2_with fail
      refine (grow_P (n + m) _ (by omega)).mono ?_
      rintro e w1 ⟨v1, rfl, hO⟩
      have G0 := hO.2.keeps g0
      have G1 := hO.2.keeps g1
      clear g0 g1
      go_wp2_with fail
      go_loopw [6, 27] (fun u i wr => ∃ k : Nat, k ≤ 2 ∧ i = .int .i64 k ∧ OwnG tP.e w wr u (catG9 a b k) ∧ wr.cell? ⟨g, 0, none⟩ = some (.slice ada n capa) ∧ wr.cell? ⟨g, 1, none⟩ = some (.slice adb m capb)) (fun _ i _ => 2 - (intOf i).toNat)
      case atStart => exact ⟨0, by omega, rfl, hO, G0, G1⟩
      case round =>
        obtain ⟨k, hk, rfl, hO2, q0, q1⟩ := hrel
        have gl : g < w.heap.size := GL.out
        rcases (show k = 0 ∨ k = 1 ∨ k = 2 by omega) with rfl | rfl | rfl
        · go_wp2_with (at_builtin; refine appG tP rfl _ _ rfl w _ [] rfl hO2 _ a rfl (HA.out.ext hO2.2) (by have := HN.out; simp; omega) ?_; intro v' w' hO' hg'; have r0 := hO2.far hg' gl q0; have r1 := hO2.far hg' gl q1)
          go_roundw
          case rel => exact ⟨1, by omega, rfl, hO', r0, r1⟩
          case measure => simp [intOf]
        · go_wp2_with (at_builtin; refine appG tP rfl _ _ rfl w _ a rfl hO2 _ b rfl (HB.out.ext hO2.2) (by have := HN.out; have := HM.out; omega) ?_; intro v' w' hO' hg'; have r0 := hO2.far hg' gl q0; have r1 := hO2.far hg' gl q1)
          go_roundw
          case rel => exact ⟨2, by omega, rfl, hO', r0, r1⟩
          case measure => simp [intOf]
        · go_wp2_with fail
          go_ret
          exact ⟨_, rfl, hO2⟩
set_option maxHeartbeats 4000000 in
set_option maxRecDepth 100000 in
theorem concat_V (a b : List V) (va vb : Value) (g : Nat) (w : World) (ha : RdG w va a) (hb : RdG w vb b) (g0 : w.cell? ⟨g, 0, none⟩ = some va) (g1 : w.cell? ⟨g, 1, none⟩ = some vb) (hl : a.length + b.length ≤ 100000000) :
    Calls Tryz.prog 99 #[.slice (some ⟨g, 0, none⟩) 2 2] w fun e w' => ∃ v, e = .returned v ∧ OwnG tV.e w w' v (a ++ b) := by
  have GL := Lib.hid (World.block_lt_of_cell? _ _ g0)
  have HA := Lib.hid ha
  have HB := Lib.hid hb
  obtain ⟨ada, capa, rfl, _⟩ := ha.shape
  obtain ⟨adb, capb, rfl, _⟩ := hb.shape
  clear ha hb
  obtain ⟨n, hn⟩ : ∃ n, n = a.length := ⟨_, rfl⟩
  obtain ⟨m, hm⟩ : ∃ m, m = b.length := ⟨_, rfl⟩
  have HN := Lib.hid hn
  have HM := Lib.hid hm
  rw [← hn, ← hm] at hl
  rw [← hn] at g0 HA
  rw [← hm] at g1 HB
  clear hn hm
  go_enter Tryz.func99, Tryz.ntmps99
  go_wp2_with fail
  go_loopw [3, 11] (fun u i wr => w = wr ∧ ((i = .int .i64 0 ∧ u = .int .i64 0) ∨ (i = .int .i64 1 ∧ u = .int .i64 (n : Int)) ∨ (i = .int .i64 2 ∧ u = .int .i64 ((n : Int) + (m : Int))))) (fun _ i _ => 2 - (intOf i).toNat)
  case atStart => exact ⟨by trivial, Or.inl ⟨rfl, rfl⟩⟩
  case round =>
    obtain ⟨rfl, h⟩ := hrel
    rcases h with ⟨rfl, rfl⟩ | ⟨rfl, rfl⟩ | ⟨rfl, rfl⟩
    · go_wp2_with fail
      go_roundw
      case rel => exact ⟨by trivial, Or.inr (Or.inl ⟨rfl, by simp⟩)⟩
      case measure => simp [intOf]
    · go_wp2_with fail
      go_roundw
      case rel => exact ⟨by trivial, Or.inr (Or.inr ⟨rfl, rfl⟩)⟩
      case measure => simp [intOf]
    · rw [show (n : Int) + (m : Int) = ((n + m : Nat) : Int) by omega]
      go_wp2_with fail
      refine (grow_V (n + m) _ (by omega)).mono ?_
      rintro e w1 ⟨v1, rfl, hO⟩
      have G0 := hO.2.keeps g0
      have G1 := hO.2.keeps g1
      clear g0 g1
      go_wp2_with fail
      go_loopw [6, 27] (fun u i wr => ∃ k : Nat, k ≤ 2 ∧ i = .int .i64 k ∧ OwnG tV.e w wr u (catG9 a b k) ∧ wr.cell? ⟨g, 0, none⟩ = some (.slice ada n capa) ∧ wr.cell? ⟨g, 1, none⟩ = some (.slice adb m capb)) (fun _ i _ => 2 - (intOf i).toNat)
      case atStart => exact ⟨0, by omega, rfl, hO, G0, G1⟩
      case round =>
        obtain ⟨k, hk, rfl, hO2, q0, q1⟩ := hrel
        have gl : g < w.heap.size := GL.out
        rcases (show k = 0 ∨ k = 1 ∨ k = 2 by omega) with rfl | rfl | rfl
        · go_wp2_with (at_builtin; refine appG tV rfl _ _ rfl w _ [] rfl hO2 _ a rfl (HA.out.ext hO2.2) (by have := HN.out; simp; omega) ?_; intro v' w' hO' hg'; have r0 := hO2.far hg' gl q0; have r1 := hO2.far hg' gl q1)
          go_roundw
          case rel => exact ⟨1, by omega, rfl, hO', r0, r1⟩
          case measure => simp [intOf]
        · go_wp2_with (at_builtin; refine appG tV rfl _ _ rfl w _ a rfl hO2 _ b rfl (HB.out.ext hO2.2) (by have := HN.out; have := HM.out; omega) ?_; intro v' w' hO' hg'; have r0 := hO2.far hg' gl q0; have r1 := hO2.far hg' gl q1)
          go_roundw
          case rel => exact ⟨2, by omega, rfl, hO', r0, r1⟩
          case measure => simp [intOf]
        · go_wp2_with fail
          go_ret
          exact ⟨_, rfl, hO2⟩
end Go.Proofs.YtbplapkcleipiaaGreatDoor
