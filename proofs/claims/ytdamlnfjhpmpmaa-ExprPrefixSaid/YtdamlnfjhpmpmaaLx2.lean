/- The law ExprPrefix. -/
import Derived.Test.YtdamlnfjhpmpmaaLx3
import Derived.Test.YtdamlnfjhpmpmaaSam
namespace Go.Proofs.Ytdamlnfjhpmpmaa
open Go.ChangeShapes Go.WideShapes Go.ChangeAt Go.RowKit

theorem chk_app (l more : List X) (r : Nat) (cols : List Int) (hr : r < l.length) (hs : l.length + more.length ≤ 200) : chkV (l ++ more) r cols = chkV l r cols := by
  have h1 : isIx (r : Int) ((l ++ more).length : Nat) = true := (isIx_iff _ _).2 ⟨by omega, by rw [List.length_append]; omega⟩
  have h2 : isIx (r : Int) (l.length : Nat) = true := (isIx_iff _ _).2 ⟨by omega, by omega⟩
  have e1 : chkV (l ++ more) r cols = atK (chs cols (l ++ more)) r := by unfold chkV; rw [if_neg (by rw [List.length_append]; omega), if_neg (by rw [h1]; decide)]
  have e2 : chkV l r cols = atK (chs cols l) r := by unfold chkV; rw [if_neg (by omega), if_neg (by rw [h2]; decide)]
  rw [e1, e2]
  exact chs_at cols l more r hr
theorem evl_app (l more : List X) (r : Nat) (row : List V) (hr : r < l.length) : evlV (l ++ more) r row = evlV l r row := by
  have h1 : isIx (r : Int) ((l ++ more).length : Nat) = true := (isIx_iff _ _).2 ⟨by omega, by rw [List.length_append]; omega⟩
  have h2 : isIx (r : Int) (l.length : Nat) = true := (isIx_iff _ _).2 ⟨by omega, by omega⟩
  unfold evlV atV
  rw [if_neg (by rw [h1]; decide), if_neg (by rw [h2]; decide)]
  exact evs_at row l more r hr
theorem okX_app {l m : List X} (h : OkX l) (k : OkX m) : OkX (l ++ m) := fun x hx => (List.mem_append.1 hx).elim (h x) (k x)
def PxR (W : World) (row : List V) (v i : Value) (wr : World) : Prop := ∃ k : Nat, k ≤ row.length ∧ i = .int .i64 k ∧ OwnG tI.e W wr v (kds (row.take k))
theorem geq_of {a b : Int} (h : b ≤ a) : decide (a ≥ b) = true := by simpa using h
set_option maxHeartbeats 4000000 in
set_option maxRecDepth 100000 in
theorem prefix_few (l more : List X) (root : Int) (row : List V) (vl vm vr : Value) (w : World) (rl : RdG w vl l) (rm : RdG w vm more) (rr : RdG w vr row)
    (hM : (l.length : Int) + more.length ≤ 9223372036854775807) (h : fewB l.length row.length = false ∨ (fewB l.length row.length = true ∧ 200 < (l.length : Int) + more.length) ∨ (fewB l.length row.length = true ∧ ¬ 200 < (l.length : Int) + more.length ∧ root < 0) ∨ (fewB l.length row.length = true ∧ ¬ 200 < (l.length : Int) + more.length ∧ ¬ root < 0 ∧ (l.length : Int) ≤ root)) :
    Calls Try.prog 8 #[vl, vm, .int .i64 root, vr] w fun e w' => e = .returned (.bool true) ∧ Ext w w' := by
  have hF := few_law l vl row.length w rl
  obtain ⟨al, cl, rfl, a1, a2⟩ := rl.shape
  obtain ⟨am, cm, rfl, b1, b2⟩ := rm.shape
  obtain ⟨ar, cr, rfl, _, _⟩ := rr.shape
  have HF := Lib.hid hF
  have hl220 : fewB l.length row.length = true → (l.length : Int) ≤ 220 := fun h => (few_yes h).1
  clear hF rl rm rr
  rcases h with h | ⟨h, h2⟩ | ⟨h, h2, h3⟩ | ⟨h, h2, h3, h4⟩
  · rw [h] at HF
    clear h hl220 hM a1 a2 b1 b2
    go_enter Try.func8, Try.ntmps8
    go_wp2_with fail
    refine HF.out.mono ?_; rintro e w1 ⟨rfl, rfl⟩
    go_wp2_with fail
    refine (awake_law _).mono ?_; rintro e w1 ⟨rfl, hE⟩
    go_wp2_with fail
    go_ret
    exact ⟨rfl, hE⟩
  all_goals
    have hl := hl220 h
    rw [h] at HF
    have hw : wrap64 ((l.length : Int) + more.length) = (l.length : Int) + more.length := by unfold wrap64; omega
    clear h hl220 hM a1 a2 b1 b2
    go_enter Try.func8, Try.ntmps8
    go_wp2_with fail
    refine HF.out.mono ?_; rintro e w1 ⟨rfl, rfl⟩
    go_wp2_with fail
    refine (awake_law _).mono ?_; rintro e w1 ⟨rfl, hE⟩
    go_wp2_with fail
    go_ret
    exact ⟨rfl, hE⟩
end Go.Proofs.Ytdamlnfjhpmpmaa
