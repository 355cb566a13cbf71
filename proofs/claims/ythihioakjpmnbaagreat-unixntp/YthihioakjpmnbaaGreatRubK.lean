/-
 slices.Backward over segments: what it hands back, and its rounds. No conditions.
-/
import Derived.Test.YthihioakjpmnbaaGreatVcR
import Derived.Test.YthihioakjpmnbaaGreatSegR
import Derived.Shelf.Abstract
import Derived.WalkKit
import Derived.OwnWalkIn
import Derived.TacticsInMore
import Derived.LoopNIn
import Derived.LoopIn
namespace Go.Proofs.YthihioakjpmnbaaGreat
open Go.RowKit Go.Shelf
attribute [local go_sem] Oper.semAt_some
set_option maxRecDepth 100000
/-- The segments with their places. -/
abbrev SgAt (l : List Sg) := { x : Nat × Sg // l[x.1]? = some x.2 }
/-- The last k places, the last one first. -/
def downK (n k : Nat) : List Nat := (List.range k).map fun j => n - 1 - j
theorem downK_succ (n k : Nat) : downK n (k + 1) = downK n k ++ [n - 1 - k] := by simp [downK, List.range_succ]
theorem downK_len (n k : Nat) : (downK n k).length = k := by simp [downK]
set_option maxHeartbeats 2000000 in
theorem bw1_in (n : Nat) (hn : 1 ≤ n) (r Bs D b off cap : Nat) (bs : List Nat) (zs : List Sg) (hreach : zs.length ≤ 1000) (hBD : Bs < D) (hBb : Bs ∉ bs) (hbD : b < D) (hbb : b ∉ bs) (J Jx : List (SgAt zs) → World → Prop)
  (hY : ∀ pre x W, J pre W → pre.length < zs.length → YieldAt Fence.wide (n - 1) Tryz.prog r #[.int .i64 (x.1.1 : Int), sgV x.1.2] W fun e W' =>
   (e = .returned (.bool true) ∧ J (pre ++ [x]) W' ∧ KeepsBut D bs W W') ∨ (e = .returned (.bool false) ∧ Jx (pre ++ [x]) W'))
  (W : World) (hBs : W.cell? ⟨Bs, 0, none⟩ = some (.slice (some ⟨b, off, none⟩) zs.length cap))
  (hc : ∀ j x, zs[j]? = some x → W.cell? ⟨b, off + j * 4, none⟩ = some (.int .i64 x.d) ∧ W.cell? ⟨b, off + j * 4 + 1, none⟩ = some (.int .i64 x.b) ∧ W.cell? ⟨b, off + j * 4 + 2, none⟩ = some (.int .i64 x.f) ∧ W.cell? ⟨b, off + j * 4 + 3, none⟩ = some (.int .i64 x.r)) (h0 : J [] W) :
  CallsIn Fence.wide n Tryz.prog 120 #[.func (.yield r) #[] #[], .pointer (some ⟨Bs, 0, none⟩)] W fun e W' => (∃ v, e = .returned v) ∧
   ((∃ ys : List (SgAt zs), ys.map (·.1.1) = downK zs.length zs.length ∧ J ys W') ∨ (∃ pre, True ∧ Jx pre W')) := by
 refine callsIn_of_wp Tryz.func120 rfl trivial ?_ rfl
 simp only [Tryz.ntmps120, List.size_toArray, List.length_cons, List.length_nil, Nat.reduceAdd, Nat.reduceSub, Array.replicate_succ, Array.replicate_zero, List.push_toArray, List.append_toArray, List.nil_append, List.cons_append]
 gi_wp2
 gi_loopw [3] (fun i wr => ∃ (k : Nat) (pre : List (SgAt zs)), k ≤ zs.length ∧ i = .int .i64 ((zs.length : Int) - 1 - k) ∧ pre.map (·.1.1) = downK zs.length k ∧ J pre wr ∧ KeepsBut D bs W wr)
  (fun i _ => (intOf i + 1).toNat)
 case atStart => exact ⟨0, [], Nat.zero_le _, by simp, rfl, h0, Nat.le_refl _, fun _ _ _ _ => rfl⟩
 case round =>
  obtain ⟨k, pre, hk, rfl, hpre, hJs, hnx⟩ := hrel
  have hpl : pre.length = k := by rw [← List.length_map (f := (·.1.1)), hpre, downK_len]
  by_cases hlt : k < zs.length
  ·obtain ⟨x, hx⟩ : ∃ x, zs[zs.length - 1 - k]? = some x := ⟨_, List.getElem?_eq_getElem (by omega)⟩
   obtain ⟨fn, tmps, assign, body, hy, hR⟩ := hY pre ⟨(zs.length - 1 - k, x), hx⟩ wr hJs (by omega)
   have ek : ((zs.length - 1 - k : Nat) : Int) = (zs.length : Int) - 1 - k := by omega
   dsimp only at hy
   unfold sgV at hy
   rw [ek] at hy
   have hBs' := hnx.cell (p := ⟨Bs, 0, none⟩) hBD hBb hBs
   obtain ⟨c1, c2, c3, c4⟩ := hc _ x hx
   replace c1 := hnx.cell hbD hbb c1
   replace c2 := hnx.cell hbD hbb c2
   replace c3 := hnx.cell hbD hbb c3
   replace c4 := hnx.cell hbD hbb c4
   gi_wp2
   refine hR.mono ?_
   rintro e W3 (⟨rfl, hJ3, hk3⟩ | ⟨rfl, hJx3⟩)
   ·gi_wp2
    go_roundw
    case rel => exact ⟨k + 1, _, by omega, by congr 1; omega, by rw [List.map_append, hpre, downK_succ]; rfl, hJ3, hnx.trans hk3⟩
    case measure => simp [intOf]; omega
   ·gi_wp2
    refine bodyPost_ret (results_none rfl _ _ _) rfl ?_
    exact ⟨⟨_, rfl⟩, .inr ⟨_, trivial, hJx3⟩⟩
  ·obtain rfl : k = zs.length := by omega
   gi_wp2
   go_end0
   exact ⟨⟨_, rfl⟩, .inl ⟨_, hpre, hJs⟩⟩
/-- What it hands back keeps to what an iterator over a list is asked. -/
theorem bw_stops {n : Nat} (hn : 1 ≤ n) {Bs D b off cap : Nat} {bs : List Nat} {zs : List Sg} (hreach : zs.length ≤ 1000) (hBD : Bs < D) (hBb : Bs ∉ bs) (hbD : b < D) (hbb : b ∉ bs) {w : World}
  (hBs : w.cell? ⟨Bs, 0, none⟩ = some (.slice (some ⟨b, off, none⟩) zs.length cap))
  (hc : ∀ j x, zs[j]? = some x → w.cell? ⟨b, off + j * 4, none⟩ = some (.int .i64 x.d) ∧ w.cell? ⟨b, off + j * 4 + 1, none⟩ = some (.int .i64 x.b) ∧ w.cell? ⟨b, off + j * 4 + 2, none⟩ = some (.int .i64 x.f) ∧ w.cell? ⟨b, off + j * 4 + 3, none⟩ = some (.int .i64 x.r)) :
  SeqStopsK Fence.wide n Tryz.prog 120 #[.pointer (some ⟨Bs, 0, none⟩)] (fun x : SgAt zs => #[Value.int .i64 (x.1.1 : Int), sgV x.1.2]) (KeepsBut D bs) (fun ys => ys.map (·.1.1) = downK zs.length zs.length) (fun _ => True) zs.length w := fun r J Jx W hW _ _ hY h0 =>
 bw1_in n hn r Bs D b off cap bs zs hreach hBD hBb hbD hbb J Jx hY W (cell_later hW hBs) (fun j x hx => ⟨cell_later hW (hc j x hx).1, cell_later hW (hc j x hx).2.1, cell_later hW (hc j x hx).2.2.1, cell_later hW (hc j x hx).2.2.2⟩) h0
end Go.Proofs.YthihioakjpmnbaaGreat
