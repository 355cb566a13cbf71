/-
 The published segments; the reference's Segments of layer 14.
-/
import Derived.Test.YthihioakjpmnbaaGreatSegR
namespace Go.Proofs.YthihioakjpmnbaaGreat
open Go.RowKit
set_option maxRecDepth 100000

def pubS : List Sg := [⟨37300, 14228180, 37300, 12960⟩, ⟨37512, 13728180, 37300, 12960⟩, ⟨37665, 18458580, 37665, 11232⟩, ⟨38334, 19458580, 37665, 11232⟩, ⟨38395, 32401300, 38761, 12960⟩, ⟨38486, 33401300, 38761, 12960⟩, ⟨38639, 34401300, 38761, 12960⟩, ⟨38761, 35401300, 38761, 12960⟩, ⟨38820, 36401300, 38761, 12960⟩, ⟨38942, 37401300, 38761, 12960⟩, ⟨39004, 38401300, 38761, 12960⟩, ⟨39126, 43131700, 39126, 25920⟩, ⟨39887, 42131700, 39126, 25920⟩]
theorem pub_len : pubS.length = 13 := rfl
theorem pub_64 {j : Nat} {x : Sg} (h : pubS[j]? = some x) : Sg64 x := by
 have hj := (List.getElem?_eq_some_iff.1 h).1
 rw [pub_len] at hj
 have key : ∀ k : Fin 13, ∀ y, pubS[k.val]? = some y → Sg64 y := by
  intro k y hy
  match k with
  | ⟨0, _⟩ => cases hy; unfold Sg64 I64; decide
  | ⟨1, _⟩ => cases hy; unfold Sg64 I64; decide
  | ⟨2, _⟩ => cases hy; unfold Sg64 I64; decide
  | ⟨3, _⟩ => cases hy; unfold Sg64 I64; decide
  | ⟨4, _⟩ => cases hy; unfold Sg64 I64; decide
  | ⟨5, _⟩ => cases hy; unfold Sg64 I64; decide
  | ⟨6, _⟩ => cases hy; unfold Sg64 I64; decide
  | ⟨7, _⟩ => cases hy; unfold Sg64 I64; decide
  | ⟨8, _⟩ => cases hy; unfold Sg64 I64; decide
  | ⟨9, _⟩ => cases hy; unfold Sg64 I64; decide
  | ⟨10, _⟩ => cases hy; unfold Sg64 I64; decide
  | ⟨11, _⟩ => cases hy; unfold Sg64 I64; decide
  | ⟨12, _⟩ => cases hy; unfold Sg64 I64; decide
 exact key ⟨j, hj⟩ x h
theorem pub_take {i : Nat} {x : Sg} (h : pubS[i]? = some x) : segC (pubS.take (i + 1)) = segC (pubS.take i) ++ [.int .i64 x.d, .int .i64 x.b, .int .i64 x.f, .int .i64 x.r] := by
 rw [List.take_add_one, h]
 exact segC_app _ _

set_option maxHeartbeats 4000000 in
theorem rsegs_any {w : World} : Calls Tryz.prog 71 #[] w fun e w' => ∃ r, e = .returned r ∧ (∃ c cp, r = .slice (some ⟨c, 0, none⟩) 13 cp ∧ SegAt w' r pubS) ∧ Below w.heap.size w w' := by
 have hown : w.ownsRow w.heap.size 125 4 (.slice none 0 0) 0 [] := ⟨rfl, .inl ⟨rfl, rfl⟩⟩
 have hsz : w.heap.size ≤ w.heap.size := Nat.le_refl _
 refine calls_Wp (args := []) (n := 49) Tryz.func71 rfl rfl (by simp) ?_
 refine qZ ?_
 refine Wp.seq ?_
 refine wR [0, 1, 2, 3, 4, 5, 6, 7, 8, 9, 10, 11, 12, 13, 14] ?_
 refine sB ?_
 refine sB ?_
 refine sB ?_
 refine sB ?_
 refine sB ?_
 refine sB ?_
 refine sB ?_
 refine sB ?_
 refine sB ?_
 refine sB ?_
 refine sB ?_
 refine sB ?_
 refine sB ?_
 refine s_bs (e := 169) (cs := segC pubS) rfl rfl rfl (fun _ => by kernel_rfl) ?_
 intro cb wb hcb lb hrow
 replace hown := own_later hown lb
 replace hsz := Nat.le_trans hsz lb.size
 try replace vq := vq.later lb
 refine sZ 1 ?_
 refine Wp.seq ?_
 obtain ⟨PS, hPS⟩ : ∃ PS, segC pubS = PS := ⟨_, rfl⟩
 rw [hPS] at hrow
 have hcb2 : w.heap.size ≤ cb := by omega
 refine Wp.adopt 1007 hrow.var hcb2 rfl (show AllMem (fun d => d ≠ cb) _ from (by repeat (first | exact AllMem.args | refine AllMem.put ?_))) ?_
 refine wZ ?_
 refine Wp.seq ?_
 refine qZ ?_
 refine Wp.block ?_
 refine Wp.loop (fun k st W => ∃ (i : Nat) (p : Int) (ea : Option Addr) (cr : Nat), st = St.of [(0, .v (.slice none 0 0)), (1, .v (.slice (some ⟨cb, 0, none⟩) 13 13)), (2, .v (.slice ea i cr)), (3, .v (.int .i64 p))] [(1007, cb, PS)] ∧ p = i ∧ i ≤ 13 ∧ W.ownsRow w.heap.size 125 4 (.slice ea i cr) i (segC (pubS.take i)) ∧ (∀ q, Value.ownBlock (.slice ea i cr) = some q → q ≠ cb) ∧ w.heap.size ≤ W.heap.size ∧ k = 13 - i) ?_ ?_
 ·refine ⟨_, _, (St.of_le' (env := [(0, .v _), (1, .v _), (2, .v _), (3, .v _)]) (mem := [(1007, _, _)]) ⟨rfl, rfl, rfl, rfl, trivial⟩ ⟨rfl, trivial⟩), 0, 0, none, 0, rfl, rfl, Nat.zero_le _, hown, fun q h => by simp [Value.ownBlock] at h, hsz, rfl⟩
 ·rintro k st w6 ⟨i, p, ea, cr, rfl, hp, hi, hown, hnb, hsz, rfl⟩
  refine Wp.seq ?_
  refine qQ 2 ?_
  refine x_len rfl rfl rfl rfl rfl ?_
  refine p_lss rfl rfl rfl rfl rfl (fun h21 => ?_) (fun h21 => ?_)
  ·refine vOrd_nil ?_
   refine Wp.condT rfl rfl ?_
   refine Wp.skip ?_
   refine Wp.seq ?_
   refine Wp.block ?_
   obtain ⟨x, hx⟩ : ∃ x, pubS[i]? = some x := ⟨_, List.getElem?_eq_getElem (by rw [pub_len]; omega)⟩
   obtain ⟨hx0, hx1, hx2, hx3⟩ := segC_at pubS i x hx; rw [hPS] at hx0 hx1 hx2 hx3
   refine Wp.var (h := 1007) rfl (fun vq => ?_)
   refine Wp.drawnX (by kernel_rfl) (by kernel_rfl) (by kernel_rfl) [0, 1, 2, 3, 4, 6, 7, 8, 9, 11, 12, 13, 14, 16, 17, 18, 19] 8 #[true, true, true, true, true, false, true, true, true, true, false, true, true, true, true, false, true, true, true, true, false, false, false, false, false] rfl (by kernel_rfl) (by kernel_rfl) (fun wd ld => ?_)
   replace hown := own_later hown ld
   replace hsz := Nat.le_trans hsz ld.size
   try replace vq := vq.later ld
   refine sQ 3 ?_
   refine sI (sz := 4) (i * 4) ?_
   refine s_idxT (sz := 1) (i * 4) rfl rfl rfl rfl rfl rfl rfl (by decide) (by decide) rfl ?_
   refine sQ 2 ?_
   refine sI (sz := 4) (i * 4) ?_
   refine s_idxT (sz := 1) (i * 4 + 1) rfl rfl rfl rfl rfl rfl rfl (by decide) (by decide) rfl ?_
   refine sQ 2 ?_
   refine sI (sz := 4) (i * 4) ?_
   refine s_idxT (sz := 1) (i * 4 + 2) rfl rfl rfl rfl rfl rfl rfl (by decide) (by decide) rfl ?_
   refine sQ 2 ?_
   refine sI (sz := 4) (i * 4) ?_
   refine s_idxT (sz := 1) (i * 4 + 3) rfl rfl rfl rfl rfl rfl rfl (by decide) (by decide) rfl ?_
   refine vOrd_nil ?_
   refine vTree_four (i := 5) (k := 10) (j := 15) (l := 20) (L1 := #[true, true, true, true, true, true, true, true, true, true, false, true, true, true, true, false, true, true, true, true, false, false, false, false, false]) (L2 := #[true, true, true, true, true, false, true, true, true, true, true, true, true, true, true, false, true, true, true, true, false, false, false, false, false]) (L3 := #[true, true, true, true, true, false, true, true, true, true, false, true, true, true, true, true, true, true, true, true, false, false, false, false, false]) (L4 := #[true, true, true, true, true, false, true, true, true, true, false, true, true, true, true, false, true, true, true, true, true, false, false, false, false]) (by kernel_rfl) (by kernel_rfl) (by kernel_rfl) (by kernel_rfl) (by kernel_rfl) ?_ ?_ ?_ ?_
   ·refine xC ((cell_var vq _).trans hx0) ?_
    refine vOrd_nil ?_
    refine vTree_three (i := 10) (k := 15) (j := 20) (L1 := #[true, true, true, true, true, true, true, true, true, true, true, true, true, true, true, false, true, true, true, true, false, false, false, false, false]) (L2 := #[true, true, true, true, true, true, true, true, true, true, false, true, true, true, true, true, true, true, true, true, false, false, false, false, false]) (L3 := #[true, true, true, true, true, true, true, true, true, true, false, true, true, true, true, false, true, true, true, true, true, false, false, false, false]) (by kernel_rfl) (by kernel_rfl) (by kernel_rfl) (by kernel_rfl) ?_ ?_ ?_
    ·refine xC ((cell_var vq _).trans hx1) ?_
     refine vOrd_nil ?_
     refine vTree_two (i := 15) (k := 20) (L1 := #[true, true, true, true, true, true, true, true, true, true, true, true, true, true, true, true, true, true, true, true, false, false, false, false, false]) (L2 := #[true, true, true, true, true, true, true, true, true, true, true, true, true, true, true, false, true, true, true, true, true, false, false, false, false]) (by kernel_rfl) (by kernel_rfl) (by kernel_rfl) ?_ ?_
     ·refine xC ((cell_var vq _).trans hx2) ?_
      refine vOrd_nil ?_
      refine vT 20 ?_
      refine xC ((cell_var vq _).trans hx3) ?_
      refine vOrd_nil ?_
      refine vT 21 ?_
      refine sB ?_
      refine vOrd_nil ?_
      refine vT 22 ?_
      refine s_bs (e := 125) (cs := [.int .i64 x.d, .int .i64 x.b, .int .i64 x.f, .int .i64 x.r]) rfl rfl rfl (fun _ => by kernel_rfl) ?_
      intro cq wq hcq lq hrowq
      replace hown := own_later hown lq
      replace hsz := Nat.le_trans hsz lq.size
      try replace vq := vq.later lq
      refine vOrd_nil ?_
      refine vT 23 ?_
      refine x_appendW (base := w.heap.size) (sz := 4) (bs := 32) (n := i) (m := 1) (news := [.int .i64 x.d, .int .i64 x.b, .int .i64 x.f, .int .i64 x.r]) rfl rfl rfl rfl rfl rfl rfl rfl rfl rfl rfl (by decide) hown (fun j y hj => by rw [Nat.zero_add, cell_var hrowq.var]; exact hj) rfl (by intro u hu; simp at hu; rcases hu with rfl | rfl | rfl | rfl <;> rfl) (by omega) (by omega) hsz (Nat.le_refl _) (by (repeat with_reducible refine AllMem.put ?_); exact AllMem.of ⟨fun h => hnb _ h rfl, trivial⟩) ?_
      intro v2 w2a hown2 hgr2 hat2
      have hsz2 := Nat.le_trans hsz hgr2.size
      obtain ⟨ea2, cr2, rfl⟩ := own_sliceK hown2
      rw [← pub_take hx] at hown2
      have hnb2 : ∀ q, Value.ownBlock (.slice ea2 (i + 1) cr2) = some q → q ≠ cb := fun q h => by
       have := vq.lt
       rcases hat2 with e | e
       ·exact hnb q (by rw [← e]; exact h)
       ·rw [e] at h; cases h; omega
      clear hown hsz
      have hown := hown2
      have hsz := hsz2
      clear hown2 hsz2
      refine vOrd_nil ?_
      refine vT 24 ?_
      refine sZ 1 ?_
      refine vTree_end (by kernel_rfl) ?_
      refine wQ 1 ?_
      refine aP (-9223372036854775808) 9223372036854775807 ?_
      refine sZ 1 ?_
      exact ⟨_, _, by omega, (St.of_le' (env := [(0, .v _), (1, .v _), (2, .v _), (3, .v _)]) (mem := [(1007, _, _)]) ⟨rfl, rfl, rfl, rfl, trivial⟩ ⟨rfl, trivial⟩), i + 1, _, ea2, cr2, rfl, by omega, by omega, hown, hnb2, hsz, rfl⟩
     ·refine xC ((cell_var vq _).trans hx3) ?_
      refine vOrd_nil ?_
      refine vT 15 ?_
      refine xC ((cell_var vq _).trans hx2) ?_
      refine vOrd_nil ?_
      refine vT 21 ?_
      refine sB ?_
      refine vOrd_nil ?_
      refine vT 22 ?_
      refine s_bs (e := 125) (cs := [.int .i64 x.d, .int .i64 x.b, .int .i64 x.f, .int .i64 x.r]) rfl rfl rfl (fun _ => by kernel_rfl) ?_
      intro cq wq hcq lq hrowq
      replace hown := own_later hown lq
      replace hsz := Nat.le_trans hsz lq.size
      try replace vq := vq.later lq
      refine vOrd_nil ?_
      refine vT 23 ?_
      refine x_appendW (base := w.heap.size) (sz := 4) (bs := 32) (n := i) (m := 1) (news := [.int .i64 x.d, .int .i64 x.b, .int .i64 x.f, .int .i64 x.r]) rfl rfl rfl rfl rfl rfl rfl rfl rfl rfl rfl (by decide) hown (fun j y hj => by rw [Nat.zero_add, cell_var hrowq.var]; exact hj) rfl (by intro u hu; simp at hu; rcases hu with rfl | rfl | rfl | rfl <;> rfl) (by omega) (by omega) hsz (Nat.le_refl _) (by (repeat with_reducible refine AllMem.put ?_); exact AllMem.of ⟨fun h => hnb _ h rfl, trivial⟩) ?_
      intro v2 w2a hown2 hgr2 hat2
      have hsz2 := Nat.le_trans hsz hgr2.size
      obtain ⟨ea2, cr2, rfl⟩ := own_sliceK hown2
      rw [← pub_take hx] at hown2
      have hnb2 : ∀ q, Value.ownBlock (.slice ea2 (i + 1) cr2) = some q → q ≠ cb := fun q h => by
       have := vq.lt
       rcases hat2 with e | e
       ·exact hnb q (by rw [← e]; exact h)
       ·rw [e] at h; cases h; omega
      clear hown hsz
      have hown := hown2
      have hsz := hsz2
      clear hown2 hsz2
      refine vOrd_nil ?_
      refine vT 24 ?_
      refine sZ 1 ?_
      refine vTree_end (by kernel_rfl) ?_
      refine wQ 1 ?_
      refine aP (-9223372036854775808) 9223372036854775807 ?_
      refine sZ 1 ?_
      exact ⟨_, _, by omega, (St.of_le' (env := [(0, .v _), (1, .v _), (2, .v _), (3, .v _)]) (mem := [(1007, _, _)]) ⟨rfl, rfl, rfl, rfl, trivial⟩ ⟨rfl, trivial⟩), i + 1, _, ea2, cr2, rfl, by omega, by omega, hown, hnb2, hsz, rfl⟩
    ·refine xC ((cell_var vq _).trans hx2) ?_
     refine vOrd_nil ?_
     refine vTree_two (i := 10) (k := 20) (L1 := #[true, true, true, true, true, true, true, true, true, true, true, true, true, true, true, true, true, true, true, true, false, false, false, false, false]) (L2 := #[true, true, true, true, true, true, true, true, true, true, false, true, true, true, true, true, true, true, true, true, true, false, false, false, false]) (by kernel_rfl) (by kernel_rfl) (by kernel_rfl) ?_ ?_
     ·refine xC ((cell_var vq _).trans hx1) ?_
      refine vOrd_nil ?_
      refine vT 20 ?_
      refine xC ((cell_var vq _).trans hx3) ?_
      refine vOrd_nil ?_
      refine vT 21 ?_
      refine sB ?_
      refine vOrd_nil ?_
      refine vT 22 ?_
      refine s_bs (e := 125) (cs := [.int .i64 x.d, .int .i64 x.b, .int .i64 x.f, .int .i64 x.r]) rfl rfl rfl (fun _ => by kernel_rfl) ?_
      intro cq wq hcq lq hrowq
      replace hown := own_later hown lq
      replace hsz := Nat.le_trans hsz lq.size
      try replace vq := vq.later lq
      refine vOrd_nil ?_
      refine vT 23 ?_
      refine x_appendW (base := w.heap.size) (sz := 4) (bs := 32) (n := i) (m := 1) (news := [.int .i64 x.d, .int .i64 x.b, .int .i64 x.f, .int .i64 x.r]) rfl rfl rfl rfl rfl rfl rfl rfl rfl rfl rfl (by decide) hown (fun j y hj => by rw [Nat.zero_add, cell_var hrowq.var]; exact hj) rfl (by intro u hu; simp at hu; rcases hu with rfl | rfl | rfl | rfl <;> rfl) (by omega) (by omega) hsz (Nat.le_refl _) (by (repeat with_reducible refine AllMem.put ?_); exact AllMem.of ⟨fun h => hnb _ h rfl, trivial⟩) ?_
      intro v2 w2a hown2 hgr2 hat2
      have hsz2 := Nat.le_trans hsz hgr2.size
      obtain ⟨ea2, cr2, rfl⟩ := own_sliceK hown2
      rw [← pub_take hx] at hown2
      have hnb2 : ∀ q, Value.ownBlock (.slice ea2 (i + 1) cr2) = some q → q ≠ cb := fun q h => by
       have := vq.lt
       rcases hat2 with e | e
       ·exact hnb q (by rw [← e]; exact h)
       ·rw [e] at h; cases h; omega
      clear hown hsz
      have hown := hown2
      have hsz := hsz2
      clear hown2 hsz2
      refine vOrd_nil ?_
      refine vT 24 ?_
      refine sZ 1 ?_
      refine vTree_end (by kernel_rfl) ?_
      refine wQ 1 ?_
      refine aP (-9223372036854775808) 9223372036854775807 ?_
      refine sZ 1 ?_
      exact ⟨_, _, by omega, (St.of_le' (env := [(0, .v _), (1, .v _), (2, .v _), (3, .v _)]) (mem := [(1007, _, _)]) ⟨rfl, rfl, rfl, rfl, trivial⟩ ⟨rfl, trivial⟩), i + 1, _, ea2, cr2, rfl, by omega, by omega, hown, hnb2, hsz, rfl⟩
     ·refine xC ((cell_var vq _).trans hx3) ?_
      refine vOrd_nil ?_
      refine vT 10 ?_
      refine xC ((cell_var vq _).trans hx1) ?_
      refine vOrd_nil ?_
      refine vT 21 ?_
      refine sB ?_
      refine vOrd_nil ?_
      refine vT 22 ?_
      refine s_bs (e := 125) (cs := [.int .i64 x.d, .int .i64 x.b, .int .i64 x.f, .int .i64 x.r]) rfl rfl rfl (fun _ => by kernel_rfl) ?_
      intro cq wq hcq lq hrowq
      replace hown := own_later hown lq
      replace hsz := Nat.le_trans hsz lq.size
      try replace vq := vq.later lq
      refine vOrd_nil ?_
      refine vT 23 ?_
      refine x_appendW (base := w.heap.size) (sz := 4) (bs := 32) (n := i) (m := 1) (news := [.int .i64 x.d, .int .i64 x.b, .int .i64 x.f, .int .i64 x.r]) rfl rfl rfl rfl rfl rfl rfl rfl rfl rfl rfl (by decide) hown (fun j y hj => by rw [Nat.zero_add, cell_var hrowq.var]; exact hj) rfl (by intro u hu; simp at hu; rcases hu with rfl | rfl | rfl | rfl <;> rfl) (by omega) (by omega) hsz (Nat.le_refl _) (by (repeat with_reducible refine AllMem.put ?_); exact AllMem.of ⟨fun h => hnb _ h rfl, trivial⟩) ?_
      intro v2 w2a hown2 hgr2 hat2
      have hsz2 := Nat.le_trans hsz hgr2.size
      obtain ⟨ea2, cr2, rfl⟩ := own_sliceK hown2
      rw [← pub_take hx] at hown2
      have hnb2 : ∀ q, Value.ownBlock (.slice ea2 (i + 1) cr2) = some q → q ≠ cb := fun q h => by
       have := vq.lt
       rcases hat2 with e | e
       ·exact hnb q (by rw [← e]; exact h)
       ·rw [e] at h; cases h; omega
      clear hown hsz
      have hown := hown2
      have hsz := hsz2
      clear hown2 hsz2
      refine vOrd_nil ?_
      refine vT 24 ?_
      refine sZ 1 ?_
      refine vTree_end (by kernel_rfl) ?_
      refine wQ 1 ?_
      refine aP (-9223372036854775808) 9223372036854775807 ?_
      refine sZ 1 ?_
      exact ⟨_, _, by omega, (St.of_le' (env := [(0, .v _), (1, .v _), (2, .v _), (3, .v _)]) (mem := [(1007, _, _)]) ⟨rfl, rfl, rfl, rfl, trivial⟩ ⟨rfl, trivial⟩), i + 1, _, ea2, cr2, rfl, by omega, by omega, hown, hnb2, hsz, rfl⟩
    ·refine xC ((cell_var vq _).trans hx3) ?_
     refine vOrd_nil ?_
     refine vTree_two (i := 10) (k := 15) (L1 := #[true, true, true, true, true, true, true, true, true, true, true, true, true, true, true, false, true, true, true, true, true, false, false, false, false]) (L2 := #[true, true, true, true, true, true, true, true, true, true, false, true, true, true, true, true, true, true, true, true, true, false, false, false, false]) (by kernel_rfl) (by kernel_rfl) (by kernel_rfl) ?_ ?_
     ·refine xC ((cell_var vq _).trans hx1) ?_
      refine vOrd_nil ?_
      refine vT 15 ?_
      refine xC ((cell_var vq _).trans hx2) ?_
      refine vOrd_nil ?_
      refine vT 21 ?_
      refine sB ?_
      refine vOrd_nil ?_
      refine vT 22 ?_
      refine s_bs (e := 125) (cs := [.int .i64 x.d, .int .i64 x.b, .int .i64 x.f, .int .i64 x.r]) rfl rfl rfl (fun _ => by kernel_rfl) ?_
      intro cq wq hcq lq hrowq
      replace hown := own_later hown lq
      replace hsz := Nat.le_trans hsz lq.size
      try replace vq := vq.later lq
      refine vOrd_nil ?_
      refine vT 23 ?_
      refine x_appendW (base := w.heap.size) (sz := 4) (bs := 32) (n := i) (m := 1) (news := [.int .i64 x.d, .int .i64 x.b, .int .i64 x.f, .int .i64 x.r]) rfl rfl rfl rfl rfl rfl rfl rfl rfl rfl rfl (by decide) hown (fun j y hj => by rw [Nat.zero_add, cell_var hrowq.var]; exact hj) rfl (by intro u hu; simp at hu; rcases hu with rfl | rfl | rfl | rfl <;> rfl) (by omega) (by omega) hsz (Nat.le_refl _) (by (repeat with_reducible refine AllMem.put ?_); exact AllMem.of ⟨fun h => hnb _ h rfl, trivial⟩) ?_
      intro v2 w2a hown2 hgr2 hat2
      have hsz2 := Nat.le_trans hsz hgr2.size
      obtain ⟨ea2, cr2, rfl⟩ := own_sliceK hown2
      rw [← pub_take hx] at hown2
      have hnb2 : ∀ q, Value.ownBlock (.slice ea2 (i + 1) cr2) = some q → q ≠ cb := fun q h => by
       have := vq.lt
       rcases hat2 with e | e
       ·exact hnb q (by rw [← e]; exact h)
       ·rw [e] at h; cases h; omega
      clear hown hsz
      have hown := hown2
      have hsz := hsz2
      clear hown2 hsz2
      refine vOrd_nil ?_
      refine vT 24 ?_
      refine sZ 1 ?_
      refine vTree_end (by kernel_rfl) ?_
      refine wQ 1 ?_
      refine aP (-9223372036854775808) 9223372036854775807 ?_
      refine sZ 1 ?_
      exact ⟨_, _, by omega, (St.of_le' (env := [(0, .v _), (1, .v _), (2, .v _), (3, .v _)]) (mem := [(1007, _, _)]) ⟨rfl, rfl, rfl, rfl, trivial⟩ ⟨rfl, trivial⟩), i + 1, _, ea2, cr2, rfl, by omega, by omega, hown, hnb2, hsz, rfl⟩
     ·refine xC ((cell_var vq _).trans hx2) ?_
      refine vOrd_nil ?_
      refine vT 10 ?_
      refine xC ((cell_var vq _).trans hx1) ?_
      refine vOrd_nil ?_
      refine vT 21 ?_
      refine sB ?_
      refine vOrd_nil ?_
      refine vT 22 ?_
      refine s_bs (e := 125) (cs := [.int .i64 x.d, .int .i64 x.b, .int .i64 x.f, .int .i64 x.r]) rfl rfl rfl (fun _ => by kernel_rfl) ?_
      intro cq wq hcq lq hrowq
      replace hown := own_later hown lq
      replace hsz := Nat.le_trans hsz lq.size
      try replace vq := vq.later lq
      refine vOrd_nil ?_
      refine vT 23 ?_
      refine x_appendW (base := w.heap.size) (sz := 4) (bs := 32) (n := i) (m := 1) (news := [.int .i64 x.d, .int .i64 x.b, .int .i64 x.f, .int .i64 x.r]) rfl rfl rfl rfl rfl rfl rfl rfl rfl rfl rfl (by decide) hown (fun j y hj => by rw [Nat.zero_add, cell_var hrowq.var]; exact hj) rfl (by intro u hu; simp at hu; rcases hu with rfl | rfl | rfl | rfl <;> rfl) (by omega) (by omega) hsz (Nat.le_refl _) (by (repeat with_reducible refine AllMem.put ?_); exact AllMem.of ⟨fun h => hnb _ h rfl, trivial⟩) ?_
      intro v2 w2a hown2 hgr2 hat2
      have hsz2 := Nat.le_trans hsz hgr2.size
      obtain ⟨ea2, cr2, rfl⟩ := own_sliceK hown2
      rw [← pub_take hx] at hown2
      have hnb2 : ∀ q, Value.ownBlock (.slice ea2 (i + 1) cr2) = some q → q ≠ cb := fun q h => by
       have := vq.lt
       rcases hat2 with e | e
       ·exact hnb q (by rw [← e]; exact h)
       ·rw [e] at h; cases h; omega
      clear hown hsz
      have hown := hown2
      have hsz := hsz2
      clear hown2 hsz2
      refine vOrd_nil ?_
      refine vT 24 ?_
      refine sZ 1 ?_
      refine vTree_end (by kernel_rfl) ?_
      refine wQ 1 ?_
      refine aP (-9223372036854775808) 9223372036854775807 ?_
      refine sZ 1 ?_
      exact ⟨_, _, by omega, (St.of_le' (env := [(0, .v _), (1, .v _), (2, .v _), (3, .v _)]) (mem := [(1007, _, _)]) ⟨rfl, rfl, rfl, rfl, trivial⟩ ⟨rfl, trivial⟩), i + 1, _, ea2, cr2, rfl, by omega, by omega, hown, hnb2, hsz, rfl⟩
   ·refine xC ((cell_var vq _).trans hx1) ?_
    refine vOrd_nil ?_
    refine vTree_three (i := 5) (k := 15) (j := 20) (L1 := #[true, true, true, true, true, true, true, true, true, true, true, true, true, true, true, false, true, true, true, true, false, false, false, false, false]) (L2 := #[true, true, true, true, true, false, true, true, true, true, true, true, true, true, true, true, true, true, true, true, false, false, false, false, false]) (L3 := #[true, true, true, true, true, false, true, true, true, true, true, true, true, true, true, false, true, true, true, true, true, false, false, false, false]) (by kernel_rfl) (by kernel_rfl) (by kernel_rfl) (by kernel_rfl) ?_ ?_ ?_
    ·refine xC ((cell_var vq _).trans hx0) ?_
     refine vOrd_nil ?_
     refine vTree_two (i := 15) (k := 20) (L1 := #[true, true, true, true, true, true, true, true, true, true, true, true, true, true, true, true, true, true, true, true, false, false, false, false, false]) (L2 := #[true, true, true, true, true, true, true, true, true, true, true, true, true, true, true, false, true, true, true, true, true, false, false, false, false]) (by kernel_rfl) (by kernel_rfl) (by kernel_rfl) ?_ ?_
     ·refine xC ((cell_var vq _).trans hx2) ?_
      refine vOrd_nil ?_
      refine vT 20 ?_
      refine xC ((cell_var vq _).trans hx3) ?_
      refine vOrd_nil ?_
      refine vT 21 ?_
      refine sB ?_
      refine vOrd_nil ?_
      refine vT 22 ?_
      refine s_bs (e := 125) (cs := [.int .i64 x.d, .int .i64 x.b, .int .i64 x.f, .int .i64 x.r]) rfl rfl rfl (fun _ => by kernel_rfl) ?_
      intro cq wq hcq lq hrowq
      replace hown := own_later hown lq
      replace hsz := Nat.le_trans hsz lq.size
      try replace vq := vq.later lq
      refine vOrd_nil ?_
      refine vT 23 ?_
      refine x_appendW (base := w.heap.size) (sz := 4) (bs := 32) (n := i) (m := 1) (news := [.int .i64 x.d, .int .i64 x.b, .int .i64 x.f, .int .i64 x.r]) rfl rfl rfl rfl rfl rfl rfl rfl rfl rfl rfl (by decide) hown (fun j y hj => by rw [Nat.zero_add, cell_var hrowq.var]; exact hj) rfl (by intro u hu; simp at hu; rcases hu with rfl | rfl | rfl | rfl <;> rfl) (by omega) (by omega) hsz (Nat.le_refl _) (by (repeat with_reducible refine AllMem.put ?_); exact AllMem.of ⟨fun h => hnb _ h rfl, trivial⟩) ?_
      intro v2 w2a hown2 hgr2 hat2
      have hsz2 := Nat.le_trans hsz hgr2.size
      obtain ⟨ea2, cr2, rfl⟩ := own_sliceK hown2
      rw [← pub_take hx] at hown2
      have hnb2 : ∀ q, Value.ownBlock (.slice ea2 (i + 1) cr2) = some q → q ≠ cb := fun q h => by
       have := vq.lt
       rcases hat2 with e | e
       ·exact hnb q (by rw [← e]; exact h)
       ·rw [e] at h; cases h; omega
      clear hown hsz
      have hown := hown2
      have hsz := hsz2
      clear hown2 hsz2
      refine vOrd_nil ?_
      refine vT 24 ?_
      refine sZ 1 ?_
      refine vTree_end (by kernel_rfl) ?_
      refine wQ 1 ?_
      refine aP (-9223372036854775808) 9223372036854775807 ?_
      refine sZ 1 ?_
      exact ⟨_, _, by omega, (St.of_le' (env := [(0, .v _), (1, .v _), (2, .v _), (3, .v _)]) (mem := [(1007, _, _)]) ⟨rfl, rfl, rfl, rfl, trivial⟩ ⟨rfl, trivial⟩), i + 1, _, ea2, cr2, rfl, by omega, by omega, hown, hnb2, hsz, rfl⟩
     ·refine xC ((cell_var vq _).trans hx3) ?_
      refine vOrd_nil ?_
      refine vT 15 ?_
      refine xC ((cell_var vq _).trans hx2) ?_
      refine vOrd_nil ?_
      refine vT 21 ?_
      refine sB ?_
      refine vOrd_nil ?_
      refine vT 22 ?_
      refine s_bs (e := 125) (cs := [.int .i64 x.d, .int .i64 x.b, .int .i64 x.f, .int .i64 x.r]) rfl rfl rfl (fun _ => by kernel_rfl) ?_
      intro cq wq hcq lq hrowq
      replace hown := own_later hown lq
      replace hsz := Nat.le_trans hsz lq.size
      try replace vq := vq.later lq
      refine vOrd_nil ?_
      refine vT 23 ?_
      refine x_appendW (base := w.heap.size) (sz := 4) (bs := 32) (n := i) (m := 1) (news := [.int .i64 x.d, .int .i64 x.b, .int .i64 x.f, .int .i64 x.r]) rfl rfl rfl rfl rfl rfl rfl rfl rfl rfl rfl (by decide) hown (fun j y hj => by rw [Nat.zero_add, cell_var hrowq.var]; exact hj) rfl (by intro u hu; simp at hu; rcases hu with rfl | rfl | rfl | rfl <;> rfl) (by omega) (by omega) hsz (Nat.le_refl _) (by (repeat with_reducible refine AllMem.put ?_); exact AllMem.of ⟨fun h => hnb _ h rfl, trivial⟩) ?_
      intro v2 w2a hown2 hgr2 hat2
      have hsz2 := Nat.le_trans hsz hgr2.size
      obtain ⟨ea2, cr2, rfl⟩ := own_sliceK hown2
      rw [← pub_take hx] at hown2
      have hnb2 : ∀ q, Value.ownBlock (.slice ea2 (i + 1) cr2) = some q → q ≠ cb := fun q h => by
       have := vq.lt
       rcases hat2 with e | e
       ·exact hnb q (by rw [← e]; exact h)
       ·rw [e] at h; cases h; omega
      clear hown hsz
      have hown := hown2
      have hsz := hsz2
      clear hown2 hsz2
      refine vOrd_nil ?_
      refine vT 24 ?_
      refine sZ 1 ?_
      refine vTree_end (by kernel_rfl) ?_
      refine wQ 1 ?_
      refine aP (-9223372036854775808) 9223372036854775807 ?_
      refine sZ 1 ?_
      exact ⟨_, _, by omega, (St.of_le' (env := [(0, .v _), (1, .v _), (2, .v _), (3, .v _)]) (mem := [(1007, _, _)]) ⟨rfl, rfl, rfl, rfl, trivial⟩ ⟨rfl, trivial⟩), i + 1, _, ea2, cr2, rfl, by omega, by omega, hown, hnb2, hsz, rfl⟩
    ·refine xC ((cell_var vq _).trans hx2) ?_
     refine vOrd_nil ?_
     refine vTree_two (i := 5) (k := 20) (L1 := #[true, true, true, true, true, true, true, true, true, true, true, true, true, true, true, true, true, true, true, true, false, false, false, false, false]) (L2 := #[true, true, true, true, true, false, true, true, true, true, true, true, true, true, true, true, true, true, true, true, true, false, false, false, false]) (by kernel_rfl) (by kernel_rfl) (by kernel_rfl) ?_ ?_
     ·refine xC ((cell_var vq _).trans hx0) ?_
      refine vOrd_nil ?_
      refine vT 20 ?_
      refine xC ((cell_var vq _).trans hx3) ?_
      refine vOrd_nil ?_
      refine vT 21 ?_
      refine sB ?_
      refine vOrd_nil ?_
      refine vT 22 ?_
      refine s_bs (e := 125) (cs := [.int .i64 x.d, .int .i64 x.b, .int .i64 x.f, .int .i64 x.r]) rfl rfl rfl (fun _ => by kernel_rfl) ?_
      intro cq wq hcq lq hrowq
      replace hown := own_later hown lq
      replace hsz := Nat.le_trans hsz lq.size
      try replace vq := vq.later lq
      refine vOrd_nil ?_
      refine vT 23 ?_
      refine x_appendW (base := w.heap.size) (sz := 4) (bs := 32) (n := i) (m := 1) (news := [.int .i64 x.d, .int .i64 x.b, .int .i64 x.f, .int .i64 x.r]) rfl rfl rfl rfl rfl rfl rfl rfl rfl rfl rfl (by decide) hown (fun j y hj => by rw [Nat.zero_add, cell_var hrowq.var]; exact hj) rfl (by intro u hu; simp at hu; rcases hu with rfl | rfl | rfl | rfl <;> rfl) (by omega) (by omega) hsz (Nat.le_refl _) (by (repeat with_reducible refine AllMem.put ?_); exact AllMem.of ⟨fun h => hnb _ h rfl, trivial⟩) ?_
      intro v2 w2a hown2 hgr2 hat2
      have hsz2 := Nat.le_trans hsz hgr2.size
      obtain ⟨ea2, cr2, rfl⟩ := own_sliceK hown2
      rw [← pub_take hx] at hown2
      have hnb2 : ∀ q, Value.ownBlock (.slice ea2 (i + 1) cr2) = some q → q ≠ cb := fun q h => by
       have := vq.lt
       rcases hat2 with e | e
       ·exact hnb q (by rw [← e]; exact h)
       ·rw [e] at h; cases h; omega
      clear hown hsz
      have hown := hown2
      have hsz := hsz2
      clear hown2 hsz2
      refine vOrd_nil ?_
      refine vT 24 ?_
      refine sZ 1 ?_
      refine vTree_end (by kernel_rfl) ?_
      refine wQ 1 ?_
      refine aP (-9223372036854775808) 9223372036854775807 ?_
      refine sZ 1 ?_
      exact ⟨_, _, by omega, (St.of_le' (env := [(0, .v _), (1, .v _), (2, .v _), (3, .v _)]) (mem := [(1007, _, _)]) ⟨rfl, rfl, rfl, rfl, trivial⟩ ⟨rfl, trivial⟩), i + 1, _, ea2, cr2, rfl, by omega, by omega, hown, hnb2, hsz, rfl⟩
     ·refine xC ((cell_var vq _).trans hx3) ?_
      refine vOrd_nil ?_
      refine vT 5 ?_
      refine xC ((cell_var vq _).trans hx0) ?_
      refine vOrd_nil ?_
      refine vT 21 ?_
      refine sB ?_
      refine vOrd_nil ?_
      refine vT 22 ?_
      refine s_bs (e := 125) (cs := [.int .i64 x.d, .int .i64 x.b, .int .i64 x.f, .int .i64 x.r]) rfl rfl rfl (fun _ => by kernel_rfl) ?_
      intro cq wq hcq lq hrowq
      replace hown := own_later hown lq
      replace hsz := Nat.le_trans hsz lq.size
      try replace vq := vq.later lq
      refine vOrd_nil ?_
      refine vT 23 ?_
      refine x_appendW (base := w.heap.size) (sz := 4) (bs := 32) (n := i) (m := 1) (news := [.int .i64 x.d, .int .i64 x.b, .int .i64 x.f, .int .i64 x.r]) rfl rfl rfl rfl rfl rfl rfl rfl rfl rfl rfl (by decide) hown (fun j y hj => by rw [Nat.zero_add, cell_var hrowq.var]; exact hj) rfl (by intro u hu; simp at hu; rcases hu with rfl | rfl | rfl | rfl <;> rfl) (by omega) (by omega) hsz (Nat.le_refl _) (by (repeat with_reducible refine AllMem.put ?_); exact AllMem.of ⟨fun h => hnb _ h rfl, trivial⟩) ?_
      intro v2 w2a hown2 hgr2 hat2
      have hsz2 := Nat.le_trans hsz hgr2.size
      obtain ⟨ea2, cr2, rfl⟩ := own_sliceK hown2
      rw [← pub_take hx] at hown2
      have hnb2 : ∀ q, Value.ownBlock (.slice ea2 (i + 1) cr2) = some q → q ≠ cb := fun q h => by
       have := vq.lt
       rcases hat2 with e | e
       ·exact hnb q (by rw [← e]; exact h)
       ·rw [e] at h; cases h; omega
      clear hown hsz
      have hown := hown2
      have hsz := hsz2
      clear hown2 hsz2
      refine vOrd_nil ?_
      refine vT 24 ?_
      refine sZ 1 ?_
      refine vTree_end (by kernel_rfl) ?_
      refine wQ 1 ?_
      refine aP (-9223372036854775808) 9223372036854775807 ?_
      refine sZ 1 ?_
      exact ⟨_, _, by omega, (St.of_le' (env := [(0, .v _), (1, .v _), (2, .v _), (3, .v _)]) (mem := [(1007, _, _)]) ⟨rfl, rfl, rfl, rfl, trivial⟩ ⟨rfl, trivial⟩), i + 1, _, ea2, cr2, rfl, by omega, by omega, hown, hnb2, hsz, rfl⟩
    ·refine xC ((cell_var vq _).trans hx3) ?_
     refine vOrd_nil ?_
     refine vTree_two (i := 5) (k := 15) (L1 := #[true, true, true, true, true, true, true, true, true, true, true, true, true, true, true, false, true, true, true, true, true, false, false, false, false]) (L2 := #[true, true, true, true, true, false, true, true, true, true, true, true, true, true, true, true, true, true, true, true, true, false, false, false, false]) (by kernel_rfl) (by kernel_rfl) (by kernel_rfl) ?_ ?_
     ·refine xC ((cell_var vq _).trans hx0) ?_
      refine vOrd_nil ?_
      refine vT 15 ?_
      refine xC ((cell_var vq _).trans hx2) ?_
      refine vOrd_nil ?_
      refine vT 21 ?_
      refine sB ?_
      refine vOrd_nil ?_
      refine vT 22 ?_
      refine s_bs (e := 125) (cs := [.int .i64 x.d, .int .i64 x.b, .int .i64 x.f, .int .i64 x.r]) rfl rfl rfl (fun _ => by kernel_rfl) ?_
      intro cq wq hcq lq hrowq
      replace hown := own_later hown lq
      replace hsz := Nat.le_trans hsz lq.size
      try replace vq := vq.later lq
      refine vOrd_nil ?_
      refine vT 23 ?_
      refine x_appendW (base := w.heap.size) (sz := 4) (bs := 32) (n := i) (m := 1) (news := [.int .i64 x.d, .int .i64 x.b, .int .i64 x.f, .int .i64 x.r]) rfl rfl rfl rfl rfl rfl rfl rfl rfl rfl rfl (by decide) hown (fun j y hj => by rw [Nat.zero_add, cell_var hrowq.var]; exact hj) rfl (by intro u hu; simp at hu; rcases hu with rfl | rfl | rfl | rfl <;> rfl) (by omega) (by omega) hsz (Nat.le_refl _) (by (repeat with_reducible refine AllMem.put ?_); exact AllMem.of ⟨fun h => hnb _ h rfl, trivial⟩) ?_
      intro v2 w2a hown2 hgr2 hat2
      have hsz2 := Nat.le_trans hsz hgr2.size
      obtain ⟨ea2, cr2, rfl⟩ := own_sliceK hown2
      rw [← pub_take hx] at hown2
      have hnb2 : ∀ q, Value.ownBlock (.slice ea2 (i + 1) cr2) = some q → q ≠ cb := fun q h => by
       have := vq.lt
       rcases hat2 with e | e
       ·exact hnb q (by rw [← e]; exact h)
       ·rw [e] at h; cases h; omega
      clear hown hsz
      have hown := hown2
      have hsz := hsz2
      clear hown2 hsz2
      refine vOrd_nil ?_
      refine vT 24 ?_
      refine sZ 1 ?_
      refine vTree_end (by kernel_rfl) ?_
      refine wQ 1 ?_
      refine aP (-9223372036854775808) 9223372036854775807 ?_
      refine sZ 1 ?_
      exact ⟨_, _, by omega, (St.of_le' (env := [(0, .v _), (1, .v _), (2, .v _), (3, .v _)]) (mem := [(1007, _, _)]) ⟨rfl, rfl, rfl, rfl, trivial⟩ ⟨rfl, trivial⟩), i + 1, _, ea2, cr2, rfl, by omega, by omega, hown, hnb2, hsz, rfl⟩
     ·refine xC ((cell_var vq _).trans hx2) ?_
      refine vOrd_nil ?_
      refine vT 5 ?_
      refine xC ((cell_var vq _).trans hx0) ?_
      refine vOrd_nil ?_
      refine vT 21 ?_
      refine sB ?_
      refine vOrd_nil ?_
      refine vT 22 ?_
      refine s_bs (e := 125) (cs := [.int .i64 x.d, .int .i64 x.b, .int .i64 x.f, .int .i64 x.r]) rfl rfl rfl (fun _ => by kernel_rfl) ?_
      intro cq wq hcq lq hrowq
      replace hown := own_later hown lq
      replace hsz := Nat.le_trans hsz lq.size
      try replace vq := vq.later lq
      refine vOrd_nil ?_
      refine vT 23 ?_
      refine x_appendW (base := w.heap.size) (sz := 4) (bs := 32) (n := i) (m := 1) (news := [.int .i64 x.d, .int .i64 x.b, .int .i64 x.f, .int .i64 x.r]) rfl rfl rfl rfl rfl rfl rfl rfl rfl rfl rfl (by decide) hown (fun j y hj => by rw [Nat.zero_add, cell_var hrowq.var]; exact hj) rfl (by intro u hu; simp at hu; rcases hu with rfl | rfl | rfl | rfl <;> rfl) (by omega) (by omega) hsz (Nat.le_refl _) (by (repeat with_reducible refine AllMem.put ?_); exact AllMem.of ⟨fun h => hnb _ h rfl, trivial⟩) ?_
      intro v2 w2a hown2 hgr2 hat2
      have hsz2 := Nat.le_trans hsz hgr2.size
      obtain ⟨ea2, cr2, rfl⟩ := own_sliceK hown2
      rw [← pub_take hx] at hown2
      have hnb2 : ∀ q, Value.ownBlock (.slice ea2 (i + 1) cr2) = some q → q ≠ cb := fun q h => by
       have := vq.lt
       rcases hat2 with e | e
       ·exact hnb q (by rw [← e]; exact h)
       ·rw [e] at h; cases h; omega
      clear hown hsz
      have hown := hown2
      have hsz := hsz2
      clear hown2 hsz2
      refine vOrd_nil ?_
      refine vT 24 ?_
      refine sZ 1 ?_
      refine vTree_end (by kernel_rfl) ?_
      refine wQ 1 ?_
      refine aP (-9223372036854775808) 9223372036854775807 ?_
      refine sZ 1 ?_
      exact ⟨_, _, by omega, (St.of_le' (env := [(0, .v _), (1, .v _), (2, .v _), (3, .v _)]) (mem := [(1007, _, _)]) ⟨rfl, rfl, rfl, rfl, trivial⟩ ⟨rfl, trivial⟩), i + 1, _, ea2, cr2, rfl, by omega, by omega, hown, hnb2, hsz, rfl⟩
   ·refine xC ((cell_var vq _).trans hx2) ?_
    refine vOrd_nil ?_
    refine vTree_three (i := 5) (k := 10) (j := 20) (L1 := #[true, true, true, true, true, true, true, true, true, true, false, true, true, true, true, true, true, true, true, true, false, false, false, false, false]) (L2 := #[true, true, true, true, true, false, true, true, true, true, true, true, true, true, true, true, true, true, true, true, false, false, false, false, false]) (L3 := #[true, true, true, true, true, false, true, true, true, true, false, true, true, true, true, true, true, true, true, true, true, false, false, false, false]) (by kernel_rfl) (by kernel_rfl) (by kernel_rfl) (by kernel_rfl) ?_ ?_ ?_
    ·refine xC ((cell_var vq _).trans hx0) ?_
     refine vOrd_nil ?_
     refine vTree_two (i := 10) (k := 20) (L1 := #[true, true, true, true, true, true, true, true, true, true, true, true, true, true, true, true, true, true, true, true, false, false, false, false, false]) (L2 := #[true, true, true, true, true, true, true, true, true, true, false, true, true, true, true, true, true, true, true, true, true, false, false, false, false]) (by kernel_rfl) (by kernel_rfl) (by kernel_rfl) ?_ ?_
     ·refine xC ((cell_var vq _).trans hx1) ?_
      refine vOrd_nil ?_
      refine vT 20 ?_
      refine xC ((cell_var vq _).trans hx3) ?_
      refine vOrd_nil ?_
      refine vT 21 ?_
      refine sB ?_
      refine vOrd_nil ?_
      refine vT 22 ?_
      refine s_bs (e := 125) (cs := [.int .i64 x.d, .int .i64 x.b, .int .i64 x.f, .int .i64 x.r]) rfl rfl rfl (fun _ => by kernel_rfl) ?_
      intro cq wq hcq lq hrowq
      replace hown := own_later hown lq
      replace hsz := Nat.le_trans hsz lq.size
      try replace vq := vq.later lq
      refine vOrd_nil ?_
      refine vT 23 ?_
      refine x_appendW (base := w.heap.size) (sz := 4) (bs := 32) (n := i) (m := 1) (news := [.int .i64 x.d, .int .i64 x.b, .int .i64 x.f, .int .i64 x.r]) rfl rfl rfl rfl rfl rfl rfl rfl rfl rfl rfl (by decide) hown (fun j y hj => by rw [Nat.zero_add, cell_var hrowq.var]; exact hj) rfl (by intro u hu; simp at hu; rcases hu with rfl | rfl | rfl | rfl <;> rfl) (by omega) (by omega) hsz (Nat.le_refl _) (by (repeat with_reducible refine AllMem.put ?_); exact AllMem.of ⟨fun h => hnb _ h rfl, trivial⟩) ?_
      intro v2 w2a hown2 hgr2 hat2
      have hsz2 := Nat.le_trans hsz hgr2.size
      obtain ⟨ea2, cr2, rfl⟩ := own_sliceK hown2
      rw [← pub_take hx] at hown2
      have hnb2 : ∀ q, Value.ownBlock (.slice ea2 (i + 1) cr2) = some q → q ≠ cb := fun q h => by
       have := vq.lt
       rcases hat2 with e | e
       ·exact hnb q (by rw [← e]; exact h)
       ·rw [e] at h; cases h; omega
      clear hown hsz
      have hown := hown2
      have hsz := hsz2
      clear hown2 hsz2
      refine vOrd_nil ?_
      refine vT 24 ?_
      refine sZ 1 ?_
      refine vTree_end (by kernel_rfl) ?_
      refine wQ 1 ?_
      refine aP (-9223372036854775808) 9223372036854775807 ?_
      refine sZ 1 ?_
      exact ⟨_, _, by omega, (St.of_le' (env := [(0, .v _), (1, .v _), (2, .v _), (3, .v _)]) (mem := [(1007, _, _)]) ⟨rfl, rfl, rfl, rfl, trivial⟩ ⟨rfl, trivial⟩), i + 1, _, ea2, cr2, rfl, by omega, by omega, hown, hnb2, hsz, rfl⟩
     ·refine xC ((cell_var vq _).trans hx3) ?_
      refine vOrd_nil ?_
      refine vT 10 ?_
      refine xC ((cell_var vq _).trans hx1) ?_
      refine vOrd_nil ?_
      refine vT 21 ?_
      refine sB ?_
      refine vOrd_nil ?_
      refine vT 22 ?_
      refine s_bs (e := 125) (cs := [.int .i64 x.d, .int .i64 x.b, .int .i64 x.f, .int .i64 x.r]) rfl rfl rfl (fun _ => by kernel_rfl) ?_
      intro cq wq hcq lq hrowq
      replace hown := own_later hown lq
      replace hsz := Nat.le_trans hsz lq.size
      try replace vq := vq.later lq
      refine vOrd_nil ?_
      refine vT 23 ?_
      refine x_appendW (base := w.heap.size) (sz := 4) (bs := 32) (n := i) (m := 1) (news := [.int .i64 x.d, .int .i64 x.b, .int .i64 x.f, .int .i64 x.r]) rfl rfl rfl rfl rfl rfl rfl rfl rfl rfl rfl (by decide) hown (fun j y hj => by rw [Nat.zero_add, cell_var hrowq.var]; exact hj) rfl (by intro u hu; simp at hu; rcases hu with rfl | rfl | rfl | rfl <;> rfl) (by omega) (by omega) hsz (Nat.le_refl _) (by (repeat with_reducible refine AllMem.put ?_); exact AllMem.of ⟨fun h => hnb _ h rfl, trivial⟩) ?_
      intro v2 w2a hown2 hgr2 hat2
      have hsz2 := Nat.le_trans hsz hgr2.size
      obtain ⟨ea2, cr2, rfl⟩ := own_sliceK hown2
      rw [← pub_take hx] at hown2
      have hnb2 : ∀ q, Value.ownBlock (.slice ea2 (i + 1) cr2) = some q → q ≠ cb := fun q h => by
       have := vq.lt
       rcases hat2 with e | e
       ·exact hnb q (by rw [← e]; exact h)
       ·rw [e] at h; cases h; omega
      clear hown hsz
      have hown := hown2
      have hsz := hsz2
      clear hown2 hsz2
      refine vOrd_nil ?_
      refine vT 24 ?_
      refine sZ 1 ?_
      refine vTree_end (by kernel_rfl) ?_
      refine wQ 1 ?_
      refine aP (-9223372036854775808) 9223372036854775807 ?_
      refine sZ 1 ?_
      exact ⟨_, _, by omega, (St.of_le' (env := [(0, .v _), (1, .v _), (2, .v _), (3, .v _)]) (mem := [(1007, _, _)]) ⟨rfl, rfl, rfl, rfl, trivial⟩ ⟨rfl, trivial⟩), i + 1, _, ea2, cr2, rfl, by omega, by omega, hown, hnb2, hsz, rfl⟩
    ·refine xC ((cell_var vq _).trans hx1) ?_
     refine vOrd_nil ?_
     refine vTree_two (i := 5) (k := 20) (L1 := #[true, true, true, true, true, true, true, true, true, true, true, true, true, true, true, true, true, true, true, true, false, false, false, false, false]) (L2 := #[true, true, true, true, true, false, true, true, true, true, true, true, true, true, true, true, true, true, true, true, true, false, false, false, false]) (by kernel_rfl) (by kernel_rfl) (by kernel_rfl) ?_ ?_
     ·refine xC ((cell_var vq _).trans hx0) ?_
      refine vOrd_nil ?_
      refine vT 20 ?_
      refine xC ((cell_var vq _).trans hx3) ?_
      refine vOrd_nil ?_
      refine vT 21 ?_
      refine sB ?_
      refine vOrd_nil ?_
      refine vT 22 ?_
      refine s_bs (e := 125) (cs := [.int .i64 x.d, .int .i64 x.b, .int .i64 x.f, .int .i64 x.r]) rfl rfl rfl (fun _ => by kernel_rfl) ?_
      intro cq wq hcq lq hrowq
      replace hown := own_later hown lq
      replace hsz := Nat.le_trans hsz lq.size
      try replace vq := vq.later lq
      refine vOrd_nil ?_
      refine vT 23 ?_
      refine x_appendW (base := w.heap.size) (sz := 4) (bs := 32) (n := i) (m := 1) (news := [.int .i64 x.d, .int .i64 x.b, .int .i64 x.f, .int .i64 x.r]) rfl rfl rfl rfl rfl rfl rfl rfl rfl rfl rfl (by decide) hown (fun j y hj => by rw [Nat.zero_add, cell_var hrowq.var]; exact hj) rfl (by intro u hu; simp at hu; rcases hu with rfl | rfl | rfl | rfl <;> rfl) (by omega) (by omega) hsz (Nat.le_refl _) (by (repeat with_reducible refine AllMem.put ?_); exact AllMem.of ⟨fun h => hnb _ h rfl, trivial⟩) ?_
      intro v2 w2a hown2 hgr2 hat2
      have hsz2 := Nat.le_trans hsz hgr2.size
      obtain ⟨ea2, cr2, rfl⟩ := own_sliceK hown2
      rw [← pub_take hx] at hown2
      have hnb2 : ∀ q, Value.ownBlock (.slice ea2 (i + 1) cr2) = some q → q ≠ cb := fun q h => by
       have := vq.lt
       rcases hat2 with e | e
       ·exact hnb q (by rw [← e]; exact h)
       ·rw [e] at h; cases h; omega
      clear hown hsz
      have hown := hown2
      have hsz := hsz2
      clear hown2 hsz2
      refine vOrd_nil ?_
      refine vT 24 ?_
      refine sZ 1 ?_
      refine vTree_end (by kernel_rfl) ?_
      refine wQ 1 ?_
      refine aP (-9223372036854775808) 9223372036854775807 ?_
      refine sZ 1 ?_
      exact ⟨_, _, by omega, (St.of_le' (env := [(0, .v _), (1, .v _), (2, .v _), (3, .v _)]) (mem := [(1007, _, _)]) ⟨rfl, rfl, rfl, rfl, trivial⟩ ⟨rfl, trivial⟩), i + 1, _, ea2, cr2, rfl, by omega, by omega, hown, hnb2, hsz, rfl⟩
     ·refine xC ((cell_var vq _).trans hx3) ?_
      refine vOrd_nil ?_
      refine vT 5 ?_
      refine xC ((cell_var vq _).trans hx0) ?_
      refine vOrd_nil ?_
      refine vT 21 ?_
      refine sB ?_
      refine vOrd_nil ?_
      refine vT 22 ?_
      refine s_bs (e := 125) (cs := [.int .i64 x.d, .int .i64 x.b, .int .i64 x.f, .int .i64 x.r]) rfl rfl rfl (fun _ => by kernel_rfl) ?_
      intro cq wq hcq lq hrowq
      replace hown := own_later hown lq
      replace hsz := Nat.le_trans hsz lq.size
      try replace vq := vq.later lq
      refine vOrd_nil ?_
      refine vT 23 ?_
      refine x_appendW (base := w.heap.size) (sz := 4) (bs := 32) (n := i) (m := 1) (news := [.int .i64 x.d, .int .i64 x.b, .int .i64 x.f, .int .i64 x.r]) rfl rfl rfl rfl rfl rfl rfl rfl rfl rfl rfl (by decide) hown (fun j y hj => by rw [Nat.zero_add, cell_var hrowq.var]; exact hj) rfl (by intro u hu; simp at hu; rcases hu with rfl | rfl | rfl | rfl <;> rfl) (by omega) (by omega) hsz (Nat.le_refl _) (by (repeat with_reducible refine AllMem.put ?_); exact AllMem.of ⟨fun h => hnb _ h rfl, trivial⟩) ?_
      intro v2 w2a hown2 hgr2 hat2
      have hsz2 := Nat.le_trans hsz hgr2.size
      obtain ⟨ea2, cr2, rfl⟩ := own_sliceK hown2
      rw [← pub_take hx] at hown2
      have hnb2 : ∀ q, Value.ownBlock (.slice ea2 (i + 1) cr2) = some q → q ≠ cb := fun q h => by
       have := vq.lt
       rcases hat2 with e | e
       ·exact hnb q (by rw [← e]; exact h)
       ·rw [e] at h; cases h; omega
      clear hown hsz
      have hown := hown2
      have hsz := hsz2
      clear hown2 hsz2
      refine vOrd_nil ?_
      refine vT 24 ?_
      refine sZ 1 ?_
      refine vTree_end (by kernel_rfl) ?_
      refine wQ 1 ?_
      refine aP (-9223372036854775808) 9223372036854775807 ?_
      refine sZ 1 ?_
      exact ⟨_, _, by omega, (St.of_le' (env := [(0, .v _), (1, .v _), (2, .v _), (3, .v _)]) (mem := [(1007, _, _)]) ⟨rfl, rfl, rfl, rfl, trivial⟩ ⟨rfl, trivial⟩), i + 1, _, ea2, cr2, rfl, by omega, by omega, hown, hnb2, hsz, rfl⟩
    ·refine xC ((cell_var vq _).trans hx3) ?_
     refine vOrd_nil ?_
     refine vTree_two (i := 5) (k := 10) (L1 := #[true, true, true, true, true, true, true, true, true, true, false, true, true, true, true, true, true, true, true, true, true, false, false, false, false]) (L2 := #[true, true, true, true, true, false, true, true, true, true, true, true, true, true, true, true, true, true, true, true, true, false, false, false, false]) (by kernel_rfl) (by kernel_rfl) (by kernel_rfl) ?_ ?_
     ·refine xC ((cell_var vq _).trans hx0) ?_
      refine vOrd_nil ?_
      refine vT 10 ?_
      refine xC ((cell_var vq _).trans hx1) ?_
      refine vOrd_nil ?_
      refine vT 21 ?_
      refine sB ?_
      refine vOrd_nil ?_
      refine vT 22 ?_
      refine s_bs (e := 125) (cs := [.int .i64 x.d, .int .i64 x.b, .int .i64 x.f, .int .i64 x.r]) rfl rfl rfl (fun _ => by kernel_rfl) ?_
      intro cq wq hcq lq hrowq
      replace hown := own_later hown lq
      replace hsz := Nat.le_trans hsz lq.size
      try replace vq := vq.later lq
      refine vOrd_nil ?_
      refine vT 23 ?_
      refine x_appendW (base := w.heap.size) (sz := 4) (bs := 32) (n := i) (m := 1) (news := [.int .i64 x.d, .int .i64 x.b, .int .i64 x.f, .int .i64 x.r]) rfl rfl rfl rfl rfl rfl rfl rfl rfl rfl rfl (by decide) hown (fun j y hj => by rw [Nat.zero_add, cell_var hrowq.var]; exact hj) rfl (by intro u hu; simp at hu; rcases hu with rfl | rfl | rfl | rfl <;> rfl) (by omega) (by omega) hsz (Nat.le_refl _) (by (repeat with_reducible refine AllMem.put ?_); exact AllMem.of ⟨fun h => hnb _ h rfl, trivial⟩) ?_
      intro v2 w2a hown2 hgr2 hat2
      have hsz2 := Nat.le_trans hsz hgr2.size
      obtain ⟨ea2, cr2, rfl⟩ := own_sliceK hown2
      rw [← pub_take hx] at hown2
      have hnb2 : ∀ q, Value.ownBlock (.slice ea2 (i + 1) cr2) = some q → q ≠ cb := fun q h => by
       have := vq.lt
       rcases hat2 with e | e
       ·exact hnb q (by rw [← e]; exact h)
       ·rw [e] at h; cases h; omega
      clear hown hsz
      have hown := hown2
      have hsz := hsz2
      clear hown2 hsz2
      refine vOrd_nil ?_
      refine vT 24 ?_
      refine sZ 1 ?_
      refine vTree_end (by kernel_rfl) ?_
      refine wQ 1 ?_
      refine aP (-9223372036854775808) 9223372036854775807 ?_
      refine sZ 1 ?_
      exact ⟨_, _, by omega, (St.of_le' (env := [(0, .v _), (1, .v _), (2, .v _), (3, .v _)]) (mem := [(1007, _, _)]) ⟨rfl, rfl, rfl, rfl, trivial⟩ ⟨rfl, trivial⟩), i + 1, _, ea2, cr2, rfl, by omega, by omega, hown, hnb2, hsz, rfl⟩
     ·refine xC ((cell_var vq _).trans hx1) ?_
      refine vOrd_nil ?_
      refine vT 5 ?_
      refine xC ((cell_var vq _).trans hx0) ?_
      refine vOrd_nil ?_
      refine vT 21 ?_
      refine sB ?_
      refine vOrd_nil ?_
      refine vT 22 ?_
      refine s_bs (e := 125) (cs := [.int .i64 x.d, .int .i64 x.b, .int .i64 x.f, .int .i64 x.r]) rfl rfl rfl (fun _ => by kernel_rfl) ?_
      intro cq wq hcq lq hrowq
      replace hown := own_later hown lq
      replace hsz := Nat.le_trans hsz lq.size
      try replace vq := vq.later lq
      refine vOrd_nil ?_
      refine vT 23 ?_
      refine x_appendW (base := w.heap.size) (sz := 4) (bs := 32) (n := i) (m := 1) (news := [.int .i64 x.d, .int .i64 x.b, .int .i64 x.f, .int .i64 x.r]) rfl rfl rfl rfl rfl rfl rfl rfl rfl rfl rfl (by decide) hown (fun j y hj => by rw [Nat.zero_add, cell_var hrowq.var]; exact hj) rfl (by intro u hu; simp at hu; rcases hu with rfl | rfl | rfl | rfl <;> rfl) (by omega) (by omega) hsz (Nat.le_refl _) (by (repeat with_reducible refine AllMem.put ?_); exact AllMem.of ⟨fun h => hnb _ h rfl, trivial⟩) ?_
      intro v2 w2a hown2 hgr2 hat2
      have hsz2 := Nat.le_trans hsz hgr2.size
      obtain ⟨ea2, cr2, rfl⟩ := own_sliceK hown2
      rw [← pub_take hx] at hown2
      have hnb2 : ∀ q, Value.ownBlock (.slice ea2 (i + 1) cr2) = some q → q ≠ cb := fun q h => by
       have := vq.lt
       rcases hat2 with e | e
       ·exact hnb q (by rw [← e]; exact h)
       ·rw [e] at h; cases h; omega
      clear hown hsz
      have hown := hown2
      have hsz := hsz2
      clear hown2 hsz2
      refine vOrd_nil ?_
      refine vT 24 ?_
      refine sZ 1 ?_
      refine vTree_end (by kernel_rfl) ?_
      refine wQ 1 ?_
      refine aP (-9223372036854775808) 9223372036854775807 ?_
      refine sZ 1 ?_
      exact ⟨_, _, by omega, (St.of_le' (env := [(0, .v _), (1, .v _), (2, .v _), (3, .v _)]) (mem := [(1007, _, _)]) ⟨rfl, rfl, rfl, rfl, trivial⟩ ⟨rfl, trivial⟩), i + 1, _, ea2, cr2, rfl, by omega, by omega, hown, hnb2, hsz, rfl⟩
   ·refine xC ((cell_var vq _).trans hx3) ?_
    refine vOrd_nil ?_
    refine vTree_three (i := 5) (k := 10) (j := 15) (L1 := #[true, true, true, true, true, true, true, true, true, true, false, true, true, true, true, false, true, true, true, true, true, false, false, false, false]) (L2 := #[true, true, true, true, true, false, true, true, true, true, true, true, true, true, true, false, true, true, true, true, true, false, false, false, false]) (L3 := #[true, true, true, true, true, false, true, true, true, true, false, true, true, true, true, true, true, true, true, true, true, false, false, false, false]) (by kernel_rfl) (by kernel_rfl) (by kernel_rfl) (by kernel_rfl) ?_ ?_ ?_
    ·refine xC ((cell_var vq _).trans hx0) ?_
     refine vOrd_nil ?_
     refine vTree_two (i := 10) (k := 15) (L1 := #[true, true, true, true, true, true, true, true, true, true, true, true, true, true, true, false, true, true, true, true, true, false, false, false, false]) (L2 := #[true, true, true, true, true, true, true, true, true, true, false, true, true, true, true, true, true, true, true, true, true, false, false, false, false]) (by kernel_rfl) (by kernel_rfl) (by kernel_rfl) ?_ ?_
     ·refine xC ((cell_var vq _).trans hx1) ?_
      refine vOrd_nil ?_
      refine vT 15 ?_
      refine xC ((cell_var vq _).trans hx2) ?_
      refine vOrd_nil ?_
      refine vT 21 ?_
      refine sB ?_
      refine vOrd_nil ?_
      refine vT 22 ?_
      refine s_bs (e := 125) (cs := [.int .i64 x.d, .int .i64 x.b, .int .i64 x.f, .int .i64 x.r]) rfl rfl rfl (fun _ => by kernel_rfl) ?_
      intro cq wq hcq lq hrowq
      replace hown := own_later hown lq
      replace hsz := Nat.le_trans hsz lq.size
      try replace vq := vq.later lq
      refine vOrd_nil ?_
      refine vT 23 ?_
      refine x_appendW (base := w.heap.size) (sz := 4) (bs := 32) (n := i) (m := 1) (news := [.int .i64 x.d, .int .i64 x.b, .int .i64 x.f, .int .i64 x.r]) rfl rfl rfl rfl rfl rfl rfl rfl rfl rfl rfl (by decide) hown (fun j y hj => by rw [Nat.zero_add, cell_var hrowq.var]; exact hj) rfl (by intro u hu; simp at hu; rcases hu with rfl | rfl | rfl | rfl <;> rfl) (by omega) (by omega) hsz (Nat.le_refl _) (by (repeat with_reducible refine AllMem.put ?_); exact AllMem.of ⟨fun h => hnb _ h rfl, trivial⟩) ?_
      intro v2 w2a hown2 hgr2 hat2
      have hsz2 := Nat.le_trans hsz hgr2.size
      obtain ⟨ea2, cr2, rfl⟩ := own_sliceK hown2
      rw [← pub_take hx] at hown2
      have hnb2 : ∀ q, Value.ownBlock (.slice ea2 (i + 1) cr2) = some q → q ≠ cb := fun q h => by
       have := vq.lt
       rcases hat2 with e | e
       ·exact hnb q (by rw [← e]; exact h)
       ·rw [e] at h; cases h; omega
      clear hown hsz
      have hown := hown2
      have hsz := hsz2
      clear hown2 hsz2
      refine vOrd_nil ?_
      refine vT 24 ?_
      refine sZ 1 ?_
      refine vTree_end (by kernel_rfl) ?_
      refine wQ 1 ?_
      refine aP (-9223372036854775808) 9223372036854775807 ?_
      refine sZ 1 ?_
      exact ⟨_, _, by omega, (St.of_le' (env := [(0, .v _), (1, .v _), (2, .v _), (3, .v _)]) (mem := [(1007, _, _)]) ⟨rfl, rfl, rfl, rfl, trivial⟩ ⟨rfl, trivial⟩), i + 1, _, ea2, cr2, rfl, by omega, by omega, hown, hnb2, hsz, rfl⟩
     ·refine xC ((cell_var vq _).trans hx2) ?_
      refine vOrd_nil ?_
      refine vT 10 ?_
      refine xC ((cell_var vq _).trans hx1) ?_
      refine vOrd_nil ?_
      refine vT 21 ?_
      refine sB ?_
      refine vOrd_nil ?_
      refine vT 22 ?_
      refine s_bs (e := 125) (cs := [.int .i64 x.d, .int .i64 x.b, .int .i64 x.f, .int .i64 x.r]) rfl rfl rfl (fun _ => by kernel_rfl) ?_
      intro cq wq hcq lq hrowq
      replace hown := own_later hown lq
      replace hsz := Nat.le_trans hsz lq.size
      try replace vq := vq.later lq
      refine vOrd_nil ?_
      refine vT 23 ?_
      refine x_appendW (base := w.heap.size) (sz := 4) (bs := 32) (n := i) (m := 1) (news := [.int .i64 x.d, .int .i64 x.b, .int .i64 x.f, .int .i64 x.r]) rfl rfl rfl rfl rfl rfl rfl rfl rfl rfl rfl (by decide) hown (fun j y hj => by rw [Nat.zero_add, cell_var hrowq.var]; exact hj) rfl (by intro u hu; simp at hu; rcases hu with rfl | rfl | rfl | rfl <;> rfl) (by omega) (by omega) hsz (Nat.le_refl _) (by (repeat with_reducible refine AllMem.put ?_); exact AllMem.of ⟨fun h => hnb _ h rfl, trivial⟩) ?_
      intro v2 w2a hown2 hgr2 hat2
      have hsz2 := Nat.le_trans hsz hgr2.size
      obtain ⟨ea2, cr2, rfl⟩ := own_sliceK hown2
      rw [← pub_take hx] at hown2
      have hnb2 : ∀ q, Value.ownBlock (.slice ea2 (i + 1) cr2) = some q → q ≠ cb := fun q h => by
       have := vq.lt
       rcases hat2 with e | e
       ·exact hnb q (by rw [← e]; exact h)
       ·rw [e] at h; cases h; omega
      clear hown hsz
      have hown := hown2
      have hsz := hsz2
      clear hown2 hsz2
      refine vOrd_nil ?_
      refine vT 24 ?_
      refine sZ 1 ?_
      refine vTree_end (by kernel_rfl) ?_
      refine wQ 1 ?_
      refine aP (-9223372036854775808) 9223372036854775807 ?_
      refine sZ 1 ?_
      exact ⟨_, _, by omega, (St.of_le' (env := [(0, .v _), (1, .v _), (2, .v _), (3, .v _)]) (mem := [(1007, _, _)]) ⟨rfl, rfl, rfl, rfl, trivial⟩ ⟨rfl, trivial⟩), i + 1, _, ea2, cr2, rfl, by omega, by omega, hown, hnb2, hsz, rfl⟩
    ·refine xC ((cell_var vq _).trans hx1) ?_
     refine vOrd_nil ?_
     refine vTree_two (i := 5) (k := 15) (L1 := #[true, true, true, true, true, true, true, true, true, true, true, true, true, true, true, false, true, true, true, true, true, false, false, false, false]) (L2 := #[true, true, true, true, true, false, true, true, true, true, true, true, true, true, true, true, true, true, true, true, true, false, false, false, false]) (by kernel_rfl) (by kernel_rfl) (by kernel_rfl) ?_ ?_
     ·refine xC ((cell_var vq _).trans hx0) ?_
      refine vOrd_nil ?_
      refine vT 15 ?_
      refine xC ((cell_var vq _).trans hx2) ?_
      refine vOrd_nil ?_
      refine vT 21 ?_
      refine sB ?_
      refine vOrd_nil ?_
      refine vT 22 ?_
      refine s_bs (e := 125) (cs := [.int .i64 x.d, .int .i64 x.b, .int .i64 x.f, .int .i64 x.r]) rfl rfl rfl (fun _ => by kernel_rfl) ?_
      intro cq wq hcq lq hrowq
      replace hown := own_later hown lq
      replace hsz := Nat.le_trans hsz lq.size
      try replace vq := vq.later lq
      refine vOrd_nil ?_
      refine vT 23 ?_
      refine x_appendW (base := w.heap.size) (sz := 4) (bs := 32) (n := i) (m := 1) (news := [.int .i64 x.d, .int .i64 x.b, .int .i64 x.f, .int .i64 x.r]) rfl rfl rfl rfl rfl rfl rfl rfl rfl rfl rfl (by decide) hown (fun j y hj => by rw [Nat.zero_add, cell_var hrowq.var]; exact hj) rfl (by intro u hu; simp at hu; rcases hu with rfl | rfl | rfl | rfl <;> rfl) (by omega) (by omega) hsz (Nat.le_refl _) (by (repeat with_reducible refine AllMem.put ?_); exact AllMem.of ⟨fun h => hnb _ h rfl, trivial⟩) ?_
      intro v2 w2a hown2 hgr2 hat2
      have hsz2 := Nat.le_trans hsz hgr2.size
      obtain ⟨ea2, cr2, rfl⟩ := own_sliceK hown2
      rw [← pub_take hx] at hown2
      have hnb2 : ∀ q, Value.ownBlock (.slice ea2 (i + 1) cr2) = some q → q ≠ cb := fun q h => by
       have := vq.lt
       rcases hat2 with e | e
       ·exact hnb q (by rw [← e]; exact h)
       ·rw [e] at h; cases h; omega
      clear hown hsz
      have hown := hown2
      have hsz := hsz2
      clear hown2 hsz2
      refine vOrd_nil ?_
      refine vT 24 ?_
      refine sZ 1 ?_
      refine vTree_end (by kernel_rfl) ?_
      refine wQ 1 ?_
      refine aP (-9223372036854775808) 9223372036854775807 ?_
      refine sZ 1 ?_
      exact ⟨_, _, by omega, (St.of_le' (env := [(0, .v _), (1, .v _), (2, .v _), (3, .v _)]) (mem := [(1007, _, _)]) ⟨rfl, rfl, rfl, rfl, trivial⟩ ⟨rfl, trivial⟩), i + 1, _, ea2, cr2, rfl, by omega, by omega, hown, hnb2, hsz, rfl⟩
     ·refine xC ((cell_var vq _).trans hx2) ?_
      refine vOrd_nil ?_
      refine vT 5 ?_
      refine xC ((cell_var vq _).trans hx0) ?_
      refine vOrd_nil ?_
      refine vT 21 ?_
      refine sB ?_
      refine vOrd_nil ?_
      refine vT 22 ?_
      refine s_bs (e := 125) (cs := [.int .i64 x.d, .int .i64 x.b, .int .i64 x.f, .int .i64 x.r]) rfl rfl rfl (fun _ => by kernel_rfl) ?_
      intro cq wq hcq lq hrowq
      replace hown := own_later hown lq
      replace hsz := Nat.le_trans hsz lq.size
      try replace vq := vq.later lq
      refine vOrd_nil ?_
      refine vT 23 ?_
      refine x_appendW (base := w.heap.size) (sz := 4) (bs := 32) (n := i) (m := 1) (news := [.int .i64 x.d, .int .i64 x.b, .int .i64 x.f, .int .i64 x.r]) rfl rfl rfl rfl rfl rfl rfl rfl rfl rfl rfl (by decide) hown (fun j y hj => by rw [Nat.zero_add, cell_var hrowq.var]; exact hj) rfl (by intro u hu; simp at hu; rcases hu with rfl | rfl | rfl | rfl <;> rfl) (by omega) (by omega) hsz (Nat.le_refl _) (by (repeat with_reducible refine AllMem.put ?_); exact AllMem.of ⟨fun h => hnb _ h rfl, trivial⟩) ?_
      intro v2 w2a hown2 hgr2 hat2
      have hsz2 := Nat.le_trans hsz hgr2.size
      obtain ⟨ea2, cr2, rfl⟩ := own_sliceK hown2
      rw [← pub_take hx] at hown2
      have hnb2 : ∀ q, Value.ownBlock (.slice ea2 (i + 1) cr2) = some q → q ≠ cb := fun q h => by
       have := vq.lt
       rcases hat2 with e | e
       ·exact hnb q (by rw [← e]; exact h)
       ·rw [e] at h; cases h; omega
      clear hown hsz
      have hown := hown2
      have hsz := hsz2
      clear hown2 hsz2
      refine vOrd_nil ?_
      refine vT 24 ?_
      refine sZ 1 ?_
      refine vTree_end (by kernel_rfl) ?_
      refine wQ 1 ?_
      refine aP (-9223372036854775808) 9223372036854775807 ?_
      refine sZ 1 ?_
      exact ⟨_, _, by omega, (St.of_le' (env := [(0, .v _), (1, .v _), (2, .v _), (3, .v _)]) (mem := [(1007, _, _)]) ⟨rfl, rfl, rfl, rfl, trivial⟩ ⟨rfl, trivial⟩), i + 1, _, ea2, cr2, rfl, by omega, by omega, hown, hnb2, hsz, rfl⟩
    ·refine xC ((cell_var vq _).trans hx2) ?_
     refine vOrd_nil ?_
     refine vTree_two (i := 5) (k := 10) (L1 := #[true, true, true, true, true, true, true, true, true, true, false, true, true, true, true, true, true, true, true, true, true, false, false, false, false]) (L2 := #[true, true, true, true, true, false, true, true, true, true, true, true, true, true, true, true, true, true, true, true, true, false, false, false, false]) (by kernel_rfl) (by kernel_rfl) (by kernel_rfl) ?_ ?_
     ·refine xC ((cell_var vq _).trans hx0) ?_
      refine vOrd_nil ?_
      refine vT 10 ?_
      refine xC ((cell_var vq _).trans hx1) ?_
      refine vOrd_nil ?_
      refine vT 21 ?_
      refine sB ?_
      refine vOrd_nil ?_
      refine vT 22 ?_
      refine s_bs (e := 125) (cs := [.int .i64 x.d, .int .i64 x.b, .int .i64 x.f, .int .i64 x.r]) rfl rfl rfl (fun _ => by kernel_rfl) ?_
      intro cq wq hcq lq hrowq
      replace hown := own_later hown lq
      replace hsz := Nat.le_trans hsz lq.size
      try replace vq := vq.later lq
      refine vOrd_nil ?_
      refine vT 23 ?_
      refine x_appendW (base := w.heap.size) (sz := 4) (bs := 32) (n := i) (m := 1) (news := [.int .i64 x.d, .int .i64 x.b, .int .i64 x.f, .int .i64 x.r]) rfl rfl rfl rfl rfl rfl rfl rfl rfl rfl rfl (by decide) hown (fun j y hj => by rw [Nat.zero_add, cell_var hrowq.var]; exact hj) rfl (by intro u hu; simp at hu; rcases hu with rfl | rfl | rfl | rfl <;> rfl) (by omega) (by omega) hsz (Nat.le_refl _) (by (repeat with_reducible refine AllMem.put ?_); exact AllMem.of ⟨fun h => hnb _ h rfl, trivial⟩) ?_
      intro v2 w2a hown2 hgr2 hat2
      have hsz2 := Nat.le_trans hsz hgr2.size
      obtain ⟨ea2, cr2, rfl⟩ := own_sliceK hown2
      rw [← pub_take hx] at hown2
      have hnb2 : ∀ q, Value.ownBlock (.slice ea2 (i + 1) cr2) = some q → q ≠ cb := fun q h => by
       have := vq.lt
       rcases hat2 with e | e
       ·exact hnb q (by rw [← e]; exact h)
       ·rw [e] at h; cases h; omega
      clear hown hsz
      have hown := hown2
      have hsz := hsz2
      clear hown2 hsz2
      refine vOrd_nil ?_
      refine vT 24 ?_
      refine sZ 1 ?_
      refine vTree_end (by kernel_rfl) ?_
      refine wQ 1 ?_
      refine aP (-9223372036854775808) 9223372036854775807 ?_
      refine sZ 1 ?_
      exact ⟨_, _, by omega, (St.of_le' (env := [(0, .v _), (1, .v _), (2, .v _), (3, .v _)]) (mem := [(1007, _, _)]) ⟨rfl, rfl, rfl, rfl, trivial⟩ ⟨rfl, trivial⟩), i + 1, _, ea2, cr2, rfl, by omega, by omega, hown, hnb2, hsz, rfl⟩
     ·refine xC ((cell_var vq _).trans hx1) ?_
      refine vOrd_nil ?_
      refine vT 5 ?_
      refine xC ((cell_var vq _).trans hx0) ?_
      refine vOrd_nil ?_
      refine vT 21 ?_
      refine sB ?_
      refine vOrd_nil ?_
      refine vT 22 ?_
      refine s_bs (e := 125) (cs := [.int .i64 x.d, .int .i64 x.b, .int .i64 x.f, .int .i64 x.r]) rfl rfl rfl (fun _ => by kernel_rfl) ?_
      intro cq wq hcq lq hrowq
      replace hown := own_later hown lq
      replace hsz := Nat.le_trans hsz lq.size
      try replace vq := vq.later lq
      refine vOrd_nil ?_
      refine vT 23 ?_
      refine x_appendW (base := w.heap.size) (sz := 4) (bs := 32) (n := i) (m := 1) (news := [.int .i64 x.d, .int .i64 x.b, .int .i64 x.f, .int .i64 x.r]) rfl rfl rfl rfl rfl rfl rfl rfl rfl rfl rfl (by decide) hown (fun j y hj => by rw [Nat.zero_add, cell_var hrowq.var]; exact hj) rfl (by intro u hu; simp at hu; rcases hu with rfl | rfl | rfl | rfl <;> rfl) (by omega) (by omega) hsz (Nat.le_refl _) (by (repeat with_reducible refine AllMem.put ?_); exact AllMem.of ⟨fun h => hnb _ h rfl, trivial⟩) ?_
      intro v2 w2a hown2 hgr2 hat2
      have hsz2 := Nat.le_trans hsz hgr2.size
      obtain ⟨ea2, cr2, rfl⟩ := own_sliceK hown2
      rw [← pub_take hx] at hown2
      have hnb2 : ∀ q, Value.ownBlock (.slice ea2 (i + 1) cr2) = some q → q ≠ cb := fun q h => by
       have := vq.lt
       rcases hat2 with e | e
       ·exact hnb q (by rw [← e]; exact h)
       ·rw [e] at h; cases h; omega
      clear hown hsz
      have hown := hown2
      have hsz := hsz2
      clear hown2 hsz2
      refine vOrd_nil ?_
      refine vT 24 ?_
      refine sZ 1 ?_
      refine vTree_end (by kernel_rfl) ?_
      refine wQ 1 ?_
      refine aP (-9223372036854775808) 9223372036854775807 ?_
      refine sZ 1 ?_
      exact ⟨_, _, by omega, (St.of_le' (env := [(0, .v _), (1, .v _), (2, .v _), (3, .v _)]) (mem := [(1007, _, _)]) ⟨rfl, rfl, rfl, rfl, trivial⟩ ⟨rfl, trivial⟩), i + 1, _, ea2, cr2, rfl, by omega, by omega, hown, hnb2, hsz, rfl⟩
  ·refine vOrd_nil ?_
   refine Wp.condF rfl rfl ?_
   refine Wp.exit ?_
   refine qZ ?_
   refine Wp.ret ⟨.inr rfl, fun lW => ⟨_, res_tmp (P := Tryz.prog) rfl rfl, _, rfl, ?_, lW⟩⟩
   clear lW
   have hi13 : i = 13 := by omega
   subst hi13
   rw [show pubS.take 13 = pubS from rfl] at hown
   obtain ⟨g, cap, cs, hve, _, hrw, hic, _, hct, _⟩ := own_rowK hown (by decide)
   cases hve
   exact ⟨g, cr, rfl, seg_row hrw.var hct rfl hic (fun j x h => pub_64 h)⟩
end Go.Proofs.YthihioakjpmnbaaGreat
