/-
  The contract of the reference numbers' Div: the quotient rounded down and what is left, by a number above 0. No conditions beside the memory's own.
-/
import Derived.Test.YtnjolcmclcengaaRefH
import Derived.Laws.AppendOwnNone
namespace Go.Proofs.Ytnjolcmclcengaa
open Go.RowKit

theorem dig_cons {zs : List Int} {z : Int} (h : Dig zs) (h0 : 0 ≤ z) (h1 : z < 65536) : Dig (z :: zs) := by
  intro j
  cases j with
  | zero => simpa using ⟨h0, h1⟩
  | succ j => have := h j; simpa using this
theorem val_drop {zs : List Int} {k : Nat} (h : k < zs.length) : val (zs.drop k) = dg zs k + 65536 * val (zs.drop (k + 1)) := by
  rw [List.drop_eq_getElem_cons h, val]; simp [dg, List.getD, h]
theorem val_drop_set {zs : List Int} {k : Nat} (h : k < zs.length) (v : Int) : val ((zs.set k v).drop k) = v + 65536 * val (zs.drop (k + 1)) := by
  rw [val_drop (by simpa using h), dg_set_at h, List.drop_set_of_lt (by omega)]
/-- t digits are still to be brought down. -/
def DivSt (xs ys : List Int) (t : Nat) (qs : List Int) (R : Int) : Prop :=
  qs.length = xs.length ∧ Dig qs ∧ (∀ k, k < t → dg qs k = 0) ∧ val (xs.drop t) = val (qs.drop t) * val ys + R ∧ 0 ≤ R ∧ R < val ys
theorem DivSt.start {xs ys : List Int} (h : 0 < val ys) : DivSt xs ys xs.length (zeros xs.length) 0 :=
  ⟨zeros_len _, dig_zeros _, fun k _ => dg_zeros _ k, by rw [List.drop_of_length_le (Nat.le_refl _), List.drop_of_length_le (by rw [zeros_len]; omega)]; simp [val], by omega, h⟩
theorem DivSt.bound {xs ys qs : List Int} {s : Nat} {R : Int} (h : DivSt xs ys (s + 1) qs R) (dx : Dig xs) : 0 ≤ dg xs s + 65536 * R ∧ dg xs s + 65536 * R < 65536 * val ys := by
  obtain ⟨x0, x1⟩ := dg_ok dx s
  obtain ⟨_, _, _, _, r0, r1⟩ := h
  omega
theorem DivSt.step {xs ys qs : List Int} {s : Nat} {R D : Int} (h : DivSt xs ys (s + 1) qs R) (dx : Dig xs) (hs : s < xs.length) (hD : D = (dg xs s + 65536 * R) / val ys) :
    DivSt xs ys s (qs.set s D) (dg xs s + 65536 * R - val ys * D) ∧ 0 ≤ D ∧ D < 65536 := by
  obtain ⟨b0, b1⟩ := h.bound dx
  obtain ⟨h1, h2, h3, h4, h5, h6⟩ := h
  have d0 : 0 ≤ D := by rw [hD]; exact Int.ediv_nonneg b0 (by omega)
  have d1 : D < 65536 := by rw [hD]; exact Int.ediv_lt_of_lt_mul (by omega) b1
  have m0 : dg xs s + 65536 * R - val ys * D = (dg xs s + 65536 * R) % val ys := by rw [hD, Int.emod_def]
  refine ⟨⟨by simp [h1], dig_set h2 d0 d1, fun k hk => ?_, ?_, ?_, ?_⟩, d0, d1⟩
  · rw [dg_set_other (by omega)]; exact h3 k (by omega)
  · rw [val_drop hs, val_drop_set (by omega), h4, Int.add_mul, Int.mul_add, Int.mul_assoc, Int.mul_comm D]; omega
  · rw [m0]; exact Int.emod_nonneg _ (by omega)
  · rw [m0]; exact Int.emod_lt_of_pos _ (by omega)
theorem DivSt.done {xs ys qs : List Int} {R : Int} (h : DivSt xs ys 0 qs R) : val xs / val ys = val qs ∧ val xs % val ys = R := by
  obtain ⟨h1, h2, h3, h4, h5, h6⟩ := h
  simp only [List.drop_zero] at h4
  rw [h4]
  constructor
  · rw [Int.add_comm, Int.add_mul_ediv_right _ _ (by omega), Int.ediv_eq_zero_of_lt h5 h6]; omega
  · rw [Int.add_comm, Int.add_mul_emod_self_right, Int.emod_eq_of_lt h5 h6]

/-- What the memory of the call holds while it divides. -/
def DMem (w wr : World) (u0 u1 v0 v1 : Value) (zs : List Int) : Prop :=
  Two wr w.heap.size u0 u1 ∧ Two wr (w.heap.size + 1) v0 v1 ∧ Two wr (w.heap.size + 1 + 1) (.bool false) (.slice none 0 0) ∧ Two wr (w.heap.size + 1 + 1 + 1) (.bool false) (.slice none 0 0) ∧
  (∀ k, k < zs.length → wr.cell? ⟨w.heap.size + 1 + 1 + 1 + 1, k, none⟩ = some (.int .i64 (dg zs k)) ∧ wr.frozen? ⟨w.heap.size + 1 + 1 + 1 + 1, k, none⟩ = false) ∧ Below w.heap.size w wr ∧ w.heap.size + 5 ≤ wr.heap.size
theorem DMem.later {w wr w' : World} {u0 u1 v0 v1 : Value} {zs : List Int} (h : DMem w wr u0 u1 v0 v1 zs) (hb : Below wr.heap.size wr w') : DMem w w' u0 u1 v0 v1 zs := by
  obtain ⟨h1, h2, h3, h4, h5, h6, h7⟩ := h
  refine ⟨(two_later hb h1).1, (two_later hb h2).1, (two_later hb h3).1, (two_later hb h4).1, fun k hk => ?_, bthen h6 h6.size hb, Nat.le_trans h7 hb.size⟩
  obtain ⟨a1, a2⟩ := h5 k hk
  exact ⟨cell_later hb a1, (hb.frozen (p := ⟨_, k, none⟩) (World.block_lt_of_cell? _ _ a1)).trans a2⟩
theorem DMem.set {w wr : World} {u0 u1 v0 v1 : Value} {zs : List Int} (h : DMem w wr u0 u1 v0 v1 zs) {k : Nat} (hk : k < zs.length) (v : Int) :
    DMem w (wr.setCell ⟨w.heap.size + 1 + 1 + 1 + 1, k, none⟩ (.int .i64 v)) u0 u1 v0 v1 (zs.set k v) := by
  obtain ⟨h1, h2, h3, h4, h5, h6, h7⟩ := h
  refine ⟨h1.other (by omega), h2.other (by omega), h3.other (by omega), h4.other (by omega), fun j hj => ?_, h6.setCell (by simp; omega) _, by rw [World.size_setCell]; exact h7⟩
  rw [List.length_set] at hj
  refine ⟨?_, by rw [World.frozen?_setCell]; exact (h5 j hj).2⟩
  by_cases e : j = k
  · subst e; rw [World.cell?_setCell_same _ _ _ (h5 j hj).1, dg_set_at hk]
  · rw [World.cell?_setCell_other _ _ _ _ (fun h => e (by simpa using h.symm)), dg_set_other e]; exact (h5 j hj).1
theorem DMem.digs {w wr : World} {u0 u1 v0 v1 : Value} {zs : List Int} (h : DMem w wr u0 u1 v0 v1 zs) (hl : zs.length ≤ 1000000000) : Digs wr (.slice (some ⟨w.heap.size + 1 + 1 + 1 + 1, 0, none⟩) zs.length zs.length) zs :=
  ⟨_, w.heap.size + 1 + 1 + 1 + 1, 0, zs.length, rfl, Nat.le_refl _, by unfold maxLen; omega, .inr rfl, fun j hj => by rw [Nat.zero_add]; exact (h.2.2.2.2.1 j hj).1⟩

/-- A digit ahead of all others, in memory of the call's own: behind the append. -/
theorem cons_rel {base : Nat} {wr w1 : World} {x : Int} {rs : List Int} {v' : Value} {m : Nat} (hm : m = rs.length)
    (hown : w1.ownsRow base 3 1 v' (1 + m) ([.int .i64 x] ++ rs.map (Value.int .i64))) (hgrow : (wr.alloc (.cells #[.int .i64 x] 3)).grownBy w1 (some wr.heap.size)) :
    ∃ g cap, v' = .slice (some ⟨g, 0, none⟩) (1 + m) cap ∧ base ≤ g ∧ Digs w1 (.slice (some ⟨g, 0, none⟩) (1 + m) cap) (x :: rs) ∧ Below wr.heap.size wr w1 := by
  subst hm
  obtain ⟨g, cap, rfl, hb, _⟩ := World.ownsRow.form hown (by omega)
  have hl : 1 + rs.length = (x :: rs).length := by simp [Nat.add_comm]
  refine ⟨g, cap, rfl, hb, ?_, ((Below.refl _ _).alloc (Nat.le_refl _) _).grown hgrow (by simp) (fun j hj => by simp at hj; omega)⟩
  rw [hl] at hown ⊢
  exact Row.digs (base := base) (zs := x :: rs) (by unfold Row; simpa using hown)
theorem lit_owns {base : Nat} {wr : World} (hb : base ≤ wr.heap.size) (x : Int) : (wr.alloc (.cells #[.int .i64 x] 3)).ownsRow base 3 1 (.slice (some ⟨wr.heap.size, 0, none⟩) 1 1) 1 [.int .i64 x] :=
  ⟨by simp, .inr ⟨wr.heap.size, 1, #[.int .i64 x], rfl, hb, heap_alloc_new wr _, Nat.le_refl _, by unfold maxLen; decide, by simp, by simp⟩⟩
theorem news_digs {w : World} {b off : Nat} {rs : List Int} (h : ∀ j, j < rs.length → w.cell? ⟨b, off + j, none⟩ = some (.int .i64 (dg rs j))) :
    ∀ (j : Nat) (z : Int), rs[j]? = some z → w.cell? ⟨b, off + j, none⟩ = some (.int .i64 z) := by
  intro j z hz
  have hj : j < rs.length := (List.getElem?_eq_some_iff.1 hz).1
  rw [h j hj]
  simp [dg, List.getD, hz]

attribute [local go_sem ↓] Go.wp_at_zero Go.wp_at_succ
end Go.Proofs.Ytnjolcmclcengaa
