/-
  The contract of the reference numbers' Mul: the product of any two. No conditions beside the memory's own.
-/
import Derived.Test.YtnjolcmclcengaaRefD
namespace Go.Proofs.Ytnjolcmclcengaa
open Go.RowKit

theorem dg_set_at {zs : List Int} {k : Nat} (h : k < zs.length) (v : Int) : dg (zs.set k v) k = v := by
  simp [dg, List.getD, h]
theorem dg_set_other {zs : List Int} {k j : Nat} (h : j ≠ k) (v : Int) : dg (zs.set k v) j = dg zs j := by
  simp [dg, List.getD, List.getElem?_set_ne (Ne.symm h)]
theorem dig_set {zs : List Int} (h : Dig zs) {k : Nat} {v : Int} (h0 : 0 ≤ v) (h1 : v < 65536) : Dig (zs.set k v) := by
  intro j
  show 0 ≤ dg (zs.set k v) j ∧ dg (zs.set k v) j < 65536
  by_cases e : j = k
  · subst e
    by_cases hl : j < zs.length
    · rw [dg_set_at hl]; omega
    · rw [dg_end (by simp; omega)]; decide
  · rw [dg_set_other e]; exact h j
theorem val_set {zs : List Int} {k : Nat} (h : k < zs.length) (v : Int) : val (zs.set k v) = val zs + pw k * (v - dg zs k) := by
  induction zs generalizing k with
  | nil => simp at h
  | cons z zs ih =>
    cases k with
    | zero => simp only [List.set_cons_zero, val, pw_zero, dg, List.getD_cons_zero]; omega
    | succ k =>
      have := ih (k := k) (by simpa using h)
      simp only [List.set_cons_succ, val, this, pw_succ]
      have e : dg (z :: zs) (k + 1) = dg zs k := by simp [dg]
      rw [e, Int.mul_add, Int.mul_assoc]; omega
/-- So many noughts. -/
def zeros (n : Nat) : List Int := List.replicate n 0
theorem zeros_len (n : Nat) : (zeros n).length = n := by simp [zeros]
theorem dg_zeros (n k : Nat) : dg (zeros n) k = 0 := by
  simp only [dg, zeros, List.getD, List.getElem?_replicate]; split <;> rfl
theorem val_zeros (n : Nat) : val (zeros n) = 0 := by
  induction n with
  | zero => rfl
  | succ n ih => show val (0 :: zeros n) = 0; rw [val, ih]; rfl
theorem dig_zeros (n : Nat) : Dig (zeros n) := fun j => by have := dg_zeros n j; unfold dg at this; rw [this]; decide

/-- Row i is done. -/
def MulRow (xs ys : List Int) (i : Nat) (zs : List Int) : Prop :=
  zs.length = xs.length + ys.length ∧ Dig zs ∧ (∀ k, i + ys.length ≤ k → dg zs k = 0) ∧ val zs = val (xs.take i) * val ys
/-- In row i, column j is done, the carry is c. -/
def MulCol (xs ys : List Int) (i j : Nat) (c : Int) (zs : List Int) : Prop :=
  zs.length = xs.length + ys.length ∧ Dig zs ∧ (∀ k, i + ys.length ≤ k → dg zs k = 0) ∧ 0 ≤ c ∧ c < 65536 ∧ val zs + pw (i + j) * c = val (xs.take i) * val ys + pw i * (dg xs i * val (ys.take j))
theorem MulRow.start {xs ys zs : List Int} {i : Nat} (h : MulRow xs ys i zs) : MulCol xs ys i 0 0 zs := by
  obtain ⟨h1, h2, h3, h4⟩ := h
  exact ⟨h1, h2, h3, by omega, by omega, by simp [val]; exact h4⟩
theorem prod16 {x y : Int} (x0 : 0 ≤ x) (x1 : x < 65536) (y0 : 0 ≤ y) (y1 : y < 65536) : 0 ≤ x * y ∧ x * y ≤ 4294836225 := by
  refine ⟨Int.mul_nonneg x0 y0, ?_⟩
  have := Int.mul_le_mul (show x ≤ 65535 by omega) (show y ≤ 65535 by omega) y0 (by omega)
  omega
theorem MulCol.step {xs ys zs : List Int} {i j : Nat} {c : Int} (h : MulCol xs ys i j c zs) (dx : Dig xs) (dy : Dig ys) (hi : i < xs.length) (hj : j < ys.length) :
    MulCol xs ys i (j + 1) ((dg zs (i + j) + dg xs i * dg ys j + c) / 65536) (zs.set (i + j) ((dg zs (i + j) + dg xs i * dg ys j + c) % 65536)) := by
  obtain ⟨h1, h2, h3, h4, h5, h6⟩ := h
  obtain ⟨x0, x1⟩ := dg_ok dx i
  obtain ⟨y0, y1⟩ := dg_ok dy j
  obtain ⟨p0, p1⟩ := prod16 x0 x1 y0 y1
  obtain ⟨z0, z1⟩ := dg_ok h2 (i + j)
  refine ⟨by simp [h1], dig_set h2 (by omega) (by omega), fun k hk => ?_, by omega, by omega, ?_⟩
  · rw [dg_set_other (by omega)]; exact h3 k hk
  · rw [val_set (by omega), val_take_succ, show i + (j + 1) = (i + j) + 1 by omega, pw_succ]
    generalize hP : dg xs i * dg ys j = P at *
    have e1 : pw i * (dg xs i * (val (ys.take j) + pw j * ys.getD j 0)) = pw i * (dg xs i * val (ys.take j)) + pw (i + j) * P := by
      rw [← hP, pw_add, Int.mul_add, Int.mul_add, Int.mul_left_comm (dg xs i), Int.mul_assoc]; rfl
    rw [e1]
    have e2 : pw (i + j) * ((dg zs (i + j) + P + c) % 65536 - dg zs (i + j)) + 65536 * pw (i + j) * ((dg zs (i + j) + P + c) / 65536) = pw (i + j) * (P + c) := by
      rw [Int.mul_comm 65536 (pw (i + j)), Int.mul_assoc, ← Int.mul_add]; congr 1; omega
    rw [Int.mul_add] at e2
    omega
theorem MulCol.done {xs ys zs : List Int} {i : Nat} {c : Int} (h : MulCol xs ys i ys.length c zs) (hi : i < xs.length) : MulRow xs ys (i + 1) (zs.set (i + ys.length) c) := by
  obtain ⟨h1, h2, h3, h4, h5, h6⟩ := h
  refine ⟨by simp [h1], dig_set h2 h4 h5, fun k hk => ?_, ?_⟩
  · rw [dg_set_other (by omega)]; exact h3 k (by omega)
  · rw [val_set (by omega), h3 _ (Nat.le_refl _), val_take_succ, Int.add_mul, Int.mul_assoc]
    rw [List.take_length] at h6
    have e : dg xs i = xs.getD i 0 := rfl
    rw [e] at h6
    rw [Int.sub_zero]; exact h6

theorem ab_mul (x y : Int) : ab (x * y) = ab x * ab y := by
  by_cases h1 : x < 0 <;> by_cases h2 : y < 0
  · have : 0 ≤ x * y := by have := Int.mul_nonneg (show 0 ≤ -x by omega) (show 0 ≤ -y by omega); rwa [Int.neg_mul_neg] at this
    rw [ab_neg h1, ab_neg h2, ab_pos this, Int.neg_mul_neg]
  · have h3 : 0 ≤ -x * y := Int.mul_nonneg (by omega) (by omega)
    rw [Int.neg_mul] at h3
    rw [ab_neg h1, ab_pos (z := y) (by omega), Int.neg_mul]
    by_cases e : x * y < 0
    · rw [ab_neg e]
    · rw [ab_pos (by omega)]; omega
  · have h3 : 0 ≤ x * -y := Int.mul_nonneg (by omega) (by omega)
    rw [Int.mul_neg] at h3
    rw [ab_neg h2, ab_pos (z := x) (by omega), Int.mul_neg]
    by_cases e : x * y < 0
    · rw [ab_neg e]
    · rw [ab_pos (by omega)]; omega
  · rw [ab_pos (z := x) (by omega), ab_pos (z := y) (by omega), ab_pos (Int.mul_nonneg (by omega) (by omega))]
theorem mul_same {x y : Int} (h' : sg x = sg y) : sg (x * y) = false := by
  unfold sg at h'; rw [decide_eq_decide] at h'
  apply sg_pos
  by_cases h1 : x < 0
  · have := Int.mul_nonneg (show 0 ≤ -x by omega) (show 0 ≤ -y by omega); rwa [Int.neg_mul_neg] at this
  · exact Int.mul_nonneg (by omega) (by omega)
theorem mul_other {x y : Int} (h' : ¬ sg x = sg y) (hz : x * y ≠ 0) : sg (x * y) = true := by
  unfold sg at h'; rw [decide_eq_decide] at h'
  apply sg_neg
  by_cases h1 : x < 0
  · have h3 : 0 ≤ -x * y := Int.mul_nonneg (by omega) (by omega)
    rw [Int.neg_mul] at h3; omega
  · have h3 : 0 ≤ x * -y := Int.mul_nonneg (by omega) (by omega)
    rw [Int.mul_neg] at h3; omega

/-- What the memory of the call holds while it multiplies. -/
def BMem (w wr : World) (u0 u1 v0 v1 : Value) (zs : List Int) : Prop :=
  Two wr w.heap.size u0 u1 ∧ Two wr (w.heap.size + 1) v0 v1 ∧ Two wr (w.heap.size + 1 + 1) (.bool false) (.slice none 0 0) ∧
  (∀ k, k < zs.length → wr.cell? ⟨w.heap.size + 1 + 1 + 1, k, none⟩ = some (.int .i64 (dg zs k)) ∧ wr.frozen? ⟨w.heap.size + 1 + 1 + 1, k, none⟩ = false) ∧ Below w.heap.size w wr
theorem Two.other {w : World} {b r o : Nat} {u v x : Value} (h : Two w b u v) (hn : b ≠ r) : Two (w.setCell ⟨r, o, none⟩ x) b u v := by
  obtain ⟨h1, h2, h3, h4⟩ := h
  exact ⟨by rw [World.cell?_setCell_other _ _ _ _ (fun e => hn (congrArg Addr.block e).symm)]; exact h1, by rw [World.cell?_setCell_other _ _ _ _ (fun e => hn (congrArg Addr.block e).symm)]; exact h2, by rw [World.frozen?_setCell]; exact h3, by rw [World.frozen?_setCell]; exact h4⟩
theorem BMem.set {w wr : World} {u0 u1 v0 v1 : Value} {zs : List Int} (h : BMem w wr u0 u1 v0 v1 zs) {k : Nat} (hk : k < zs.length) (v : Int) :
    BMem w (wr.setCell ⟨w.heap.size + 1 + 1 + 1, k, none⟩ (.int .i64 v)) u0 u1 v0 v1 (zs.set k v) := by
  obtain ⟨h1, h2, h3, h4, h5⟩ := h
  refine ⟨h1.other (by omega), h2.other (by omega), h3.other (by omega), fun j hj => ?_, h5.setCell (by simp; omega) _⟩
  rw [List.length_set] at hj
  refine ⟨?_, by rw [World.frozen?_setCell]; exact (h4 j hj).2⟩
  by_cases e : j = k
  · subst e; rw [World.cell?_setCell_same _ _ _ (h4 j hj).1, dg_set_at hk]
  · rw [World.cell?_setCell_other _ _ _ _ (fun h => e (by simpa using h.symm)), dg_set_other e]; exact (h4 j hj).1
theorem BMem.drewN {w wr : World} {u0 u1 v0 v1 : Value} {zs : List Int} (h : BMem w wr u0 u1 v0 v1 zs) (n : Nat) : BMem w (wr.drewN n) u0 u1 v0 v1 zs := by
  obtain ⟨h1, h2, h3, h4, h5⟩ := h
  exact ⟨h1, h2, h3, h4, below_drewN h5 n⟩
theorem BMem.digs {w wr : World} {u0 u1 v0 v1 : Value} {zs : List Int} (h : BMem w wr u0 u1 v0 v1 zs) (hl : zs.length ≤ 1000000000) : Digs wr (.slice (some ⟨w.heap.size + 1 + 1 + 1, 0, none⟩) zs.length zs.length) zs :=
  ⟨_, w.heap.size + 1 + 1 + 1, 0, zs.length, rfl, Nat.le_refl _, by unfold maxLen; omega, .inr rfl, fun j hj => by rw [Nat.zero_add]; exact (h.2.2.2.1 j hj).1⟩

end Go.Proofs.Ytnjolcmclcengaa
