/-
  The contracts of the reference numbers' add and sub: digits that stand for the sum, for the difference. No conditions beside the memory's own.
-/
import Derived.Test.YtnjolcmclcengaaRefA
namespace Go.Proofs.Ytnjolcmclcengaa
open Go.RowKit

theorem Try.infoInt : (Try.prog.info? 3).map (fun i => (i.zero, i.size, i.bytes)) = some (some (.int .i64 0), 1, 8) := by kernel_rfl

/-- What the call has gathered so far, in memory of its own. -/
def Row (base : Nat) (w : World) (v : Value) (zs : List Int) : Prop := w.ownsRow base 3 1 v zs.length (zs.map (Value.int .i64))
theorem Row.digs {base : Nat} {w : World} {v : Value} {zs : List Int} (h : Row base w v zs) : Digs w v zs := by
  obtain ⟨h1, h2⟩ := h
  rcases h2 with ⟨rfl, h0⟩ | ⟨g, cap, cur, rfl, hb, hg, hn, hm, hs, ht⟩
  · exact ⟨none, 0, 0, 0, by rw [h0], by omega, by unfold maxLen; omega, .inl ⟨rfl, rfl⟩, fun j hj => by omega⟩
  · refine ⟨some ⟨g, 0, none⟩, g, 0, cap, rfl, hn, hm, .inr rfl, fun j hj => ?_⟩
    have hu : (zs.map (Value.int .i64))[j]? = some (.int .i64 (dg zs j)) := by
      rw [List.getElem?_map, List.getElem?_eq_getElem hj]
      simp [dg, List.getD, hj]
    have := World.ownsRow.cells (w := w) (v := .slice (some ⟨g, 0, none⟩) zs.length cap) ⟨h1, .inr ⟨g, cap, cur, rfl, hb, hg, hn, hm, hs, ht⟩⟩ (g := g) rfl j _ hu
    simpa [Addr.add_lit] using this
/-- One digit more. -/
theorem Row.snoc {base : Nat} {w : World} {v : Value} {zs : List Int} {z : Int} (h : w.ownsRow base 3 1 v (zs.length + 1) (zs.map (Value.int .i64) ++ [.int .i64 z])) : Row base w v (zs ++ [z]) := by
  unfold Row; simpa using h

/-- Behind the append of one digit. -/
theorem grow_rel {w wr w1 : World} {o : Obj} {u v' : Value} {zs : List Int} {z : Int} (row : Row w.heap.size wr u zs) (hbw : Below w.heap.size w wr)
    (hown : w1.ownsRow w.heap.size 3 1 v' (zs.length + 1) (zs.map (Value.int .i64) ++ [.int .i64 z])) (hgrow : (wr.alloc o).grownBy w1 u.ownBlock) : Row w.heap.size w1 v' (zs ++ [z]) ∧ Below w.heap.size w w1 :=
  ⟨Row.snoc hown, (hbw.alloc hbw.size o).grown hgrow (by have := hbw.size; simp; omega) (fun j hj => (World.ownsRow.lt row j hj).1)⟩

/-- The sum so far: i places done, the carry c. -/
def AddInv (xs ys : List Int) (i : Nat) (c : Int) (zs : List Int) : Prop :=
  zs.length = i ∧ Dig zs ∧ 0 ≤ c ∧ c ≤ 1 ∧ i ≤ max xs.length ys.length + 1 ∧ (i = max xs.length ys.length + 1 → c = 0) ∧ val zs + pw i * c = val (xs.take i) + val (ys.take i)
theorem AddInv.step {xs ys zs : List Int} {i : Nat} {c : Int} (h : AddInv xs ys i c zs) (dx : Dig xs) (dy : Dig ys) (hi : i < max xs.length ys.length ∨ 0 < c) :
    AddInv xs ys (i + 1) ((c + dg xs i + dg ys i) / 65536) (zs ++ [(c + dg xs i + dg ys i) % 65536]) ∧ i < max xs.length ys.length + 1 := by
  obtain ⟨h1, h2, h3, h4, h5, h6, h7⟩ := h
  obtain ⟨x0, x1⟩ := dg_ok dx i
  obtain ⟨y0, y1⟩ := dg_ok dy i
  have hlt : i < max xs.length ys.length + 1 := by
    rcases hi with hi | hi
    · omega
    · by_cases e : i = max xs.length ys.length + 1
      · have := h6 e; omega
      · omega
  refine ⟨⟨by simp [h1], dig_snoc h2 (by omega) (by omega), by omega, by omega, by omega, ?_, ?_⟩, hlt⟩
  · intro e
    have e2 : i = max xs.length ys.length := by omega
    have := dg_end (zs := xs) (j := i) (by omega)
    have := dg_end (zs := ys) (j := i) (by omega)
    omega
  · rw [val_snoc, h1, val_take_succ, val_take_succ, pw_succ]
    have e1 : pw i * ((c + dg xs i + dg ys i) % 65536) + 65536 * pw i * ((c + dg xs i + dg ys i) / 65536) = pw i * (c + dg xs i + dg ys i) := by
      rw [Int.mul_comm 65536 (pw i), Int.mul_assoc, ← Int.mul_add]
      congr 1; omega
    rw [Int.mul_add, Int.mul_add] at e1
    have e2 : pw i * dg xs i = pw i * xs.getD i 0 := rfl
    have e3 : pw i * dg ys i = pw i * ys.getD i 0 := rfl
    omega
theorem AddInv.done {xs ys zs : List Int} {i : Nat} {c : Int} (h : AddInv xs ys i c zs) (hx : xs.length ≤ i) (hy : ys.length ≤ i) (hc : c ≤ 0) : val zs = val xs + val ys ∧ zs.length ≤ max xs.length ys.length + 1 := by
  obtain ⟨h1, h2, h3, h4, h5, h6, h7⟩ := h
  rw [List.take_of_length_le hx, List.take_of_length_le hy, show c = 0 by omega] at h7
  omega


/-- The difference so far: i places done, the borrow c. -/
def SubInv (xs ys : List Int) (i : Nat) (c : Int) (zs : List Int) : Prop :=
  zs.length = i ∧ Dig zs ∧ 0 ≤ c ∧ c ≤ 1 ∧ i ≤ xs.length ∧ val zs + val (ys.take i) = val (xs.take i) + pw i * c
theorem SubInv.step {xs ys zs : List Int} {i : Nat} {c d c' : Int} (h : SubInv xs ys i c zs) (hi : i < xs.length) (hd : d = dg xs i - c - dg ys i + 65536 * c') (d0 : 0 ≤ d) (d1 : d < 65536) (c0 : 0 ≤ c') (c1 : c' ≤ 1) :
    SubInv xs ys (i + 1) c' (zs ++ [d]) := by
  obtain ⟨h1, h2, h3, h4, h5, h7⟩ := h
  refine ⟨by simp [h1], dig_snoc h2 d0 d1, c0, c1, by omega, ?_⟩
  rw [val_snoc, h1, val_take_succ, val_take_succ, pw_succ]
  have e1 : pw i * d = pw i * xs.getD i 0 - pw i * c - pw i * ys.getD i 0 + 65536 * pw i * c' := by
    rw [hd, Int.mul_add, Int.mul_sub, Int.mul_sub, ← Int.mul_assoc, Int.mul_comm (pw i) 65536]; rfl
  omega
theorem SubInv.done {xs ys zs : List Int} {c : Int} (h : SubInv xs ys xs.length c zs) (hl : ys.length ≤ xs.length) (hv : val ys ≤ val xs) : val zs = val xs - val ys ∧ zs.length = xs.length := by
  obtain ⟨h1, h2, h3, h4, h5, h7⟩ := h
  rw [List.take_length, List.take_of_length_le hl] at h7
  have hr := (val_range h2).2
  rw [h1] at hr
  have hp := pw_pos xs.length
  by_cases e : c = 0
  · subst e; omega
  · obtain rfl : c = 1 := by omega
    omega

end Go.Proofs.Ytnjolcmclcengaa
