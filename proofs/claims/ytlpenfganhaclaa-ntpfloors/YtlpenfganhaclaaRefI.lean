/-
  The contract of the reference numbers' Div: the quotient rounded down and what is left, by a number above 0. No conditions beside the memory's own.
-/
import Derived.Test.YtlpenfganhaclaaRefH
import Derived.Laws.AppendOwnNone
namespace Go.Proofs.Ytlpenfganhaclaa
open Go.RowKit

theorem dig_cons {zs : List Int} {z : Int} (h : Dig zs) (h0 : 0 ≤ z) (h1 : z < 65536) : Dig (z :: zs) := by
  intro j
  cases j with
  | zero => simpa using ⟨h0, h1⟩
  | succ j => have := h j; simpa using this
theorem val_drop {zs : List Int} {k : Nat} (h : k < zs.length) : val (zs.drop k) = dg zs k + 65536 * val (zs.drop (k + 1)) := by
  rw [List.drop_eq_getElem_cons h, val]; simp [dg, List.getD, h]
theorem val_drop_set {zs : List Int} {k : Nat} (h : k < zs.length) (v : Int) : val ((zs.set k v).drop k) = v + 65536 * val (zs.drop (k + 1)) := by
  rw [val_drop (by simpa using h), dg_set_at h, List.drop_set_of_lt (by omega)]
/-- t digits are still to be brought down. -/
def DivSt (xs ys : List Int) (t : Nat) (qs : List Int) (R : Int) : Prop :=
  qs.length = xs.length ∧ Dig qs ∧ (∀ k, k < t → dg qs k = 0) ∧ val (xs.drop t) = val (qs.drop t) * val ys + R ∧ 0 ≤ R ∧ R < val ys
theorem DivSt.start {xs ys : List Int} (h : 0 < val ys) : DivSt xs ys xs.length (zeros xs.length) 0 :=
  ⟨zeros_len _, dig_zeros _, fun k _ => dg_zeros _ k, by rw [List.drop_of_length_le (Nat.le_refl _), List.drop_of_length_le (by rw [zeros_len]; omega)]; simp [val], by omega, h⟩
theorem DivSt.bound {xs ys qs : List Int} {s : Nat} {R : Int} (h : DivSt xs ys (s + 1) qs R) (dx : Dig xs) : 0 ≤ dg xs s + 65536 * R ∧ dg xs s + 65536 * R < 65536 * val ys := by
  obtain ⟨x0, x1⟩ := dg_ok dx s
  obtain ⟨_, _, _, _, r0, r1⟩ := h
  omega
theorem DivSt.step {xs ys qs : List Int} {s : Nat} {R D : Int} (h : DivSt xs ys (s + 1) qs R) (dx : Dig xs) (hs : s < xs.length) (hD : D = (dg xs s + 65536 * R) / val ys) :
    DivSt xs ys s (qs.set s D) (dg xs s + 65536 * R - val ys * D) ∧ 0 ≤ D ∧ D < 65536 := by
  obtain ⟨b0, b1⟩ := h.bound dx
  obtain ⟨h1, h2, h3, h4, h5, h6⟩ := h
  have d0 : 0 ≤ D := by rw [hD]; exact Int.ediv_nonneg b0 (by omega)
  have d1 : D < 65536 := by rw [hD]; exact Int.ediv_lt_of_lt_mul (by omega) b1
  have m0 : dg xs s + 65536 * R - val ys * D = (dg xs s + 65536 * R) % val ys := by rw [hD, Int.emod_def]
  refine ⟨⟨by simp [h1], dig_set h2 d0 d1, fun k hk => ?_, ?_, ?_, ?_⟩, d0, d1⟩
  · rw [dg_set_other (by omega)]; exact h3 k (by omega)
  · rw [val_drop hs, val_drop_set (by omega), h4, Int.add_mul, Int.mul_add, Int.mul_assoc, Int.mul_comm D]; omega
  · rw [m0]; exact Int.emod_nonneg _ (by omega)
  · rw [m0]; exact Int.emod_lt_of_pos _ (by omega)
theorem DivSt.done {xs ys qs : List Int} {R : Int} (h : DivSt xs ys 0 qs R) : val xs / val ys = val qs ∧ val xs % val ys = R := by
  obtain ⟨h1, h2, h3, h4, h5, h6⟩ := h
  simp only [List.drop_zero] at h4
  rw [h4]
  constructor
  · rw [Int.add_comm, Int.add_mul_ediv_right _ _ (by omega), Int.ediv_eq_zero_of_lt h5 h6]; omega
  · rw [Int.add_comm, Int.add_mul_emod_self_right, Int.emod_eq_of_lt h5 h6]

/-- What the memory of the call holds while it divides. -/
def DMem (w wr : World) (u0 u1 v0 v1 : Value) (zs : List Int) : Prop :=
  Two wr w.heap.size u0 u1 ∧ Two wr (w.heap.size + 1) v0 v1 ∧ Two wr (w.heap.size + 1 + 1) (.bool false) (.slice none 0 0) ∧ Two wr (w.heap.size + 1 + 1 + 1) (.bool false) (.slice none 0 0) ∧
  (∀ k, k < zs.length → wr.cell? ⟨w.heap.size + 1 + 1 + 1 + 1, k, none⟩ = some (.int .i64 (dg zs k)) ∧ wr.frozen? ⟨w.heap.size + 1 + 1 + 1 + 1, k, none⟩ = false) ∧ Below w.heap.size w wr ∧ w.heap.size + 5 ≤ wr.heap.size
theorem DMem.later {w wr w' : World} {u0 u1 v0 v1 : Value} {zs : List Int} (h : DMem w wr u0 u1 v0 v1 zs) (hb : Below wr.heap.size wr w') : DMem w w' u0 u1 v0 v1 zs := by
  obtain ⟨h1, h2, h3, h4, h5, h6, h7⟩ := h
  refine ⟨(two_later hb h1).1, (two_later hb h2).1, (two_later hb h3).1, (two_later hb h4).1, fun k hk => ?_, bthen h6 h6.size hb, Nat.le_trans h7 hb.size⟩
  obtain ⟨a1, a2⟩ := h5 k hk
  exact ⟨cell_later hb a1, (hb.frozen (p := ⟨_, k, none⟩) (World.block_lt_of_cell? _ _ a1)).trans a2⟩
theorem DMem.set {w wr : World} {u0 u1 v0 v1 : Value} {zs : List Int} (h : DMem w wr u0 u1 v0 v1 zs) {k : Nat} (hk : k < zs.length) (v : Int) :
    DMem w (wr.setCell ⟨w.heap.size + 1 + 1 + 1 + 1, k, none⟩ (.int .i64 v)) u0 u1 v0 v1 (zs.set k v) := by
  obtain ⟨h1, h2, h3, h4, h5, h6, h7⟩ := h
  refine ⟨h1.other (by omega), h2.other (by omega), h3.other (by omega), h4.other (by omega), fun j hj => ?_, h6.setCell (by simp; omega) _, by rw [World.size_setCell]; exact h7⟩
  rw [List.length_set] at hj
  refine ⟨?_, by rw [World.frozen?_setCell]; exact (h5 j hj).2⟩
  by_cases e : j = k
  · subst e; rw [World.cell?_setCell_same _ _ _ (h5 j hj).1, dg_set_at hk]
  · rw [World.cell?_setCell_other _ _ _ _ (fun h => e (by simpa using h.symm)), dg_set_other e]; exact (h5 j hj).1
theorem DMem.digs {w wr : World} {u0 u1 v0 v1 : Value} {zs : List Int} (h : DMem w wr u0 u1 v0 v1 zs) (hl : zs.length ≤ 1000000000) : Digs wr (.slice (some ⟨w.heap.size + 1 + 1 + 1 + 1, 0, none⟩) zs.length zs.length) zs :=
  ⟨_, w.heap.size + 1 + 1 + 1 + 1, 0, zs.length, rfl, Nat.le_refl _, by unfold maxLen; omega, .inr rfl, fun j hj => by rw [Nat.zero_add]; exact (h.2.2.2.2.1 j hj).1⟩

/-- A digit ahead of all others, in memory of the call's own: behind the append. -/
theorem cons_rel {base : Nat} {wr w1 : World} {x : Int} {rs : List Int} {v' : Value} {m : Nat} (hm : m = rs.length)
    (hown : w1.ownsRow base 3 1 v' (1 + m) ([.int .i64 x] ++ rs.map (Value.int .i64))) (hgrow : (wr.alloc (.cells #[.int .i64 x] 3)).grownBy w1 (some wr.heap.size)) :
    ∃ g cap, v' = .slice (some ⟨g, 0, none⟩) (1 + m) cap ∧ base ≤ g ∧ Digs w1 (.slice (some ⟨g, 0, none⟩) (1 + m) cap) (x :: rs) ∧ Below wr.heap.size wr w1 := by
  subst hm
  obtain ⟨g, cap, rfl, hb, _⟩ := World.ownsRow.form hown (by omega)
  have hl : 1 + rs.length = (x :: rs).length := by simp [Nat.add_comm]
  refine ⟨g, cap, rfl, hb, ?_, ((Below.refl _ _).alloc (Nat.le_refl _) _).grown hgrow (by simp) (fun j hj => by simp at hj; omega)⟩
  rw [hl] at hown ⊢
  exact Row.digs (base := base) (zs := x :: rs) (by unfold Row; simpa using hown)
theorem lit_owns {base : Nat} {wr : World} (hb : base ≤ wr.heap.size) (x : Int) : (wr.alloc (.cells #[.int .i64 x] 3)).ownsRow base 3 1 (.slice (some ⟨wr.heap.size, 0, none⟩) 1 1) 1 [.int .i64 x] :=
  ⟨by simp, .inr ⟨wr.heap.size, 1, #[.int .i64 x], rfl, hb, heap_alloc_new wr _, Nat.le_refl _, by unfold maxLen; decide, by simp, by simp⟩⟩
theorem news_digs {w : World} {b off : Nat} {rs : List Int} (h : ∀ j, j < rs.length → w.cell? ⟨b, off + j, none⟩ = some (.int .i64 (dg rs j))) :
    ∀ (j : Nat) (z : Int), rs[j]? = some z → w.cell? ⟨b, off + j, none⟩ = some (.int .i64 z) := by
  intro j z hz
  have hj : j < rs.length := (List.getElem?_eq_some_iff.1 hz).1
  rw [h j hj]
  simp [dg, List.getD, hz]

attribute [local go_sem ↓] Go.wp_at_zero Go.wp_at_succ
set_option maxRecDepth 100000 in
set_option maxHeartbeats 4000000 in
theorem bdiv_pos {n m : Nat} {a a' : Option Addr} {l l' c c' : Nat} {x y : Int} {w : World} (ha : BigIs n w (.slice a l c) x) (hb : BigIs m w (.slice a' l' c') y) (hx0 : 0 ≤ x) (hy0 : 0 < y) (hn : n ≤ 100000) (hm : m ≤ 100000) :
    Calls Try.prog 52 #[.agg #[.bool (sg x), .slice a l c], .agg #[.bool (sg y), .slice a' l' c']] w fun e w' =>
      ∃ b k d b' k' d', e = .returned (.tuple #[.agg #[.bool (sg (x / y)), .slice b k d], .agg #[.bool (sg (x % y)), .slice b' k' d']]) ∧ BigIs n w' (.slice b k d) (x / y) ∧ BigIs m w' (.slice b' k' d') (x % y) ∧ Below w.heap.size w w' := by
  obtain ⟨i0, hi0, hz0, hz1, hz2⟩ : ∃ i, Try.prog.info? 3 = some i ∧ i.zero = some (.int .i64 0) ∧ i.size = 1 ∧ i.bytes = 8 := by
    have h := Try.infoInt
    cases hi : Try.prog.info? 3 with
    | none => rw [hi] at h; simp at h
    | some i => rw [hi] at h; simp at h; exact ⟨i, rfl, h.1, h.2.1, h.2.2⟩
  obtain ⟨xs, ⟨ao, b, off, cap, hs1, h2, h3, h4, h5⟩, d2, d3, d4, d5, rfl⟩ := ha.open
  obtain ⟨ys, e1, e2, e3, e4, e5, rfl⟩ := hb.open
  clear ha hb
  obtain ⟨rfl, rfl⟩ : a = ao ∧ c = cap := by simpa using hs1
  rw [ab_pos hx0] at d5
  rw [ab_pos (by omega)] at e5
  rw [sg_pos hx0]
  have hY : 0 < val ys := by omega
  have H5 := hid h5
  have E1 := hid e1
  have D5 := hid d5
  have E5 := hid e5
  clear h5 hs1 d5 e5 e1
  have rf := run_field_big
  have hx : (xs.length : Int) ≤ 100000 := by omega
  obtain ⟨W', mk1, mk2, mk3, mk4⟩ := made xs.length (by omega) ((((w.alloc (.cells #[.bool false, .slice a xs.length c] 32)).alloc (.cells #[.bool (sg y), .slice a' ys.length c'] 32)).alloc (.cells #[.bool false, .slice none 0 0] 32)).alloc (.cells #[.bool false, .slice none 0 0] 32))
  have mem0 : DMem w W' (.bool false) (.slice a xs.length c) (.bool (sg y)) (.slice a' ys.length c') (zeros xs.length) := by
    refine ⟨(two_later mk3 ⟨by simp [go_sem], by simp [go_sem], by simp [go_sem], by simp [go_sem]⟩).1, (two_later mk3 ⟨by simp [go_sem], by simp [go_sem], by simp [go_sem], by simp [go_sem]⟩).1, (two_later mk3 ⟨by simp [go_sem], by simp [go_sem], by simp [go_sem], by simp [go_sem]⟩).1, (two_later mk3 ⟨by simp [go_sem], by simp [go_sem], by simp [go_sem], by simp [go_sem]⟩).1, fun k hk => ?_, bthen (by go_grown) (by go_size) mk3, by rw [mk4]; simp⟩
    rw [zeros_len] at hk
    rw [dg_zeros]
    have := mk2 k hk
    simpa using this
  have M0 := hid mem0
  have m1 := mem0.1.2.1
  clear mem0 mk2 mk3 mk4
  go_enter Try.func52, Try.ntmps52
  go_wp2_with fail
  clear mk1 m1
  go_loopw [7, 8] (fun rv t wr => ∃ (k : Nat) (qs rs : List Int) (ar : Option Addr) (lr cr : Nat) (R : Int), k ≤ xs.length ∧ t = .int .i64 ((k : Int) - 1) ∧ rv = .slice ar lr cr ∧ Digs wr (.slice ar lr cr) rs ∧ Dig rs ∧ Canon rs ∧ Hid (val rs = R) ∧ DivSt xs ys k qs R ∧ DMem w wr (.bool false) (.slice a xs.length c) (.bool (sg y)) (.slice a' ys.length c') qs) (fun _ t _ => (intOf t + 1).toNat)
  case atStart => exact ⟨xs.length, _, [], none, 0, 0, 0, by omega, rfl, rfl, ⟨none, 0, 0, 0, rfl, by simp, by unfold maxLen; omega, .inl ⟨rfl, rfl⟩, fun j hj => by simp at hj⟩, dig_nil, .inl rfl, rfl, DivSt.start hY, M0.out⟩
  case round =>
    clear M0
    obtain ⟨k, qs, rs, ar, lr, cr, R, hk, rfl, rfl, dr, r2, r3, hR, st, mem⟩ := hrel
    obtain ⟨⟨p1, p2, p3, p4⟩, ⟨q1, q2, q3, q4⟩, -, -, -, hbw, hsz⟩ := id mem
    have MEM := hid mem
    have DR := hid dr
    clear mem dr
    by_cases hk0 : k = 0
    · subst hk0
      obtain ⟨dn1, dn2⟩ := st.done
      rw [D5.out, E5.out] at dn1 dn2
      have hql : qs.length = xs.length := st.1
      have hdq : Dig qs := st.2.1
      have hRY : R < val ys := st.2.2.2.2.2
      have hR0 : 0 ≤ R := st.2.2.2.2.1
      have hrl : rs.length ≤ ys.length := len_le_of_val r2 e2 r3 (by rw [hR.out]; omega)
      have DQ : Hid (Digs wr (.slice (some ⟨w.heap.size + 1 + 1 + 1 + 1, 0, none⟩) xs.length xs.length) qs) := by
        have h := MEM.out.digs (by omega); rw [hql] at h; exact h
      have DN1 := hid dn1
      have DN2 := hid dn2
      have HQ := hid hql
      have hq0 : 0 ≤ val qs := (val_range hdq).1
      clear st dn1 dn2 hql
      have s1 : sg (x / y) = false := sg_pos (by rw [DN1.out]; exact hq0)
      have s2 : sg (x % y) = false := sg_pos (by rw [DN2.out]; exact hR0)
      obtain ⟨-, -, ⟨t1, t2, t3, t4⟩, ⟨v1, v2, v3, v4⟩, -, -, -⟩ := id MEM.out
      go_wp2_with fail
      refine (trim_b DQ.out (by have := HQ.out; omega)).mono ?_
      rintro e w1 ⟨k2, v', hk2, hzr, hcn, rfl, hdg, hb1⟩
      obtain ⟨ga, gc, rfl⟩ := hdg.form
      obtain ⟨gl, hgl⟩ : ∃ gl, Hid (gl = (List.take k2 qs).length) := ⟨_, rfl⟩
      rw [← hgl.out] at hdg ⊢
      have BQ : Hid (BigIs n w1 (.slice ga gl gc) (x / y)) := ⟨_, hdg, dig_take hdq k2, canon_take hk2 hcn, by rw [List.length_take]; have := HQ.out; omega, by rw [val_trim hk2 hzr, DN1.out, ab_pos hq0]⟩
      have BR : Hid (BigIs m w1 (.slice ar lr cr) (x % y)) := ⟨rs, DR.out.later hb1, r2, r3, by omega, by rw [hR.out, DN2.out, ab_pos hR0]⟩
      clear hdg hk2 hzr hcn
      obtain ⟨⟨a1, a2, a3, a4⟩, a5⟩ := two_later hb1 (b := w.heap.size) (u := .bool false) (v := .slice a xs.length c) ⟨p1, p2, p3, p4⟩
      obtain ⟨⟨b1, b2, b3, b4⟩, b5⟩ := two_later hb1 (b := w.heap.size + 1 + 1) (u := .bool false) (v := .slice none 0 0) ⟨t1, t2, t3, t4⟩
      obtain ⟨⟨c1, c2, c3, c4⟩, c5⟩ := two_later hb1 (b := w.heap.size + 1 + 1 + 1) (u := .bool false) (v := .slice none 0 0) ⟨v1, v2, v3, v4⟩
      have x1 := bthen hbw hbw.size hb1
      have zz1 := x1.size
      clear hb1 p1 p2 p3 p4 q1 q2 q3 q4 t1 t2 t3 t4 v1 v2 v3 v4 hbw MEM DQ DR
      go_wp2_with fail
      obtain ⟨W2, hW2⟩ : ∃ W2, W2 = (w1.alloc (Obj.cells #[.bool false, .slice ga gl gc] 32)).alloc (Obj.cells #[.bool false, .slice ar lr cr] 32) := ⟨_, rfl⟩
      rw [← hW2]
      have hb2 : Below w1.heap.size w1 W2 := by rw [hW2]; go_grown
      have l1 : Two W2 w1.heap.size (.bool false) (.slice ga gl gc) := by rw [hW2]; exact ⟨by simp [go_sem], by simp [go_sem], by simp [go_sem], by simp [go_sem]⟩
      have l2 : Two W2 (w1.heap.size + 1) (.bool false) (.slice ar lr cr) := by rw [hW2]; exact ⟨by simp [go_sem], by simp [go_sem], by simp [go_sem], by simp [go_sem]⟩
      have y1 := (two_later hb2 (b := w.heap.size + 1 + 1) (u := .bool false) (v := .slice none 0 0) ⟨b1, b2, b3, b4⟩)
      have y2 := (two_later hb2 (b := w.heap.size + 1 + 1 + 1) (u := .bool false) (v := .slice none 0 0) ⟨c1, c2, c3, c4⟩)
      have x2 := bthen x1 x1.size hb2
      have z2 := x2.size
      have BQ2 := hid (BQ.out.later hb2)
      have BR2 := hid (BR.out.later hb2)
      have Y1 := hid y1.1
      have Y2 : Hid (Two ((W2.setCell ⟨w.heap.size + 1 + 1, 0, none⟩ (.bool false)).setCell ⟨w.heap.size + 1 + 1, 1, none⟩ (.slice ga gl gc)) (w.heap.size + 1 + 1 + 1) (.bool false) (.slice none 0 0)) := (y2.1.other (by omega)).other (by omega)
      obtain ⟨⟨f1, f2, f3, f4⟩, f5⟩ := y1
      obtain ⟨⟨g1, g2, g3, g4⟩, g5⟩ := y2
      obtain ⟨m1, m2, m3, m4⟩ := l1
      obtain ⟨n1, n2, n3, n4⟩ := l2
      have ne1 : ¬ w.heap.size + 1 = w1.heap.size := by omega
      have ne2 : ¬ w.heap.size + 1 + 1 = w1.heap.size := by omega
      have ne3 : ¬ w.heap.size + 1 + 1 + 1 = w1.heap.size := by omega
      clear hW2 hb2 a1 a2 a3 a4 a5 b1 b2 b3 b4 b5 c1 c2 c3 c4 c5
      go_region
      all_goals
        go_wp2
        refine bodyPost_ret (v := .tuple #[.agg #[.bool false, .slice ga gl gc], .agg #[.bool false, .slice ar lr cr]]) (by simp [results, Try.results52, go_sem, *]) rfl ⟨_, _, _, _, _, _, by rw [s1, s2], ?_, ?_, by go_grown⟩
        · exact ((BQ2.out.put Y1.out (noInt_bool _) (noInt_slice _ _ _) _ _).put Y2.out (noInt_bool _) (noInt_slice _ _ _) _ _)
        · exact ((BR2.out.put Y1.out (noInt_bool _) (noInt_slice _ _ _) _ _).put Y2.out (noInt_bool _) (noInt_slice _ _ _) _ _)
    · obtain ⟨s, rfl⟩ : ∃ s, k = s + 1 := ⟨k - 1, by omega⟩
      obtain rfl := some_of h4 (by omega)
      have cx := cell_later hbw (H5.out s (by omega))
      have e0 : ((s + 1 : Nat) : Int) - 1 = (s : Int) := by omega
      rw [e0]
      clear e0
      have z0 : (0 : Int) ≤ (s : Int) := by omega
      have z1 : (s : Int) < xs.length := by omega
      obtain ⟨D, hD⟩ : ∃ D, Hid (D = (dg xs s + 65536 * R) / val ys) := ⟨_, rfl⟩
      obtain ⟨st2, D0, D1⟩ := st.step d2 (by omega) hD.out
      obtain ⟨bd0, bd1⟩ := st.bound d2
      have hql : qs.length = xs.length := st.1
      have hrl : rs.length ≤ ys.length := len_le_of_val r2 e2 r3 (by rw [hR.out]; have := st.2.2.2.2.2; omega)
      have ST := hid st2
      have BD := hid (And.intro bd0 bd1)
      have HQ := hid hql
      clear st st2 bd0 bd1 hql
      have HLR : Hid (lr = rs.length) := by obtain ⟨_, _, e⟩ := DR.out.form; simp at e; exact e.2.1
      by_cases har : ar = none
      · subst har
        obtain ⟨rfl, rfl⟩ : lr = 0 ∧ cr = 0 := by
          obtain ⟨ao, bb, oo, cc, he, h1', h2', h3', h4'⟩ := DR.out
          simp at he
          obtain ⟨he1, he2, he3⟩ := he
          rcases h3' with h3' | h3'
          · omega
          · rw [h3'] at he1; cases he1
        have OW := hid (lit_owns (base := w.heap.size + 5) hsz (dg xs s))
        have hb1 := (Below.refl wr.heap.size wr).alloc (Nat.le_refl _) (.cells #[.int .i64 (dg xs s)] 3)
        have hrs : rs = [] := List.eq_nil_of_length_eq_zero HLR.out.symm
        have DG1 : Hid (Digs (wr.alloc (.cells #[.int .i64 (dg xs s)] 3)) (.slice (some ⟨wr.heap.size, 0, none⟩) 1 1) (dg xs s :: rs)) := by
          rw [hrs]; exact Row.digs (base := w.heap.size + 5) (zs := [dg xs s]) OW.out
        have HRS := hid hrs
        clear hrs
        go_wp2_with (at_builtin; refine wpList_append_own_none rfl _ _ 30 rfl (w.heap.size + 5) 3 i0 1 Try.underlying30 hi0 _ 1 [.int .i64 (dg xs s)] rfl OW.out rfl ?_)
        have MEM1 := hid (MEM.out.later hb1)
        have x1 := bthen hbw hbw.size hb1
        refine (trim_s DG1.out (by simp; omega)).mono ?_
        rintro e w2 ⟨n2, hn2, hzr, hcn, rfl, dg2, rfl⟩
        have DG2 := hid dg2
        have V2 : Hid (val (List.take n2 (dg xs s :: rs)) = dg xs s + 65536 * R) := by rw [Hid, val_trim hn2 hzr, val, hR.out]
        have K2 : Hid (Dig (List.take n2 (dg xs s :: rs)) ∧ Canon (List.take n2 (dg xs s :: rs)) ∧ (List.take n2 (dg xs s :: rs)).length ≤ 1000000) := ⟨dig_take (dig_cons r2 (dg_ok d2 s).1 (dg_ok d2 s).2) n2, canon_take hn2 hcn, by rw [List.length_take]; simp; omega⟩
        clear dg2 hn2 hzr hcn
        obtain ⟨-, ⟨q1', q2', q3', q4'⟩, -, -, -, -, -⟩ := id MEM1.out
        go_wp2_with fail
        refine (digit_any DG2.out (E1.out.later x1) K2.out.1 K2.out.2.1 e2 e3 hY (by rw [V2.out]; exact BD.out.2) K2.out.2.2 (by omega)).mono ?_
        rw [V2.out, ← hD.out]
        rintro e w3 ⟨rfl, hb3⟩
        have x3 := bthen x1 x1.size hb3
        have MEM3 := hid (MEM1.out.later hb3)
        obtain ⟨cq, fq⟩ := MEM3.out.2.2.2.2.1 s (by have := HQ.out; omega)
        have MEM4 := hid (MEM3.out.set (k := s) (by have := HQ.out; omega) D)
        have DG4 := hid (Digs.apart (DG2.out.later hb3) (r := w.heap.size + 1 + 1 + 1 + 1) (o := s) (by omega) (.int .i64 D))
        clear q1' q2' q3' q4'
        have S0 : Below w.heap.size w (w3.setCell ⟨w.heap.size + 1 + 1 + 1 + 1, s, none⟩ (.int .i64 D)) ∧ (w3.setCell ⟨w.heap.size + 1 + 1 + 1 + 1, s, none⟩ (.int .i64 D)).cell? ⟨w.heap.size + 1, 1, none⟩ = some (.slice a' ys.length c') ∧ (w3.setCell ⟨w.heap.size + 1 + 1 + 1 + 1, s, none⟩ (.int .i64 D)).cell? ⟨w.heap.size + 1 + 1 + 1 + 1, s, none⟩ = some (.int .i64 D) := ⟨MEM4.out.2.2.2.2.2.1, MEM4.out.2.1.2.1, World.cell?_setCell_same _ _ _ cq⟩
        have KS : Hid (∀ W1 W2 : World, Below W1.heap.size W1 W2 → (Below w.heap.size w W1 ∧ W1.cell? ⟨w.heap.size + 1, 1, none⟩ = some (.slice a' ys.length c') ∧ W1.cell? ⟨w.heap.size + 1 + 1 + 1 + 1, s, none⟩ = some (.int .i64 D)) → (Below w.heap.size w W2 ∧ W2.cell? ⟨w.heap.size + 1, 1, none⟩ = some (.slice a' ys.length c') ∧ W2.cell? ⟨w.heap.size + 1 + 1 + 1 + 1, s, none⟩ = some (.int .i64 D))) := fun W1 W2 hb ⟨h0, h1, h2⟩ => ⟨bthen h0 h0.size hb, cell_later hb h1, cell_later hb h2⟩
        have hwD : IntKind.u64.wrap D = D := IntWalk.u64_in _ ⟨D0, by omega⟩
        go_wp2_with fail
        go_region_held3 (fun w' => Below w.heap.size w w' ∧ w'.cell? ⟨w.heap.size + 1, 1, none⟩ = some (.slice a' ys.length c') ∧ w'.cell? ⟨w.heap.size + 1 + 1 + 1 + 1, s, none⟩ = some (.int .i64 D))
          (first | exact KS.out _ _ hb7 (by assumption) | exact KS.out _ _ hb6 (by assumption) | exact KS.out _ _ hb5 (by assumption) | exact KS.out _ _ (Below.drew (Below.refl _ _)) (by assumption) | (refine ⟨by go_grown, ?_, ?_⟩ <;> simp [go_sem, *]))
          (first
            | (go_at_call 55; refine (subs_any (DG4.out.later (bthen hb5' hb5'.size hb6)) T1.out K2.out.1 t2 (by have := K2.out.2.2; omega) (len_le_of_val t2 K2.out.1 t3 HPV.out) HPV.out).mono ?_; rw [T5.out, V2.out]; rintro e w7 ⟨v7, zs, rfl, s1, s2, s3, s4, s5, hb7⟩; obtain ⟨a7, c7, rfl⟩ := s1.form; have MEM7 := hid (MEM6.out.later hb7); have S1 := hid s1; have S5 := hid s5; clear s1 s5)
            | (go_at_call 15; refine (bmul_pp (x := val ys) (Digs.big (E1.out.later X5) e2 e3) Q5.out (by omega) D0 (by omega) (by decide)).mono ?_; rintro e w6 ⟨a6, l6, c6, rfl, q6, hb6⟩; obtain ⟨ps, t1, t2, t3, t4, t5, rfl⟩ := q6.open; rw [ab_pos (Int.mul_nonneg (by omega) D0)] at t5; have T1 := hid t1; have T5 := hid t5; have HPV : Hid (val ps ≤ val (List.take n2 (dg xs s :: rs))) := (by rw [Hid, T5.out, V2.out]; have := ST.out.2.2.2.2.1; omega); have MEM6 := hid (MEM5.out.later hb6); clear t1 t5 q6)
            | (go_at_call 35; refine (word_any D D0 (by omega) _).mono ?_; rintro e w5 ⟨a5, l5, c5, rfl, q5, hb5⟩; have hb5' := bthen (Below.drew (Below.refl _ _)) (Nat.le_refl _) hb5; have MEM5 := hid (MEM4.out.later hb5'); have X5 := MEM5.out.2.2.2.2.2.1; have Q5 := hid q5; clear q5))
        go_wp2
        go_roundw
        case rel => exact ⟨s, _, zs, a7, _, c7, _, by omega, rfl, rfl, S1.out, s2, s3, S5.out, ST.out, MEM7.out⟩
        case measure => simp [intOf]
      · obtain ⟨b2, off2, hc2, rfl⟩ : ∃ b2 off2, Hid (∀ j, j < rs.length → wr.cell? ⟨b2, off2 + j, none⟩ = some (.int .i64 (dg rs j))) ∧ ar = some ⟨b2, off2, none⟩ := by
          obtain ⟨ao, bb, oo, cc, he, h1', h2', h3', h4'⟩ := DR.out
          simp at he
          obtain ⟨he1, he2, he3⟩ := he
          rcases h3' with h3' | h3'
          · exact absurd (he1.trans h3'.1) har
          · exact ⟨bb, oo, h4', he1.trans h3'⟩
        clear har
        have OW := hid (lit_owns (base := w.heap.size + 5) hsz (dg xs s))
        go_wp2_with (at_builtin; refine wpList_append_own _ rfl _ _ 30 rfl (w.heap.size + 5) 3 i0 (.int .i64 0) 1 8 Try.underlying30 hi0 hz0 hz1 hz2 rfl (by decide) _ 1 [.int .i64 (dg xs s)] rfl OW.out ⟨b2, off2, none⟩ lr cr (rs.map (Value.int .i64)) rfl ?f0 ?f1 ?f2 ?f3 ?f4 ?f5 ?_)
        case f0 => first | exact HLR.out.symm | (rw [List.length_map, HLR.out]; omega)
        case f1 => exact news_digs (fun j hj => cell_later ((Below.refl wr.heap.size wr).alloc (Nat.le_refl _) _) (hc2.out j hj))
        case f2 => exact fun _ _ => rfl
        case f3 => have := HLR.out; unfold maxLen; omega
        case f4 => have := HLR.out; omega
        case f5 => first | omega | (simp; omega)
        intro v' w1 hown' hgrow _
        obtain ⟨g, cap1, rfl, hg, dg1, hb1⟩ := cons_rel HLR.out hown' hgrow
        have DG1 := hid dg1
        clear dg1 hown' hgrow
        have MEM1 := hid (MEM.out.later hb1)
        have x1 := bthen hbw hbw.size hb1
        go_wp2_with fail
        refine (trim_s DG1.out (by simp; omega)).mono ?_
        rintro e w2 ⟨n2, hn2, hzr, hcn, rfl, dg2, rfl⟩
        have DG2 := hid dg2
        have V2 : Hid (val (List.take n2 (dg xs s :: rs)) = dg xs s + 65536 * R) := by rw [Hid, val_trim hn2 hzr, val, hR.out]
        have K2 : Hid (Dig (List.take n2 (dg xs s :: rs)) ∧ Canon (List.take n2 (dg xs s :: rs)) ∧ (List.take n2 (dg xs s :: rs)).length ≤ 1000000) := ⟨dig_take (dig_cons r2 (dg_ok d2 s).1 (dg_ok d2 s).2) n2, canon_take hn2 hcn, by rw [List.length_take]; simp; omega⟩
        clear dg2 hn2 hzr hcn
        obtain ⟨-, ⟨q1', q2', q3', q4'⟩, -, -, -, -, -⟩ := id MEM1.out
        go_wp2_with fail
        refine (digit_any DG2.out (E1.out.later x1) K2.out.1 K2.out.2.1 e2 e3 hY (by rw [V2.out]; exact BD.out.2) K2.out.2.2 (by omega)).mono ?_
        rw [V2.out, ← hD.out]
        rintro e w3 ⟨rfl, hb3⟩
        have x3 := bthen x1 x1.size hb3
        have MEM3 := hid (MEM1.out.later hb3)
        obtain ⟨cq, fq⟩ := MEM3.out.2.2.2.2.1 s (by have := HQ.out; omega)
        have MEM4 := hid (MEM3.out.set (k := s) (by have := HQ.out; omega) D)
        have DG4 := hid (Digs.apart (DG2.out.later hb3) (r := w.heap.size + 1 + 1 + 1 + 1) (o := s) (by omega) (.int .i64 D))
        clear q1' q2' q3' q4'
        have S0 : Below w.heap.size w (w3.setCell ⟨w.heap.size + 1 + 1 + 1 + 1, s, none⟩ (.int .i64 D)) ∧ (w3.setCell ⟨w.heap.size + 1 + 1 + 1 + 1, s, none⟩ (.int .i64 D)).cell? ⟨w.heap.size + 1, 1, none⟩ = some (.slice a' ys.length c') ∧ (w3.setCell ⟨w.heap.size + 1 + 1 + 1 + 1, s, none⟩ (.int .i64 D)).cell? ⟨w.heap.size + 1 + 1 + 1 + 1, s, none⟩ = some (.int .i64 D) := ⟨MEM4.out.2.2.2.2.2.1, MEM4.out.2.1.2.1, World.cell?_setCell_same _ _ _ cq⟩
        have KS : Hid (∀ W1 W2 : World, Below W1.heap.size W1 W2 → (Below w.heap.size w W1 ∧ W1.cell? ⟨w.heap.size + 1, 1, none⟩ = some (.slice a' ys.length c') ∧ W1.cell? ⟨w.heap.size + 1 + 1 + 1 + 1, s, none⟩ = some (.int .i64 D)) → (Below w.heap.size w W2 ∧ W2.cell? ⟨w.heap.size + 1, 1, none⟩ = some (.slice a' ys.length c') ∧ W2.cell? ⟨w.heap.size + 1 + 1 + 1 + 1, s, none⟩ = some (.int .i64 D))) := fun W1 W2 hb ⟨h0, h1, h2⟩ => ⟨bthen h0 h0.size hb, cell_later hb h1, cell_later hb h2⟩
        have hwD : IntKind.u64.wrap D = D := IntWalk.u64_in _ ⟨D0, by omega⟩
        go_wp2_with fail
        go_region_held3 (fun w' => Below w.heap.size w w' ∧ w'.cell? ⟨w.heap.size + 1, 1, none⟩ = some (.slice a' ys.length c') ∧ w'.cell? ⟨w.heap.size + 1 + 1 + 1 + 1, s, none⟩ = some (.int .i64 D))
          (first | exact KS.out _ _ hb7 (by assumption) | exact KS.out _ _ hb6 (by assumption) | exact KS.out _ _ hb5 (by assumption) | exact KS.out _ _ (Below.drew (Below.refl _ _)) (by assumption) | (refine ⟨by go_grown, ?_, ?_⟩ <;> simp [go_sem, *]))
          (first
            | (go_at_call 55; refine (subs_any (DG4.out.later (bthen hb5' hb5'.size hb6)) T1.out K2.out.1 t2 (by have := K2.out.2.2; omega) (len_le_of_val t2 K2.out.1 t3 HPV.out) HPV.out).mono ?_; rw [T5.out, V2.out]; rintro e w7 ⟨v7, zs, rfl, s1, s2, s3, s4, s5, hb7⟩; obtain ⟨a7, c7, rfl⟩ := s1.form; have MEM7 := hid (MEM6.out.later hb7); have S1 := hid s1; have S5 := hid s5; clear s1 s5)
            | (go_at_call 15; refine (bmul_pp (x := val ys) (Digs.big (E1.out.later X5) e2 e3) Q5.out (by omega) D0 (by omega) (by decide)).mono ?_; rintro e w6 ⟨a6, l6, c6, rfl, q6, hb6⟩; obtain ⟨ps, t1, t2, t3, t4, t5, rfl⟩ := q6.open; rw [ab_pos (Int.mul_nonneg (by omega) D0)] at t5; have T1 := hid t1; have T5 := hid t5; have HPV : Hid (val ps ≤ val (List.take n2 (dg xs s :: rs))) := (by rw [Hid, T5.out, V2.out]; have := ST.out.2.2.2.2.1; omega); have MEM6 := hid (MEM5.out.later hb6); clear t1 t5 q6)
            | (go_at_call 35; refine (word_any D D0 (by omega) _).mono ?_; rintro e w5 ⟨a5, l5, c5, rfl, q5, hb5⟩; have hb5' := bthen (Below.drew (Below.refl _ _)) (Nat.le_refl _) hb5; have MEM5 := hid (MEM4.out.later hb5'); have X5 := MEM5.out.2.2.2.2.2.1; have Q5 := hid q5; clear q5))
        go_wp2
        go_roundw
        case rel => exact ⟨s, _, zs, a7, _, c7, _, by omega, rfl, rfl, S1.out, s2, s3, S5.out, ST.out, MEM7.out⟩
        case measure => simp [intOf]
end Go.Proofs.Ytlpenfganhaclaa
