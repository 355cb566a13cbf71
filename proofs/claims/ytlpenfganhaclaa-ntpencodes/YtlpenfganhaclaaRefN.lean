/-
  The contract of the reference numbers' Div, of a dividend below 0: the quotient rounded down, and what is left. No conditions beside the memory's own.
-/
import Derived.Test.YtlpenfganhaclaaRefL
import Derived.Laws.AppendOwnNone
import Derived.Deep.DeepCutAuto
namespace Go.Proofs.Ytlpenfganhaclaa
open Go.RowKit

theorem dn_up {P d q r : Int} (hd : 0 < d) (hq : P / d = q) (hr : P % d = r) (h0 : r ≠ 0) : -P / d = -(q + 1) ∧ -P % d = d - r := by
  rw [Int.ediv_emod_unique hd]
  have h1 := Int.emod_add_mul_ediv P d
  have h2 := Int.emod_nonneg P (by omega : d ≠ 0)
  have h3 := Int.emod_lt_of_pos P hd
  rw [hq, hr] at h1
  rw [hr] at h2 h3
  refine ⟨?_, by omega, by omega⟩
  rw [Int.mul_neg, Int.mul_add]; omega
theorem dn_even {P d q : Int} (hd : 0 < d) (hq : P / d = q) (hr : P % d = 0) : -P / d = -q ∧ -P % d = 0 := by
  rw [Int.ediv_emod_unique hd]
  have h1 := Int.emod_add_mul_ediv P d
  rw [hq, hr] at h1
  refine ⟨?_, by omega, by omega⟩
  rw [Int.mul_neg]; omega
theorem neg_sig {n : Nat} {a : Option Addr} {l c : Nat} {z : Int} {s : Bool} {w : World} (h : BigIs n w (.slice a l c) z) (hs : sg z = s) :
    Calls Try.prog 45 #[.agg #[.bool s, .slice a l c]] w fun e w' => e = .returned (.agg #[.bool (sg (-z)), .slice a l c]) ∧ BigIs n w' (.slice a l c) (-z) ∧ Below w.heap.size w w' := by
  subst hs; exact neg_any h

attribute [local go_sem ↓] Go.wp_at_zero Go.wp_at_succ
set_option maxRecDepth 100000 in
set_option maxHeartbeats 4000000 in
theorem bdiv_neg {n m : Nat} {a a' : Option Addr} {l l' c c' : Nat} {x y : Int} {w : World} (ha : BigIs n w (.slice a l c) x) (hb : BigIs m w (.slice a' l' c') y) (hx0 : x < 0) (hy0 : 0 < y) (hn : n ≤ 100000) (hm : m ≤ 100000) :
    Calls Try.prog 52 #[.agg #[.bool (sg x), .slice a l c], .agg #[.bool (sg y), .slice a' l' c']] w fun e w' =>
      ∃ b k d b' k' d', e = .returned (.tuple #[.agg #[.bool (sg (x / y)), .slice b k d], .agg #[.bool (sg (x % y)), .slice b' k' d']]) ∧ BigIs (max n 4 + 1) w' (.slice b k d) (x / y) ∧ BigIs (m + 1) w' (.slice b' k' d') (x % y) ∧ Below w.heap.size w w' := by
  obtain ⟨i0, hi0, hz0, hz1, hz2⟩ : ∃ i, Try.prog.info? 3 = some i ∧ i.zero = some (.int .i64 0) ∧ i.size = 1 ∧ i.bytes = 8 := by
    have h := Try.infoInt
    cases hi : Try.prog.info? 3 with
    | none => rw [hi] at h; simp at h
    | some i => rw [hi] at h; simp at h; exact ⟨i, rfl, h.1, h.2.1, h.2.2⟩
  obtain ⟨xs, ⟨ao, b, off, cap, hs1, h2, h3, h4, h5⟩, d2, d3, d4, d5, rfl⟩ := ha.open
  obtain ⟨ys, e1, e2, e3, e4, e5, rfl⟩ := hb.open
  clear ha hb
  obtain ⟨rfl, rfl⟩ : a = ao ∧ c = cap := by simpa using hs1
  rw [ab_neg hx0] at d5
  rw [ab_pos (by omega)] at e5
  rw [sg_neg hx0]
  have hY : 0 < val ys := by omega
  have H5 := hid h5
  have E1 := hid e1
  have D5 := hid d5
  have E5 := hid e5
  clear h5 hs1 d5 e5 e1
  have rf := run_field_big
  have hx : (xs.length : Int) ≤ 100000 := by omega
  obtain ⟨W', mk1, mk2, mk3, mk4⟩ := made xs.length (by omega) ((((w.alloc (.cells #[.bool true, .slice a xs.length c] 32)).alloc (.cells #[.bool (sg y), .slice a' ys.length c'] 32)).alloc (.cells #[.bool false, .slice none 0 0] 32)).alloc (.cells #[.bool false, .slice none 0 0] 32))
  have mem0 : DMem w W' (.bool true) (.slice a xs.length c) (.bool (sg y)) (.slice a' ys.length c') (zeros xs.length) := by
    refine ⟨(two_later mk3 ⟨by simp [go_sem], by simp [go_sem], by simp [go_sem], by simp [go_sem]⟩).1, (two_later mk3 ⟨by simp [go_sem], by simp [go_sem], by simp [go_sem], by simp [go_sem]⟩).1, (two_later mk3 ⟨by simp [go_sem], by simp [go_sem], by simp [go_sem], by simp [go_sem]⟩).1, (two_later mk3 ⟨by simp [go_sem], by simp [go_sem], by simp [go_sem], by simp [go_sem]⟩).1, fun k hk => ?_, bthen (by go_grown) (by go_size) mk3, by rw [mk4]; simp⟩
    rw [zeros_len] at hk
    rw [dg_zeros]
    have := mk2 k hk
    simpa using this
  have M0 := hid mem0
  have m1 := mem0.1.2.1
  clear mem0 mk2 mk3 mk4
  go_enter Try.func52, Try.ntmps52
  go_wp2_with fail
  clear mk1 m1
  go_loopw [7, 8] (fun rv t wr => ∃ (k : Nat) (qs rs : List Int) (ar : Option Addr) (lr cr : Nat) (R : Int), k ≤ xs.length ∧ t = .int .i64 ((k : Int) - 1) ∧ rv = .slice ar lr cr ∧ Digs wr (.slice ar lr cr) rs ∧ Dig rs ∧ Canon rs ∧ Hid (val rs = R) ∧ DivSt xs ys k qs R ∧ DMem w wr (.bool true) (.slice a xs.length c) (.bool (sg y)) (.slice a' ys.length c') qs) (fun _ t _ => (intOf t + 1).toNat)
  case atStart => exact ⟨xs.length, _, [], none, 0, 0, 0, by omega, rfl, rfl, ⟨none, 0, 0, 0, rfl, by simp, by unfold maxLen; omega, .inl ⟨rfl, rfl⟩, fun j hj => by simp at hj⟩, dig_nil, .inl rfl, rfl, DivSt.start hY, M0.out⟩
  case round =>
    clear M0
    obtain ⟨k, qs, rs, ar, lr, cr, R, hk, rfl, rfl, dr, r2, r3, hR, st, mem⟩ := hrel
    obtain ⟨⟨p1, p2, p3, p4⟩, ⟨q1, q2, q3, q4⟩, -, -, -, hbw, hsz⟩ := id mem
    have MEM := hid mem
    have DR := hid dr
    clear mem dr
    by_cases hk0 : k = 0
    · subst hk0
      obtain ⟨dn1, dn2⟩ := st.done
      rw [D5.out, E5.out] at dn1 dn2
      have hql : qs.length = xs.length := st.1
      have hdq : Dig qs := st.2.1
      have hRY : R < val ys := st.2.2.2.2.2
      have hR0 : 0 ≤ R := st.2.2.2.2.1
      have hrl : rs.length ≤ ys.length := len_le_of_val r2 e2 r3 (by rw [hR.out]; omega)
      have DQ : Hid (Digs wr (.slice (some ⟨w.heap.size + 1 + 1 + 1 + 1, 0, none⟩) xs.length xs.length) qs) := by
        have h := MEM.out.digs (by omega); rw [hql] at h; exact h
      obtain ⟨q0, hq⟩ : ∃ q0, Hid (q0 = val qs) := ⟨_, rfl⟩
      have hq0 : 0 ≤ q0 := by rw [hq.out]; exact (val_range hdq).1
      have DN1 : Hid (-x / y = q0) := by rw [Hid, hq.out]; exact dn1
      have DN2 : Hid (-x % y = R) := dn2
      have HQ := hid hql
      clear st dn1 dn2 hql
      have s1 : sg q0 = false := sg_pos hq0
      have s2 : sg R = false := sg_pos hR0
      obtain ⟨-, -, ⟨t1, t2, t3, t4⟩, ⟨v1, v2, v3, v4⟩, -, -, -⟩ := id MEM.out
      go_wp2_with fail
      refine (trim_b DQ.out (by have := HQ.out; omega)).mono ?_
      rintro e w1 ⟨k2, v', hk2, hzr, hcn, rfl, hdg, hb1⟩
      obtain ⟨ga, gc, rfl⟩ := hdg.form
      obtain ⟨gl, hgl⟩ : ∃ gl, Hid (gl = (List.take k2 qs).length) := ⟨_, rfl⟩
      rw [← hgl.out] at hdg ⊢
      have BQ : Hid (BigIs n w1 (.slice ga gl gc) q0) := ⟨_, hdg, dig_take hdq k2, canon_take hk2 hcn, by rw [List.length_take]; have := HQ.out; omega, by rw [val_trim hk2 hzr, ab_pos hq0, hq.out]⟩
      have BR : Hid (BigIs m w1 (.slice ar lr cr) R) := ⟨rs, DR.out.later hb1, r2, r3, by omega, by rw [hR.out, ab_pos hR0]⟩
      have BD : Hid (BigIs m w1 (.slice a' ys.length c') y) := ⟨ys, E1.out.later (bthen hbw hbw.size hb1), e2, e3, e4, by rw [E5.out, ab_pos (by omega)]⟩
      clear hdg hk2 hzr hcn
      obtain ⟨⟨a1, a2, a3, a4⟩, a5⟩ := two_later hb1 (b := w.heap.size) (u := .bool true) (v := .slice a xs.length c) ⟨p1, p2, p3, p4⟩
      obtain ⟨⟨b1, b2, b3, b4⟩, b5⟩ := two_later hb1 (b := w.heap.size + 1 + 1) (u := .bool false) (v := .slice none 0 0) ⟨t1, t2, t3, t4⟩
      obtain ⟨⟨c1, c2, c3, c4⟩, c5⟩ := two_later hb1 (b := w.heap.size + 1 + 1 + 1) (u := .bool false) (v := .slice none 0 0) ⟨v1, v2, v3, v4⟩
      obtain ⟨⟨f1, f2, f3, f4⟩, f5⟩ := two_later hb1 (b := w.heap.size + 1) (u := .bool (sg y)) (v := .slice a' ys.length c') ⟨q1, q2, q3, q4⟩
      have x1 := bthen hbw hbw.size hb1
      have zz1 := x1.size
      clear hb1 p1 p2 p3 p4 q1 q2 q3 q4 t1 t2 t3 t4 v1 v2 v3 v4 hbw MEM DQ DR
      go_upto_region 12 with fail
      obtain ⟨W2, hW2⟩ : ∃ W2, W2 = (w1.alloc (Obj.cells #[.bool false, .slice ga gl gc] 32)).alloc (Obj.cells #[.bool false, .slice ar lr cr] 32) := ⟨_, rfl⟩
      rw [← hW2]
      have hb2 : Below w1.heap.size w1 W2 := by rw [hW2]; go_grown
      have l1 : Two W2 w1.heap.size (.bool false) (.slice ga gl gc) := by rw [hW2]; exact ⟨by simp [go_sem], by simp [go_sem], by simp [go_sem], by simp [go_sem]⟩
      have l2 : Two W2 (w1.heap.size + 1) (.bool false) (.slice ar lr cr) := by rw [hW2]; exact ⟨by simp [go_sem], by simp [go_sem], by simp [go_sem], by simp [go_sem]⟩
      have TQ := hid (two_later hb2 (b := w.heap.size + 1 + 1) (u := .bool false) (v := .slice none 0 0) ⟨b1, b2, b3, b4⟩)
      have TR := hid (two_later hb2 (b := w.heap.size + 1 + 1 + 1) (u := .bool false) (v := .slice none 0 0) ⟨c1, c2, c3, c4⟩)
      have TD := hid (two_later hb2 (b := w.heap.size + 1) (u := .bool (sg y)) (v := .slice a' ys.length c') ⟨f1, f2, f3, f4⟩)
      have x2 := bthen x1 x1.size hb2
      have z2 := x2.size
      have BQ2 := hid (BQ.out.later hb2)
      have BR2 := hid (BR.out.later hb2)
      have BD2 := hid (BD.out.later hb2)
      have L1 := hid l1
      have L2 := hid l2
      obtain ⟨m1, m2, m3, m4⟩ := l1
      have ne : Hid (¬ w.heap.size + 1 + 1 = w1.heap.size ∧ ¬ w.heap.size + 1 + 1 + 1 = w1.heap.size ∧ ¬ w.heap.size + 1 = w1.heap.size ∧ ¬ w.heap.size + 1 + 1 = w1.heap.size + 1 ∧ ¬ w.heap.size + 1 + 1 + 1 = w1.heap.size + 1 ∧ ¬ w.heap.size + 1 = w1.heap.size + 1 ∧ w.heap.size ≤ w1.heap.size) := by rw [Hid]; omega
      clear hW2 hb2 a1 a2 a3 a4 a5 b1 b2 b3 b4 b5 c1 c2 c3 c4 c5 f1 f2 f3 f4 f5 BQ BR BD l2
      go_wp2_with fail
      refine (neg_sig BQ2.out s1).mono ?_
      rintro e w3 ⟨rfl, q3, hb3⟩
      have TX3 := hid (two_later hb3 L1.out)
      have TY3 := hid (two_later hb3 L2.out)
      have TQ3 := hid (two_later hb3 TQ.out.1)
      have TR3 := hid (two_later hb3 TR.out.1)
      have TD3 := hid (two_later hb3 TD.out.1)
      have BR3 := hid (BR2.out.later hb3)
      have BD3 := hid (BD2.out.later hb3)
      have x3 := bthen x2 x2.size hb3
      have z3 := x3.size
      have Q3 := hid q3
      obtain ⟨⟨g1, g2, g3, g4⟩, g5⟩ := TX3.out
      clear q3 hb3 m1 m2 m3 m4 L1 L2 TQ TR TD BQ2 BR2 BD2 x2 z2
      go_upto_region 13 with fail
      obtain ⟨V, hV⟩ : ∃ V, V = (w3.setCell ⟨w1.heap.size, 0, none⟩ (.bool (sg (-q0)))).setCell ⟨w1.heap.size, 1, none⟩ (.slice ga gl gc) := ⟨_, rfl⟩
      rw [← hV]
      have N := ne.out
      have TX4 : Hid (Two V w1.heap.size (.bool (sg (-q0))) (.slice ga gl gc)) := by rw [hV]; exact TX3.out.1.set _ _
      have TY4 : Hid (Two V (w1.heap.size + 1) (.bool false) (.slice ar lr cr)) := by rw [hV]; exact (TY3.out.1.other (by omega)).other (by omega)
      have TQ4 : Hid (Two V (w.heap.size + 1 + 1) (.bool false) (.slice none 0 0)) := by rw [hV]; exact (TQ3.out.1.other (by omega)).other (by omega)
      have TR4 : Hid (Two V (w.heap.size + 1 + 1 + 1) (.bool false) (.slice none 0 0)) := by rw [hV]; exact (TR3.out.1.other (by omega)).other (by omega)
      have TD4 : Hid (Two V (w.heap.size + 1) (.bool (sg y)) (.slice a' ys.length c')) := by rw [hV]; exact (TD3.out.1.other (by omega)).other (by omega)
      have BX4 : Hid (BigIs n V (.slice ga gl gc) (-q0)) := by rw [hV]; exact Q3.out.put TX3.out.1 (noInt_bool _) (noInt_slice _ _ _) _ _
      have BR4 : Hid (BigIs m V (.slice ar lr cr) R) := by rw [hV]; exact BR3.out.put TX3.out.1 (noInt_bool _) (noInt_slice _ _ _) _ _
      have BD4 : Hid (BigIs m V (.slice a' ys.length c') y) := by rw [hV]; exact BD3.out.put TX3.out.1 (noInt_bool _) (noInt_slice _ _ _) _ _
      have x4 : Below w.heap.size w V := by rw [hV]; go_grown
      have z4 := x4.size
      have LEN := hid BR4.out.len.2
      clear hV g1 g2 g3 g4 g5 TX3 TY3 TQ3 TR3 TD3 Q3 BR3 BD3 x3 z3
      obtain ⟨n1, n2, n3, n4, n5, n6, n7⟩ := N
      by_cases hz : R = 0
      · obtain rfl := LEN.out.2 hz
        obtain ⟨ex, ey⟩ := dn_even hy0 DN1.out (DN2.out.trans hz)
        rw [Int.neg_neg] at ex ey
        have EX := hid ex
        have EY := hid (ey.trans hz.symm)
        clear ex ey LEN
        obtain ⟨a1, a2, a3, a4⟩ := TX4.out
        obtain ⟨b1, b2, b3, b4⟩ := TY4.out
        obtain ⟨c1, c2, c3, c4⟩ := TQ4.out
        obtain ⟨d1, d2, d3, d4⟩ := TR4.out
        have Y2 : Hid (Two ((V.setCell ⟨w.heap.size + 1 + 1, 0, none⟩ (.bool (sg (-q0)))).setCell ⟨w.heap.size + 1 + 1, 1, none⟩ (.slice ga gl gc)) (w.heap.size + 1 + 1 + 1) (.bool false) (.slice none 0 0)) := (TR4.out.other (by omega)).other (by omega)
        go_wp2_with fail
        go_region
        all_goals
          go_wp2_with fail
          refine bodyPost_ret (v := .tuple #[.agg #[.bool (sg (-q0)), .slice ga gl gc], .agg #[.bool false, .slice ar 0 cr]]) (by simp [results, Try.results52, go_sem, *]) rfl ⟨_, _, _, _, _, _, by rw [EX.out, EY.out, s2], ?_, ?_, by go_grown⟩
          · rw [EX.out]; exact ((BX4.out.wide (by omega)).put TQ4.out (noInt_bool _) (noInt_slice _ _ _) _ _).put Y2.out (noInt_bool _) (noInt_slice _ _ _) _ _
          · rw [EY.out]; exact ((BR4.out.wide (by omega)).put TQ4.out (noInt_bool _) (noInt_slice _ _ _) _ _).put Y2.out (noInt_bool _) (noInt_slice _ _ _) _ _
      · have hlr : lr ≠ 0 := fun h => hz (LEN.out.1 h)
        have hlr' : ((lr : Int) == 0) = false := by rw [beq_eq_false_iff_ne]; omega
        obtain ⟨ex, ey⟩ := dn_up hy0 DN1.out DN2.out hz
        rw [Int.neg_neg] at ex ey
        have EX : Hid (x / y = -q0 - 1) := by rw [Hid, ex]; omega
        have EY : Hid (x % y = y - R) := ey
        clear ex ey LEN hz
        go_upto_region 15 with fail
        clear hlr hlr'
        have S0 : Below w.heap.size w V ∧ V.cell? ⟨w1.heap.size, 0, none⟩ = some (.bool (sg (-q0))) ∧ V.cell? ⟨w1.heap.size, 1, none⟩ = some (.slice ga gl gc) ∧ V.cell? ⟨w1.heap.size + 1, 0, none⟩ = some (.bool false) ∧ V.cell? ⟨w1.heap.size + 1, 1, none⟩ = some (.slice ar lr cr) ∧ V.cell? ⟨w.heap.size + 1, 0, none⟩ = some (.bool (sg y)) ∧ V.cell? ⟨w.heap.size + 1, 1, none⟩ = some (.slice a' ys.length c') := ⟨x4, TX4.out.1, TX4.out.2.1, TY4.out.1, TY4.out.2.1, TD4.out.1, TD4.out.2.1⟩
        have KS : Hid (∀ W1 W2 : World, Below W1.heap.size W1 W2 → (Below w.heap.size w W1 ∧ W1.cell? ⟨w1.heap.size, 0, none⟩ = some (.bool (sg (-q0))) ∧ W1.cell? ⟨w1.heap.size, 1, none⟩ = some (.slice ga gl gc) ∧ W1.cell? ⟨w1.heap.size + 1, 0, none⟩ = some (.bool false) ∧ W1.cell? ⟨w1.heap.size + 1, 1, none⟩ = some (.slice ar lr cr) ∧ W1.cell? ⟨w.heap.size + 1, 0, none⟩ = some (.bool (sg y)) ∧ W1.cell? ⟨w.heap.size + 1, 1, none⟩ = some (.slice a' ys.length c')) → (Below w.heap.size w W2 ∧ W2.cell? ⟨w1.heap.size, 0, none⟩ = some (.bool (sg (-q0))) ∧ W2.cell? ⟨w1.heap.size, 1, none⟩ = some (.slice ga gl gc) ∧ W2.cell? ⟨w1.heap.size + 1, 0, none⟩ = some (.bool false) ∧ W2.cell? ⟨w1.heap.size + 1, 1, none⟩ = some (.slice ar lr cr) ∧ W2.cell? ⟨w.heap.size + 1, 0, none⟩ = some (.bool (sg y)) ∧ W2.cell? ⟨w.heap.size + 1, 1, none⟩ = some (.slice a' ys.length c'))) := fun W1 W2 hb ⟨h0, h1, h2, h3, h4, h5, h6⟩ => ⟨bthen h0 h0.size hb, cell_later hb h1, cell_later hb h2, cell_later hb h3, cell_later hb h4, cell_later hb h5, cell_later hb h6⟩
        go_region_held3 (fun w' => Below w.heap.size w w' ∧ w'.cell? ⟨w1.heap.size, 0, none⟩ = some (.bool (sg (-q0))) ∧ w'.cell? ⟨w1.heap.size, 1, none⟩ = some (.slice ga gl gc) ∧ w'.cell? ⟨w1.heap.size + 1, 0, none⟩ = some (.bool false) ∧ w'.cell? ⟨w1.heap.size + 1, 1, none⟩ = some (.slice ar lr cr) ∧ w'.cell? ⟨w.heap.size + 1, 0, none⟩ = some (.bool (sg y)) ∧ w'.cell? ⟨w.heap.size + 1, 1, none⟩ = some (.slice a' ys.length c'))
          (first | exact KS.out _ _ hbC (by assumption) | exact KS.out _ _ hbB (by assumption) | exact KS.out _ _ hbA (by assumption) | exact KS.out _ _ (Below.drew (Below.refl _ _)) (by assumption) | (refine ⟨by go_grown, ?_, ?_, ?_, ?_, ?_, ?_⟩ <;> simp [go_sem, *]))
          (first
            | (go_at_call 35; refine (word_b 1 (by decide) (by decide) _).mono ?_; rintro e wA ⟨aA, lA, cA, rfl, qA, hbA⟩; have XA := bthen (B := V.heap.size) (w := V) (by go_grown) (by go_size) hbA; have XAs := XA.size; have QA := hid qA; clear qA; obtain ⟨⟨r1, r2, r3, r4⟩, r5⟩ := two_later XA TQ4.out; obtain ⟨⟨u1, u2, u3, u4⟩, u5⟩ := two_later XA TR4.out; have xF := bthen x4 x4.size XA; have zF := xF.size)
            | (go_at_call 14; refine (bsub_sig (BD4.out.later (by go_grown)) (BR4.out.later (by go_grown)) rfl s2 (by omega) (by omega)).mono ?_; rw [← EY.out]; rintro e wC ⟨aC, lC, cC, rfl, qC, hbC⟩; have XC := bthen (B := V.heap.size) (w := V) (by go_grown) (by go_size) hbC; have XCs := XC.size; have QC := hid qC; clear qC; (try have YA := bthen (B := wA.heap.size) (w := wA) (by go_grown) (by go_size) hbC); (try have YB := bthen (B := wB.heap.size) (w := wB) (by go_grown) (by go_size) hbC); obtain ⟨⟨r1, r2, r3, r4⟩, r5⟩ := two_later XC TQ4.out; obtain ⟨⟨u1, u2, u3, u4⟩, u5⟩ := two_later XC TR4.out; have xF := bthen x4 x4.size XC; have zF := xF.size)
            | (go_at_call 14; refine (bsub_any (BX4.out.later (by go_grown)) (QA.out.later (by go_grown)) (by omega) (by decide)).mono ?_; rw [← EX.out]; rintro e wB ⟨aB, lB, cB, rfl, qB, hbB⟩; have XB := bthen (B := V.heap.size) (w := V) (by go_grown) (by go_size) hbB; have XBs := XB.size; have QB := hid qB; clear qB; (try have YC := bthen (B := wC.heap.size) (w := wC) (by go_grown) (by go_size) hbB); obtain ⟨⟨r1, r2, r3, r4⟩, r5⟩ := two_later XB TQ4.out; obtain ⟨⟨u1, u2, u3, u4⟩, u5⟩ := two_later XB TR4.out; have xF := bthen x4 x4.size XB; have zF := xF.size))
        all_goals
          go_wp2_with fail
          refine bodyPost_ret (v := .tuple #[.agg #[.bool (sg (x / y)), .slice aB lB cB], .agg #[.bool (sg (x % y)), .slice aC lC cC]]) (by simp [results, Try.results52, go_sem, *]) rfl ⟨_, _, _, _, _, _, rfl, ?_, ?_, by go_grown⟩
          · exact ((QB.out.later (by go_grown)).put (u0 := .bool false) (u1 := .slice none 0 0) ⟨r1, r2, r3, r4⟩ (noInt_bool _) (noInt_slice _ _ _) _ _).put (u0 := .bool false) (u1 := .slice none 0 0) ((Two.other ⟨u1, u2, u3, u4⟩ (by omega)).other (by omega)) (noInt_bool _) (noInt_slice _ _ _) _ _
          · exact ((BigIs.wide (QC.out.later (by go_grown)) (by omega)).put (u0 := .bool false) (u1 := .slice none 0 0) ⟨r1, r2, r3, r4⟩ (noInt_bool _) (noInt_slice _ _ _) _ _).put (u0 := .bool false) (u1 := .slice none 0 0) ((Two.other ⟨u1, u2, u3, u4⟩ (by omega)).other (by omega)) (noInt_bool _) (noInt_slice _ _ _) _ _
    · obtain ⟨s, rfl⟩ : ∃ s, k = s + 1 := ⟨k - 1, by omega⟩
      obtain rfl := some_of h4 (by omega)
      have cx := cell_later hbw (H5.out s (by omega))
      have e0 : ((s + 1 : Nat) : Int) - 1 = (s : Int) := by omega
      rw [e0]
      clear e0
      have z0 : (0 : Int) ≤ (s : Int) := by omega
      have z1 : (s : Int) < xs.length := by omega
      obtain ⟨D, hD⟩ : ∃ D, Hid (D = (dg xs s + 65536 * R) / val ys) := ⟨_, rfl⟩
      obtain ⟨st2, D0, D1⟩ := st.step d2 (by omega) hD.out
      obtain ⟨bd0, bd1⟩ := st.bound d2
      have hql : qs.length = xs.length := st.1
      have hrl : rs.length ≤ ys.length := len_le_of_val r2 e2 r3 (by rw [hR.out]; have := st.2.2.2.2.2; omega)
      have ST := hid st2
      have BD := hid (And.intro bd0 bd1)
      have HQ := hid hql
      clear st st2 bd0 bd1 hql
      have HLR : Hid (lr = rs.length) := by obtain ⟨_, _, e⟩ := DR.out.form; simp at e; exact e.2.1
      by_cases har : ar = none
      · subst har
        obtain ⟨rfl, rfl⟩ : lr = 0 ∧ cr = 0 := by
          obtain ⟨ao, bb, oo, cc, he, h1', h2', h3', h4'⟩ := DR.out
          simp at he
          obtain ⟨he1, he2, he3⟩ := he
          rcases h3' with h3' | h3'
          · omega
          · rw [h3'] at he1; cases he1
        have OW := hid (lit_owns (base := w.heap.size + 5) hsz (dg xs s))
        have hb1 := (Below.refl wr.heap.size wr).alloc (Nat.le_refl _) (.cells #[.int .i64 (dg xs s)] 3)
        have hrs : rs = [] := List.eq_nil_of_length_eq_zero HLR.out.symm
        have DG1 : Hid (Digs (wr.alloc (.cells #[.int .i64 (dg xs s)] 3)) (.slice (some ⟨wr.heap.size, 0, none⟩) 1 1) (dg xs s :: rs)) := by
          rw [hrs]; exact Row.digs (base := w.heap.size + 5) (zs := [dg xs s]) OW.out
        have HRS := hid hrs
        clear hrs
        go_wp2_with (at_builtin; refine wpList_append_own_none rfl _ _ 30 rfl (w.heap.size + 5) 3 i0 1 Try.underlying30 hi0 _ 1 [.int .i64 (dg xs s)] rfl OW.out rfl ?_)
        have MEM1 := hid (MEM.out.later hb1)
        have x1 := bthen hbw hbw.size hb1
        refine (trim_s DG1.out (by simp; omega)).mono ?_
        rintro e w2 ⟨n2, hn2, hzr, hcn, rfl, dg2, rfl⟩
        have DG2 := hid dg2
        have V2 : Hid (val (List.take n2 (dg xs s :: rs)) = dg xs s + 65536 * R) := by rw [Hid, val_trim hn2 hzr, val, hR.out]
        have K2 : Hid (Dig (List.take n2 (dg xs s :: rs)) ∧ Canon (List.take n2 (dg xs s :: rs)) ∧ (List.take n2 (dg xs s :: rs)).length ≤ 1000000) := ⟨dig_take (dig_cons r2 (dg_ok d2 s).1 (dg_ok d2 s).2) n2, canon_take hn2 hcn, by rw [List.length_take]; simp; omega⟩
        clear dg2 hn2 hzr hcn
        obtain ⟨-, ⟨q1', q2', q3', q4'⟩, -, -, -, -, -⟩ := id MEM1.out
        go_wp2_with fail
        refine (digit_any DG2.out (E1.out.later x1) K2.out.1 K2.out.2.1 e2 e3 hY (by rw [V2.out]; exact BD.out.2) K2.out.2.2 (by omega)).mono ?_
        rw [V2.out, ← hD.out]
        rintro e w3 ⟨rfl, hb3⟩
        have x3 := bthen x1 x1.size hb3
        have MEM3 := hid (MEM1.out.later hb3)
        obtain ⟨cq, fq⟩ := MEM3.out.2.2.2.2.1 s (by have := HQ.out; omega)
        have MEM4 := hid (MEM3.out.set (k := s) (by have := HQ.out; omega) D)
        have DG4 := hid (Digs.apart (DG2.out.later hb3) (r := w.heap.size + 1 + 1 + 1 + 1) (o := s) (by omega) (.int .i64 D))
        clear q1' q2' q3' q4'
        have S0 : Below w.heap.size w (w3.setCell ⟨w.heap.size + 1 + 1 + 1 + 1, s, none⟩ (.int .i64 D)) ∧ (w3.setCell ⟨w.heap.size + 1 + 1 + 1 + 1, s, none⟩ (.int .i64 D)).cell? ⟨w.heap.size + 1, 1, none⟩ = some (.slice a' ys.length c') ∧ (w3.setCell ⟨w.heap.size + 1 + 1 + 1 + 1, s, none⟩ (.int .i64 D)).cell? ⟨w.heap.size + 1 + 1 + 1 + 1, s, none⟩ = some (.int .i64 D) := ⟨MEM4.out.2.2.2.2.2.1, MEM4.out.2.1.2.1, World.cell?_setCell_same _ _ _ cq⟩
        have KS : Hid (∀ W1 W2 : World, Below W1.heap.size W1 W2 → (Below w.heap.size w W1 ∧ W1.cell? ⟨w.heap.size + 1, 1, none⟩ = some (.slice a' ys.length c') ∧ W1.cell? ⟨w.heap.size + 1 + 1 + 1 + 1, s, none⟩ = some (.int .i64 D)) → (Below w.heap.size w W2 ∧ W2.cell? ⟨w.heap.size + 1, 1, none⟩ = some (.slice a' ys.length c') ∧ W2.cell? ⟨w.heap.size + 1 + 1 + 1 + 1, s, none⟩ = some (.int .i64 D))) := fun W1 W2 hb ⟨h0, h1, h2⟩ => ⟨bthen h0 h0.size hb, cell_later hb h1, cell_later hb h2⟩
        have hwD : IntKind.u64.wrap D = D := IntWalk.u64_in _ ⟨D0, by omega⟩
        go_wp2_with fail
        go_region_held3 (fun w' => Below w.heap.size w w' ∧ w'.cell? ⟨w.heap.size + 1, 1, none⟩ = some (.slice a' ys.length c') ∧ w'.cell? ⟨w.heap.size + 1 + 1 + 1 + 1, s, none⟩ = some (.int .i64 D))
          (first | exact KS.out _ _ hb7 (by assumption) | exact KS.out _ _ hb6 (by assumption) | exact KS.out _ _ hb5 (by assumption) | exact KS.out _ _ (Below.drew (Below.refl _ _)) (by assumption) | (refine ⟨by go_grown, ?_, ?_⟩ <;> simp [go_sem, *]))
          (first
            | (go_at_call 55; refine (subs_any (DG4.out.later (bthen hb5' hb5'.size hb6)) T1.out K2.out.1 t2 (by have := K2.out.2.2; omega) (len_le_of_val t2 K2.out.1 t3 HPV.out) HPV.out).mono ?_; rw [T5.out, V2.out]; rintro e w7 ⟨v7, zs, rfl, s1, s2, s3, s4, s5, hb7⟩; obtain ⟨a7, c7, rfl⟩ := s1.form; have MEM7 := hid (MEM6.out.later hb7); have S1 := hid s1; have S5 := hid s5; clear s1 s5)
            | (go_at_call 15; refine (bmul_pp (x := val ys) (Digs.big (E1.out.later X5) e2 e3) Q5.out (by omega) D0 (by omega) (by decide)).mono ?_; rintro e w6 ⟨a6, l6, c6, rfl, q6, hb6⟩; obtain ⟨ps, t1, t2, t3, t4, t5, rfl⟩ := q6.open; rw [ab_pos (Int.mul_nonneg (by omega) D0)] at t5; have T1 := hid t1; have T5 := hid t5; have HPV : Hid (val ps ≤ val (List.take n2 (dg xs s :: rs))) := (by rw [Hid, T5.out, V2.out]; have := ST.out.2.2.2.2.1; omega); have MEM6 := hid (MEM5.out.later hb6); clear t1 t5 q6)
            | (go_at_call 35; refine (word_any D D0 (by omega) _).mono ?_; rintro e w5 ⟨a5, l5, c5, rfl, q5, hb5⟩; have hb5' := bthen (Below.drew (Below.refl _ _)) (Nat.le_refl _) hb5; have MEM5 := hid (MEM4.out.later hb5'); have X5 := MEM5.out.2.2.2.2.2.1; have Q5 := hid q5; clear q5))
        go_wp2
        go_roundw
        case rel => exact ⟨s, _, zs, a7, _, c7, _, by omega, rfl, rfl, S1.out, s2, s3, S5.out, ST.out, MEM7.out⟩
        case measure => simp [intOf]
      · obtain ⟨b2, off2, hc2, rfl⟩ : ∃ b2 off2, Hid (∀ j, j < rs.length → wr.cell? ⟨b2, off2 + j, none⟩ = some (.int .i64 (dg rs j))) ∧ ar = some ⟨b2, off2, none⟩ := by
          obtain ⟨ao, bb, oo, cc, he, h1', h2', h3', h4'⟩ := DR.out
          simp at he
          obtain ⟨he1, he2, he3⟩ := he
          rcases h3' with h3' | h3'
          · exact absurd (he1.trans h3'.1) har
          · exact ⟨bb, oo, h4', he1.trans h3'⟩
        clear har
        have OW := hid (lit_owns (base := w.heap.size + 5) hsz (dg xs s))
        go_wp2_with (at_builtin; refine wpList_append_own _ rfl _ _ 30 rfl (w.heap.size + 5) 3 i0 (.int .i64 0) 1 8 Try.underlying30 hi0 hz0 hz1 hz2 rfl (by decide) _ 1 [.int .i64 (dg xs s)] rfl OW.out ⟨b2, off2, none⟩ lr cr (rs.map (Value.int .i64)) rfl ?f0 ?f1 ?f2 ?f3 ?f4 ?f5 ?_)
        case f0 => first | exact HLR.out.symm | (rw [List.length_map, HLR.out]; omega)
        case f1 => exact news_digs (fun j hj => cell_later ((Below.refl wr.heap.size wr).alloc (Nat.le_refl _) _) (hc2.out j hj))
        case f2 => exact fun _ _ => rfl
        case f3 => have := HLR.out; unfold maxLen; omega
        case f4 => have := HLR.out; omega
        case f5 => first | omega | (simp; omega)
        intro v' w1 hown' hgrow _
        obtain ⟨g, cap1, rfl, hg, dg1, hb1⟩ := cons_rel HLR.out hown' hgrow
        have DG1 := hid dg1
        clear dg1 hown' hgrow
        have MEM1 := hid (MEM.out.later hb1)
        have x1 := bthen hbw hbw.size hb1
        go_wp2_with fail
        refine (trim_s DG1.out (by simp; omega)).mono ?_
        rintro e w2 ⟨n2, hn2, hzr, hcn, rfl, dg2, rfl⟩
        have DG2 := hid dg2
        have V2 : Hid (val (List.take n2 (dg xs s :: rs)) = dg xs s + 65536 * R) := by rw [Hid, val_trim hn2 hzr, val, hR.out]
        have K2 : Hid (Dig (List.take n2 (dg xs s :: rs)) ∧ Canon (List.take n2 (dg xs s :: rs)) ∧ (List.take n2 (dg xs s :: rs)).length ≤ 1000000) := ⟨dig_take (dig_cons r2 (dg_ok d2 s).1 (dg_ok d2 s).2) n2, canon_take hn2 hcn, by rw [List.length_take]; simp; omega⟩
        clear dg2 hn2 hzr hcn
        obtain ⟨-, ⟨q1', q2', q3', q4'⟩, -, -, -, -, -⟩ := id MEM1.out
        go_wp2_with fail
        refine (digit_any DG2.out (E1.out.later x1) K2.out.1 K2.out.2.1 e2 e3 hY (by rw [V2.out]; exact BD.out.2) K2.out.2.2 (by omega)).mono ?_
        rw [V2.out, ← hD.out]
        rintro e w3 ⟨rfl, hb3⟩
        have x3 := bthen x1 x1.size hb3
        have MEM3 := hid (MEM1.out.later hb3)
        obtain ⟨cq, fq⟩ := MEM3.out.2.2.2.2.1 s (by have := HQ.out; omega)
        have MEM4 := hid (MEM3.out.set (k := s) (by have := HQ.out; omega) D)
        have DG4 := hid (Digs.apart (DG2.out.later hb3) (r := w.heap.size + 1 + 1 + 1 + 1) (o := s) (by omega) (.int .i64 D))
        clear q1' q2' q3' q4'
        have S0 : Below w.heap.size w (w3.setCell ⟨w.heap.size + 1 + 1 + 1 + 1, s, none⟩ (.int .i64 D)) ∧ (w3.setCell ⟨w.heap.size + 1 + 1 + 1 + 1, s, none⟩ (.int .i64 D)).cell? ⟨w.heap.size + 1, 1, none⟩ = some (.slice a' ys.length c') ∧ (w3.setCell ⟨w.heap.size + 1 + 1 + 1 + 1, s, none⟩ (.int .i64 D)).cell? ⟨w.heap.size + 1 + 1 + 1 + 1, s, none⟩ = some (.int .i64 D) := ⟨MEM4.out.2.2.2.2.2.1, MEM4.out.2.1.2.1, World.cell?_setCell_same _ _ _ cq⟩
        have KS : Hid (∀ W1 W2 : World, Below W1.heap.size W1 W2 → (Below w.heap.size w W1 ∧ W1.cell? ⟨w.heap.size + 1, 1, none⟩ = some (.slice a' ys.length c') ∧ W1.cell? ⟨w.heap.size + 1 + 1 + 1 + 1, s, none⟩ = some (.int .i64 D)) → (Below w.heap.size w W2 ∧ W2.cell? ⟨w.heap.size + 1, 1, none⟩ = some (.slice a' ys.length c') ∧ W2.cell? ⟨w.heap.size + 1 + 1 + 1 + 1, s, none⟩ = some (.int .i64 D))) := fun W1 W2 hb ⟨h0, h1, h2⟩ => ⟨bthen h0 h0.size hb, cell_later hb h1, cell_later hb h2⟩
        have hwD : IntKind.u64.wrap D = D := IntWalk.u64_in _ ⟨D0, by omega⟩
        go_wp2_with fail
        go_region_held3 (fun w' => Below w.heap.size w w' ∧ w'.cell? ⟨w.heap.size + 1, 1, none⟩ = some (.slice a' ys.length c') ∧ w'.cell? ⟨w.heap.size + 1 + 1 + 1 + 1, s, none⟩ = some (.int .i64 D))
          (first | exact KS.out _ _ hb7 (by assumption) | exact KS.out _ _ hb6 (by assumption) | exact KS.out _ _ hb5 (by assumption) | exact KS.out _ _ (Below.drew (Below.refl _ _)) (by assumption) | (refine ⟨by go_grown, ?_, ?_⟩ <;> simp [go_sem, *]))
          (first
            | (go_at_call 55; refine (subs_any (DG4.out.later (bthen hb5' hb5'.size hb6)) T1.out K2.out.1 t2 (by have := K2.out.2.2; omega) (len_le_of_val t2 K2.out.1 t3 HPV.out) HPV.out).mono ?_; rw [T5.out, V2.out]; rintro e w7 ⟨v7, zs, rfl, s1, s2, s3, s4, s5, hb7⟩; obtain ⟨a7, c7, rfl⟩ := s1.form; have MEM7 := hid (MEM6.out.later hb7); have S1 := hid s1; have S5 := hid s5; clear s1 s5)
            | (go_at_call 15; refine (bmul_pp (x := val ys) (Digs.big (E1.out.later X5) e2 e3) Q5.out (by omega) D0 (by omega) (by decide)).mono ?_; rintro e w6 ⟨a6, l6, c6, rfl, q6, hb6⟩; obtain ⟨ps, t1, t2, t3, t4, t5, rfl⟩ := q6.open; rw [ab_pos (Int.mul_nonneg (by omega) D0)] at t5; have T1 := hid t1; have T5 := hid t5; have HPV : Hid (val ps ≤ val (List.take n2 (dg xs s :: rs))) := (by rw [Hid, T5.out, V2.out]; have := ST.out.2.2.2.2.1; omega); have MEM6 := hid (MEM5.out.later hb6); clear t1 t5 q6)
            | (go_at_call 35; refine (word_any D D0 (by omega) _).mono ?_; rintro e w5 ⟨a5, l5, c5, rfl, q5, hb5⟩; have hb5' := bthen (Below.drew (Below.refl _ _)) (Nat.le_refl _) hb5; have MEM5 := hid (MEM4.out.later hb5'); have X5 := MEM5.out.2.2.2.2.2.1; have Q5 := hid q5; clear q5))
        go_wp2
        go_roundw
        case rel => exact ⟨s, _, zs, a7, _, c7, _, by omega, rfl, rfl, S1.out, s2, s3, S5.out, ST.out, MEM7.out⟩
        case measure => simp [intOf]
end Go.Proofs.Ytlpenfganhaclaa
