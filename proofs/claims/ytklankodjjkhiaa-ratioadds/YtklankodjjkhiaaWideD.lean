/-
  The contract of wide.Mul: the product, or ErrOver where it does not fit (P2.2). No conditions.
-/
import Derived.Test.YtklankodjjkhiaaWideB
import Derived.Test.YtklankodjjkhiaaLimbE
import Derived.Deep.DeepCutAuto
namespace Go.Proofs.Ytklankodjjkhiaa
open Go.RowKit

/-! ### Two variables that were laid in whatever order -/
theorem Two.drew {w : World} {b : Nat} {u v : Value} (h : Two w b u v) : Two w.drew b u v := h
theorem Two.new2 (w : World) (o : Obj) (u v : Value) (t : TypeId) : Two ((w.alloc o).alloc (.cells #[u, v] t)) (w.heap.size + 1) u v := by
  have h := Two.new (w.alloc o) u v t
  simp only [World.size_alloc] at h
  exact h
def Pair (wc : World) (A B : Nat) (x0 x1 y0 y1 : Value) : Prop := Two wc A x0 x1 ∧ Two wc B y0 y1
section
variable {w : World} {A B : Nat} {x0 x1 y0 y1 u v u' v' : Value} {t t' : TypeId}
theorem pair_bb (hA : Two w A u v) (hB : Two w B u' v') (hne : A ≠ B) :
    Pair ((((w.setCell ⟨A, 0, none⟩ x0).setCell ⟨A, 1, none⟩ x1).setCell ⟨B, 0, none⟩ y0).setCell ⟨B, 1, none⟩ y1) A B x0 x1 y0 y1 :=
  ⟨((hA.set x0 x1).other hne).other hne, ((hB.other (Ne.symm hne)).other (Ne.symm hne)).set y0 y1⟩
theorem pair_ab (hA : Two w A u v) : Pair (((w.setCell ⟨A, 0, none⟩ x0).setCell ⟨A, 1, none⟩ x1).alloc (.cells #[y0, y1] t)) A w.heap.size x0 x1 y0 y1 :=
  ⟨(hA.set x0 x1).alloc _, by have h := Two.new ((w.setCell ⟨A, 0, none⟩ x0).setCell ⟨A, 1, none⟩ x1) y0 y1 t; simp only [World.size_setCell] at h; exact h⟩
theorem pair_ba (hB : Two w B u v) : Pair (((w.setCell ⟨B, 0, none⟩ y0).setCell ⟨B, 1, none⟩ y1).alloc (.cells #[x0, x1] t)) w.heap.size B x0 x1 y0 y1 :=
  ⟨by have h := Two.new ((w.setCell ⟨B, 0, none⟩ y0).setCell ⟨B, 1, none⟩ y1) x0 x1 t; simp only [World.size_setCell] at h; exact h, (hB.set y0 y1).alloc _⟩
theorem pair_aa : Pair ((w.alloc (.cells #[x0, x1] t)).alloc (.cells #[y0, y1] t')) w.heap.size (w.heap.size + 1) x0 x1 y0 y1 :=
  ⟨(Two.new w x0 x1 t).alloc _, by have h := Two.new (w.alloc (.cells #[x0, x1] t)) y0 y1 t'; simp only [World.size_alloc] at h; exact h⟩
theorem pair_aa' : Pair ((w.alloc (.cells #[y0, y1] t)).alloc (.cells #[x0, x1] t')) (w.heap.size + 1) w.heap.size x0 x1 y0 y1 :=
  ⟨by have h := Two.new (w.alloc (.cells #[y0, y1] t)) x0 x1 t'; simp only [World.size_alloc] at h; exact h, (Two.new w y0 y1 t).alloc _⟩
end

/-! ### Signs of products -/
theorem mul_like {a b : Int} (h : sg a = sg b) : a * b = ab a * ab b := by
  cases hb : sg b
  · rw [hb] at h
    have := sg_false h; have := sg_false hb
    rw [ab_pos (by omega), ab_pos (by omega)]
  · rw [hb] at h
    have := sg_true h; have := sg_true hb
    rw [ab_neg (by omega), ab_neg (by omega), Int.neg_mul_neg]
theorem mul_unlike {a b : Int} (h : ¬ sg a = sg b) : a * b = -(ab a * ab b) := by
  cases hb : sg b <;> cases ha : sg a <;> simp only [ha, hb, not_true_eq_false] at h
  · have := sg_true ha; have := sg_false hb
    rw [ab_neg (by omega), ab_pos (by omega), Int.neg_mul, Int.neg_neg]
  · have := sg_false ha; have := sg_true hb
    rw [ab_pos (by omega), ab_neg (by omega), Int.mul_neg, Int.neg_neg]

attribute [local go_sem ↓] Go.wp_at_zero Go.wp_at_succ
set_option maxRecDepth 100000 in
set_option maxHeartbeats 8000000 in
theorem wmul_any {ah al bh bl a b : Int} (ha : WideIs ah al a) (hb : WideIs bh bl b) (w : World) :
    Calls Try.prog 44 #[.agg #[.int .i64 ah, .int .u64 al], .agg #[.int .i64 bh, .int .u64 bl]] w fun e w' =>
      ∃ h l : Int, WideIs h l (fitV (a * b)) ∧ e = .returned (.tuple #[.agg #[.int .i64 h, .int .u64 l], .int .i64 (fitE (a * b))]) ∧ Below w.heap.size w w' := by
  have qe := run_neq_limb
  obtain ⟨P, hP⟩ : ∃ P, Hid (P = ab a * ab b) := ⟨_, rfl⟩
  have P0 : Hid (0 ≤ P) := by rw [Hid, hP.out]; exact Int.mul_nonneg (ab_nonneg a) (ab_nonneg b)
  go_enter Try.func44, Try.ntmps44
  go_upto_region 1 with fail
  obtain ⟨W, hW⟩ : ∃ W, W = ((w.alloc (Obj.cells #[.int .i64 ah, .int .u64 al] 24)).alloc (Obj.cells #[.int .i64 bh, .int .u64 bl] 24)).alloc (Obj.cells #[.int .i64 0, .int .u64 0] 24) := ⟨_, rfl⟩
  rw [← hW]
  have tA : Two W w.heap.size (.int .i64 ah) (.int .u64 al) := by rw [hW]; exact ⟨by simp [go_sem], by simp [go_sem], by simp [go_sem], by simp [go_sem]⟩
  have tB : Two W (w.heap.size + 1) (.int .i64 bh) (.int .u64 bl) := by rw [hW]; exact ⟨by simp [go_sem], by simp [go_sem], by simp [go_sem], by simp [go_sem]⟩
  have tR : Hid (Two W (w.heap.size + 1 + 1) (.int .i64 0) (.int .u64 0)) := by rw [hW]; exact ⟨by simp [go_sem], by simp [go_sem], by simp [go_sem], by simp [go_sem]⟩
  have hbW : Hid (Below w.heap.size w W) := by rw [hW, Hid]; go_grown
  have hsW : Hid (w.heap.size + 1 + 1 < W.heap.size) := by rw [hW, Hid]; simp
  have KS : Hid (∀ W2 : World, Below W.heap.size W W2 → (Below W.heap.size W W2 ∧ W2.cell? ⟨w.heap.size, 0, none⟩ = some (.int .i64 ah) ∧ W2.cell? ⟨w.heap.size, 1, none⟩ = some (.int .u64 al) ∧ W2.cell? ⟨w.heap.size + 1, 0, none⟩ = some (.int .i64 bh) ∧ W2.cell? ⟨w.heap.size + 1, 1, none⟩ = some (.int .u64 bl))) := fun W2 hb => ⟨hb, cell_later hb tA.1, cell_later hb tA.2.1, cell_later hb tB.1, cell_later hb tB.2.1⟩
  have TA := hid tA
  have TB := hid tB
  clear hW tA tB qe
  go_cut [6, 7] (fun p q wc => ∃ (c6 c7 : Nat) (hh hl lh ll : Int), p = .pointer (some ⟨c6, 0, none⟩) ∧ q = .pointer (some ⟨c7, 0, none⟩) ∧ Hid (LimbIs hh hl (P / 340282366920938463463374607431768211456)) ∧ Hid (LimbIs lh ll (P % 340282366920938463463374607431768211456)) ∧ Hid (Pair wc c6 c7 (.int .u64 hh) (.int .u64 hl) (.int .u64 lh) (.int .u64 ll)) ∧ Hid (W.heap.size ≤ c6 ∧ W.heap.size ≤ c7 ∧ c6 ≠ c7) ∧ Hid (Below W.heap.size W wc))
  case first =>
    go_region_held3 (fun w' => Below W.heap.size W w' ∧ w'.cell? ⟨w.heap.size, 0, none⟩ = some (.int .i64 ah) ∧ w'.cell? ⟨w.heap.size, 1, none⟩ = some (.int .u64 al) ∧ w'.cell? ⟨w.heap.size + 1, 0, none⟩ = some (.int .i64 bh) ∧ w'.cell? ⟨w.heap.size + 1, 1, none⟩ = some (.int .u64 bl))
      (exact KS.out _ (by first | (go_grown; done) | fail))
      (first
        | (go_at_call 38; refine (mul_any A1.out A2.out _).mono ?_; rw [← hP.out]; rintro e w3 ⟨hh, hl, lh, ll, i3, i4, rfl, hb3⟩; have X3 := bthen (B := W.heap.size) (w := W) (by go_grown) (by go_size) hb3; have X3s := X3.size; have Y3 := bthen (B := w2.heap.size) (w := w2) (by go_grown) (by go_size) hb3; have Y3s := Y3.size; (try have n1a := (two_later Y3 n1a).1); (try have n1b := (two_later Y3 n1b).1); (try have n2a := (two_later Y3 n2a).1); (try have n2b := (two_later Y3 n2b).1); (try with_reducible have n3a := (two_later hb3 (Two.new w2 (.int .u64 0) (.int .u64 0) _)).1); (try with_reducible have n3a := (two_later hb3 ((Two.new w2 (.int .u64 0) (.int .u64 0) _).alloc _)).1); (try with_reducible have n3b := (two_later hb3 (Two.new2 w2 _ (.int .u64 0) (.int .u64 0) _)).1); (try have q3a := Two.lt n3a); (try have q3b := Two.lt n3b); (try have p1a := Two.lt n1a); (try obtain ⟨o1a1, o1a2, o1a3, o1a4⟩ := id n1a); (try have p1b := Two.lt n1b); (try obtain ⟨o1b1, o1b2, o1b3, o1b4⟩ := id n1b); (try have p2a := Two.lt n2a); (try obtain ⟨o2a1, o2a2, o2a3, o2a4⟩ := id n2a); (try have p2b := Two.lt n2b); (try obtain ⟨o2b1, o2b2, o2b3, o2b4⟩ := id n2b); (try have p3a := Two.lt n3a); (try obtain ⟨o3a1, o3a2, o3a3, o3a4⟩ := id n3a); (try have p3b := Two.lt n3b); (try obtain ⟨o3b1, o3b2, o3b3, o3b4⟩ := id n3b); have A3 := hid i3; clear i3; have A4 := hid i4; clear i4)
        | (go_at_call 52; have dummy := A1; clear dummy; refine (size_any hb _).mono ?_; rintro e w2 ⟨h2, l2, i2, rfl, hb2⟩; have X2 := bthen (B := W.heap.size) (w := W) (by go_grown) (by go_size) hb2; have X2s := X2.size; have Y2 := bthen (B := w1.heap.size) (w := w1) (by go_grown) (by go_size) hb2; have Y2s := Y2.size; (try have n1a := (two_later Y2 n1a).1); (try have n1b := (two_later Y2 n1b).1); (try with_reducible have n2a := (two_later hb2 (Two.new w1 (.int .u64 0) (.int .u64 0) _)).1); (try with_reducible have n2a := (two_later hb2 ((Two.new w1 (.int .u64 0) (.int .u64 0) _).alloc _)).1); (try with_reducible have n2b := (two_later hb2 (Two.new2 w1 _ (.int .u64 0) (.int .u64 0) _)).1); (try have q2a := Two.lt n2a); (try have q2b := Two.lt n2b); have A2 := hid i2; clear i2)
        | (go_at_call 52; refine (size_any ha _).mono ?_; rintro e w1 ⟨h1, l1, i1, rfl, hb1⟩; have X1 := bthen (B := W.heap.size) (w := W) (by go_grown) (by go_size) hb1; have X1s := X1.size; have Y1 := bthen (B := W.heap.size) (w := W) (by go_grown) (by go_size) hb1; have Y1s := Y1.size; (try with_reducible have n1a := (two_later hb1 (Two.new W (.int .u64 0) (.int .u64 0) _)).1); (try with_reducible have n1a := (two_later hb1 (Two.new W (.int .u64 0) (.int .u64 0) _).drew).1); (try with_reducible have n1a := (two_later hb1 ((Two.new W (.int .u64 0) (.int .u64 0) _).alloc _)).1); (try with_reducible have n1b := (two_later hb1 (Two.new2 W _ (.int .u64 0) (.int .u64 0) _)).1); (try with_reducible have n1a := (two_later hb1 ((Two.new W (.int .u64 0) (.int .u64 0) _).alloc _).drew).1); (try with_reducible have n1b := (two_later hb1 (Two.new2 W _ (.int .u64 0) (.int .u64 0) _).drew).1); (try have q1a := Two.lt n1a); (try have q1b := Two.lt n1b); have A1 := hid i1; clear i1))
    all_goals
      go_wp2_with fail
      go_meet
      refine ⟨_, _, hh, hl, lh, ll, rfl, rfl, A3, A4, hid ?_, hid ⟨?_, ?_, ?_⟩, hid ?_⟩
      · first | (with_reducible exact pair_aa) | (with_reducible exact pair_aa') | (with_reducible exact pair_ab (by assumption)) | (with_reducible exact pair_ba (by assumption)) | (with_reducible exact pair_bb (by assumption) (by assumption) (by omega))
      · omega
      · omega
      · omega
      · go_grown
  case rest =>
    have qe := run_neq_limb
    obtain ⟨c6, c7, hh, hl, lh, ll, rfl, rfl, i3, i4, pr, cs, hbc⟩ := hcut
    obtain ⟨⟨a1, a2, a3, a4⟩, a5⟩ := two_later hbc.out TA.out
    obtain ⟨⟨b1, b2, b3, b4⟩, b5⟩ := two_later hbc.out TB.out
    obtain ⟨⟨r1, r2, r3, r4⟩, r5⟩ := two_later hbc.out tR.out
    obtain ⟨⟨c1, c2, c3, c4⟩, d1, d2, d3, d4⟩ := pr.out
    have e6 : c6 < wc.heap.size := Two.lt pr.out.1
    have e7 : c7 < wc.heap.size := Two.lt pr.out.2
    have xc := bthen hbW.out hbW.out.size hbc.out
    have zc := xc.size
    by_cases g : P < 340282366920938463463374607431768211456
    · have hq := eqL_same i3.out (limb_0.eq (by have := P0.out; omega))
      have L4 : Hid (LimbIs lh ll P) := i4.out.eq (by have := P0.out; omega)
      clear KS pr i3 i4
      go_upto_region 4 with fail
      have S0 : Below w.heap.size w wc ∧ wc.cell? ⟨w.heap.size, 0, none⟩ = some (.int .i64 ah) ∧ wc.cell? ⟨w.heap.size, 1, none⟩ = some (.int .u64 al) ∧ wc.cell? ⟨w.heap.size + 1, 0, none⟩ = some (.int .i64 bh) ∧ wc.cell? ⟨w.heap.size + 1, 1, none⟩ = some (.int .u64 bl) ∧ wc.cell? ⟨c7, 0, none⟩ = some (.int .u64 lh) ∧ wc.cell? ⟨c7, 1, none⟩ = some (.int .u64 ll) := ⟨xc, a1, a2, b1, b2, d1, d2⟩
      have ne7 : Hid (c7 ≠ w.heap.size + 1 + 1) := by have := cs.out; have := hsW.out; rw [Hid]; omega
      have R0 := hid (show Two wc (w.heap.size + 1 + 1) (.int .i64 0) (.int .u64 0) from ⟨r1, r2, r3, r4⟩)
      have KS : Hid (∀ W1 W2 : World, Below W1.heap.size W1 W2 → (Below w.heap.size w W1 ∧ W1.cell? ⟨w.heap.size, 0, none⟩ = some (.int .i64 ah) ∧ W1.cell? ⟨w.heap.size, 1, none⟩ = some (.int .u64 al) ∧ W1.cell? ⟨w.heap.size + 1, 0, none⟩ = some (.int .i64 bh) ∧ W1.cell? ⟨w.heap.size + 1, 1, none⟩ = some (.int .u64 bl) ∧ W1.cell? ⟨c7, 0, none⟩ = some (.int .u64 lh) ∧ W1.cell? ⟨c7, 1, none⟩ = some (.int .u64 ll)) → (Below w.heap.size w W2 ∧ W2.cell? ⟨w.heap.size, 0, none⟩ = some (.int .i64 ah) ∧ W2.cell? ⟨w.heap.size, 1, none⟩ = some (.int .u64 al) ∧ W2.cell? ⟨w.heap.size + 1, 0, none⟩ = some (.int .i64 bh) ∧ W2.cell? ⟨w.heap.size + 1, 1, none⟩ = some (.int .u64 bl) ∧ W2.cell? ⟨c7, 0, none⟩ = some (.int .u64 lh) ∧ W2.cell? ⟨c7, 1, none⟩ = some (.int .u64 ll))) := fun W1 W2 hb ⟨h0, h1, h2, h3, h4, h5, h6⟩ => ⟨bthen h0 h0.size hb, cell_later hb h1, cell_later hb h2, cell_later hb h3, cell_later hb h4, cell_later hb h5, cell_later hb h6⟩
      clear a1 a2 a3 a4 a5 b1 b2 b3 b4 b5 r1 r2 r3 r4 r5 c1 c2 c3 c4 d1 d2 d3 d4 hq qe zc
      by_cases C00 : sg a = false ∧ sg b = false
      · obtain ⟨HA, HB⟩ := C00
        have EP : Hid (a * b = P) := by rw [Hid, hP.out]; exact mul_like (by rw [HA, HB])
        have HAA := hid HA
        have HBB := hid HB
        clear HA HB
        go_region_held3 (fun w' => Below w.heap.size w w' ∧ w'.cell? ⟨w.heap.size, 0, none⟩ = some (.int .i64 ah) ∧ w'.cell? ⟨w.heap.size, 1, none⟩ = some (.int .u64 al) ∧ w'.cell? ⟨w.heap.size + 1, 0, none⟩ = some (.int .i64 bh) ∧ w'.cell? ⟨w.heap.size + 1, 1, none⟩ = some (.int .u64 bl) ∧ w'.cell? ⟨c7, 0, none⟩ = some (.int .u64 lh) ∧ w'.cell? ⟨c7, 1, none⟩ = some (.int .u64 ll))
          (first | exact KS.out _ _ hb6 (by assumption) | exact KS.out _ _ hb5 (by assumption) | exact KS.out _ _ (Below.drew (Below.refl _ _)) (by assumption) | (refine ⟨by go_grown, ?_, ?_, ?_, ?_, ?_, ?_⟩ <;> simp [go_sem, *]))
          (first
            | (go_at_call 55; refine (signed_p L4.out _).mono ?_; rintro e w6 ⟨h6, l6, i6, rfl, hb6⟩; obtain ⟨⟨r1, r2, r3, r4⟩, r5⟩ := two_later hb6 R0.out; have S6 := KS.out _ _ hb6 (by assumption); have X6 := S6.1; have X6s := X6.size; have I6 := hid i6; clear i6; have ne7' := ne7.out)
            | (go_at_call 48; refine (below_lit ha HAA.out _).mono ?_; rintro e w5 ⟨rfl, hb5⟩; have R0 := hid (two_later hb5 R0.out).1)
            | (go_at_call 48; refine (below_lit hb HBB.out _).mono ?_; rintro e w5 ⟨rfl, hb5⟩; have R0 := hid (two_later hb5 R0.out).1))
        go_wp2_with fail
        suffices hFin : (results Try.f44 _).run Try.prog _ = .ok (.tuple #[.agg #[.int .i64 h6, .int .u64 l6], .int .i64 (fitE P)]) _ ∧ _ from bodyPost_ret hFin.1 rfl hFin.2
        exact ⟨by simp [results, Try.results44, go_sem, *], ⟨_, _, by rw [EP.out]; exact I6.out, by rw [EP.out], by go_grown⟩⟩
      by_cases C01 : sg a = false ∧ sg b = true
      · obtain ⟨HA, HB⟩ := C01
        have EP : Hid (a * b = (-P)) := by rw [Hid, hP.out]; exact mul_unlike (by rw [HA, HB]; decide)
        have HAA := hid HA
        have HBB := hid HB
        clear HA HB
        go_region_held3 (fun w' => Below w.heap.size w w' ∧ w'.cell? ⟨w.heap.size, 0, none⟩ = some (.int .i64 ah) ∧ w'.cell? ⟨w.heap.size, 1, none⟩ = some (.int .u64 al) ∧ w'.cell? ⟨w.heap.size + 1, 0, none⟩ = some (.int .i64 bh) ∧ w'.cell? ⟨w.heap.size + 1, 1, none⟩ = some (.int .u64 bl) ∧ w'.cell? ⟨c7, 0, none⟩ = some (.int .u64 lh) ∧ w'.cell? ⟨c7, 1, none⟩ = some (.int .u64 ll))
          (first | exact KS.out _ _ hb6 (by assumption) | exact KS.out _ _ hb5 (by assumption) | exact KS.out _ _ (Below.drew (Below.refl _ _)) (by assumption) | (refine ⟨by go_grown, ?_, ?_, ?_, ?_, ?_, ?_⟩ <;> simp [go_sem, *]))
          (first
            | (go_at_call 55; refine (signed_m L4.out _).mono ?_; rintro e w6 ⟨h6, l6, i6, rfl, hb6⟩; obtain ⟨⟨r1, r2, r3, r4⟩, r5⟩ := two_later hb6 R0.out; have S6 := KS.out _ _ hb6 (by assumption); have X6 := S6.1; have X6s := X6.size; have I6 := hid i6; clear i6; have ne7' := ne7.out)
            | (go_at_call 48; refine (below_lit ha HAA.out _).mono ?_; rintro e w5 ⟨rfl, hb5⟩; have R0 := hid (two_later hb5 R0.out).1)
            | (go_at_call 48; refine (below_lit hb HBB.out _).mono ?_; rintro e w5 ⟨rfl, hb5⟩; have R0 := hid (two_later hb5 R0.out).1))
        go_wp2_with fail
        suffices hFin : (results Try.f44 _).run Try.prog _ = .ok (.tuple #[.agg #[.int .i64 h6, .int .u64 l6], .int .i64 (fitE (-P))]) _ ∧ _ from bodyPost_ret hFin.1 rfl hFin.2
        exact ⟨by simp [results, Try.results44, go_sem, *], ⟨_, _, by rw [EP.out]; exact I6.out, by rw [EP.out], by go_grown⟩⟩
      by_cases C10 : sg a = true ∧ sg b = false
      · obtain ⟨HA, HB⟩ := C10
        have EP : Hid (a * b = (-P)) := by rw [Hid, hP.out]; exact mul_unlike (by rw [HA, HB]; decide)
        have HAA := hid HA
        have HBB := hid HB
        clear HA HB
        go_region_held3 (fun w' => Below w.heap.size w w' ∧ w'.cell? ⟨w.heap.size, 0, none⟩ = some (.int .i64 ah) ∧ w'.cell? ⟨w.heap.size, 1, none⟩ = some (.int .u64 al) ∧ w'.cell? ⟨w.heap.size + 1, 0, none⟩ = some (.int .i64 bh) ∧ w'.cell? ⟨w.heap.size + 1, 1, none⟩ = some (.int .u64 bl) ∧ w'.cell? ⟨c7, 0, none⟩ = some (.int .u64 lh) ∧ w'.cell? ⟨c7, 1, none⟩ = some (.int .u64 ll))
          (first | exact KS.out _ _ hb6 (by assumption) | exact KS.out _ _ hb5 (by assumption) | exact KS.out _ _ (Below.drew (Below.refl _ _)) (by assumption) | (refine ⟨by go_grown, ?_, ?_, ?_, ?_, ?_, ?_⟩ <;> simp [go_sem, *]))
          (first
            | (go_at_call 55; refine (signed_m L4.out _).mono ?_; rintro e w6 ⟨h6, l6, i6, rfl, hb6⟩; obtain ⟨⟨r1, r2, r3, r4⟩, r5⟩ := two_later hb6 R0.out; have S6 := KS.out _ _ hb6 (by assumption); have X6 := S6.1; have X6s := X6.size; have I6 := hid i6; clear i6; have ne7' := ne7.out)
            | (go_at_call 48; refine (below_lit ha HAA.out _).mono ?_; rintro e w5 ⟨rfl, hb5⟩; have R0 := hid (two_later hb5 R0.out).1)
            | (go_at_call 48; refine (below_lit hb HBB.out _).mono ?_; rintro e w5 ⟨rfl, hb5⟩; have R0 := hid (two_later hb5 R0.out).1))
        go_wp2_with fail
        suffices hFin : (results Try.f44 _).run Try.prog _ = .ok (.tuple #[.agg #[.int .i64 h6, .int .u64 l6], .int .i64 (fitE (-P))]) _ ∧ _ from bodyPost_ret hFin.1 rfl hFin.2
        exact ⟨by simp [results, Try.results44, go_sem, *], ⟨_, _, by rw [EP.out]; exact I6.out, by rw [EP.out], by go_grown⟩⟩
      by_cases C11 : sg a = true ∧ sg b = true
      · obtain ⟨HA, HB⟩ := C11
        have EP : Hid (a * b = P) := by rw [Hid, hP.out]; exact mul_like (by rw [HA, HB])
        have HAA := hid HA
        have HBB := hid HB
        clear HA HB
        go_region_held3 (fun w' => Below w.heap.size w w' ∧ w'.cell? ⟨w.heap.size, 0, none⟩ = some (.int .i64 ah) ∧ w'.cell? ⟨w.heap.size, 1, none⟩ = some (.int .u64 al) ∧ w'.cell? ⟨w.heap.size + 1, 0, none⟩ = some (.int .i64 bh) ∧ w'.cell? ⟨w.heap.size + 1, 1, none⟩ = some (.int .u64 bl) ∧ w'.cell? ⟨c7, 0, none⟩ = some (.int .u64 lh) ∧ w'.cell? ⟨c7, 1, none⟩ = some (.int .u64 ll))
          (first | exact KS.out _ _ hb6 (by assumption) | exact KS.out _ _ hb5 (by assumption) | exact KS.out _ _ (Below.drew (Below.refl _ _)) (by assumption) | (refine ⟨by go_grown, ?_, ?_, ?_, ?_, ?_, ?_⟩ <;> simp [go_sem, *]))
          (first
            | (go_at_call 55; refine (signed_p L4.out _).mono ?_; rintro e w6 ⟨h6, l6, i6, rfl, hb6⟩; obtain ⟨⟨r1, r2, r3, r4⟩, r5⟩ := two_later hb6 R0.out; have S6 := KS.out _ _ hb6 (by assumption); have X6 := S6.1; have X6s := X6.size; have I6 := hid i6; clear i6; have ne7' := ne7.out)
            | (go_at_call 48; refine (below_lit ha HAA.out _).mono ?_; rintro e w5 ⟨rfl, hb5⟩; have R0 := hid (two_later hb5 R0.out).1)
            | (go_at_call 48; refine (below_lit hb HBB.out _).mono ?_; rintro e w5 ⟨rfl, hb5⟩; have R0 := hid (two_later hb5 R0.out).1))
        go_wp2_with fail
        suffices hFin : (results Try.f44 _).run Try.prog _ = .ok (.tuple #[.agg #[.int .i64 h6, .int .u64 l6], .int .i64 (fitE P)]) _ ∧ _ from bodyPost_ret hFin.1 rfl hFin.2
        exact ⟨by simp [results, Try.results44, go_sem, *], ⟨_, _, by rw [EP.out]; exact I6.out, by rw [EP.out], by go_grown⟩⟩
      exfalso
      cases HA : sg a <;> cases HB : sg b <;> simp_all
    · have hq := eqL_other i3.out limb_0 (by have := P0.out; omega)
      obtain ⟨-, fv, fe⟩ : inW (a * b) = false ∧ fitV (a * b) = 0 ∧ fitE (a * b) = 2 := by
        apply inW_no
        by_cases hs : sg a = sg b
        · rw [mul_like hs, ← hP.out]; omega
        · rw [mul_unlike hs, ← hP.out]; omega
      have FE := hid fe
      have FV := hid fv
      clear KS pr i3 i4 fv fe g
      go_wp2_with fail
      suffices hFin : (results Try.f44 _).run Try.prog _ = .ok (.tuple #[.agg #[.int .i64 0, .int .u64 0], .int .i64 2]) _ ∧ _ from bodyPost_ret hFin.1 rfl hFin.2
      exact ⟨by simp [results, Try.results44, go_sem, *], ⟨_, _, wide_0.eq FV.out.symm, by rw [FE.out], by go_grown⟩⟩
end Go.Proofs.Ytklankodjjkhiaa
