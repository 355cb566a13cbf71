/-
  The walk of the law LimbDivs: the quotient of any numbers, and what is left, or that it does not fit. No conditions.
-/
import Derived.Test.YtdefgplehkbpcaaLimbF
import Derived.Test.YtdefgplehkbpcaaLawF
import Derived.Deep.DeepCutAuto
namespace Go.Proofs.Ytdefgplehkbpcaa
open Go.RowKit

theorem eqI_refl (z : Int) : eqI z z = true := by unfold eqI; simp

attribute [local go_sem ↓] Go.wp_at_zero Go.wp_at_succ
set_option maxRecDepth 100000 in
set_option maxHeartbeats 2000000 in
theorem law_divs_no {hh hl lh ll dh dl hi lo d : Int} (h1 : LimbIs hh hl hi) (h2 : LimbIs lh ll lo) (h3 : LimbIs dh dl d) (hge : d ≤ hi) (w : World) :
    Calls Try.prog 5 #[.agg #[.int .u64 hh, .int .u64 hl], .agg #[.int .u64 lh, .int .u64 ll], .agg #[.int .u64 dh, .int .u64 dl]] w fun e w' => e = .returned (.bool true) ∧ Below w.heap.size w w' := by
  have hcm : 0 ≤ cmpI hi d := by unfold cmpI; rw [if_neg (by omega)]; split <;> omega
  have qe := run_eql_limb
  have ez : eqL 0 0 0 0 = true := by decide
  go_enter Try.func5, Try.ntmps5
  go_wp2_with fail
  refine (div_no h1 h2 h3 hge _).mono ?_
  rintro e w1 ⟨rfl, hb1⟩
  obtain ⟨⟨p1, p2, p3, p4⟩, p5⟩ := two_later hb1 (b := w.heap.size) (u := .int .u64 hh) (v := .int .u64 hl) ⟨by simp [go_sem], by simp [go_sem], by simp [go_sem], by simp [go_sem]⟩
  obtain ⟨⟨q1, q2, q3, q4⟩, q5⟩ := two_later hb1 (b := w.heap.size + 1) (u := .int .u64 lh) (v := .int .u64 ll) ⟨by simp [go_sem], by simp [go_sem], by simp [go_sem], by simp [go_sem]⟩
  obtain ⟨⟨r1, r2, r3, r4⟩, r5⟩ := two_later hb1 (b := w.heap.size + 1 + 1) (u := .int .u64 dh) (v := .int .u64 dl) ⟨by simp [go_sem], by simp [go_sem], by simp [go_sem], by simp [go_sem]⟩
  have x1 := bthen (B := w.heap.size) (w := w) (by go_grown) (by go_size) hb1
  have z1 := x1.size
  have z2 : w.heap.size + 1 < w1.heap.size := by omega
  clear hb1
  go_upto_region 2 with fail
  obtain ⟨W, hW⟩ : ∃ W, W = (w1.alloc (Obj.cells #[Value.int IntKind.u64 0, Value.int IntKind.u64 0] 24)).alloc (Obj.cells #[Value.int IntKind.u64 0, Value.int IntKind.u64 0] 24) := ⟨_, rfl⟩
  rw [← hW]
  have S0 : Below w.heap.size w W ∧ W.cell? ⟨w.heap.size, 0, none⟩ = some (.int .u64 hh) ∧ W.cell? ⟨w.heap.size, 1, none⟩ = some (.int .u64 hl) ∧ W.cell? ⟨w.heap.size + 1, 0, none⟩ = some (.int .u64 lh) ∧ W.cell? ⟨w.heap.size + 1, 1, none⟩ = some (.int .u64 ll) ∧ W.cell? ⟨w.heap.size + 1 + 1, 0, none⟩ = some (.int .u64 dh) ∧ W.cell? ⟨w.heap.size + 1 + 1, 1, none⟩ = some (.int .u64 dl) ∧ W.cell? ⟨w1.heap.size, 0, none⟩ = some (.int .u64 0) ∧ W.cell? ⟨w1.heap.size, 1, none⟩ = some (.int .u64 0) ∧ W.cell? ⟨w1.heap.size + 1, 0, none⟩ = some (.int .u64 0) ∧ W.cell? ⟨w1.heap.size + 1, 1, none⟩ = some (.int .u64 0) := by
    rw [hW]
    exact ⟨by go_grown, by simp [go_sem, *], by simp [go_sem, *], by simp [go_sem, *], by simp [go_sem, *], by simp [go_sem, *], by simp [go_sem, *], by simp [go_sem, *], by simp [go_sem, *], by simp [go_sem, *], by simp [go_sem, *]⟩
  have KS : Hid (∀ W1 W2 : World, Below W1.heap.size W1 W2 → (Below w.heap.size w W1 ∧ W1.cell? ⟨w.heap.size, 0, none⟩ = some (.int .u64 hh) ∧ W1.cell? ⟨w.heap.size, 1, none⟩ = some (.int .u64 hl) ∧ W1.cell? ⟨w.heap.size + 1, 0, none⟩ = some (.int .u64 lh) ∧ W1.cell? ⟨w.heap.size + 1, 1, none⟩ = some (.int .u64 ll) ∧ W1.cell? ⟨w.heap.size + 1 + 1, 0, none⟩ = some (.int .u64 dh) ∧ W1.cell? ⟨w.heap.size + 1 + 1, 1, none⟩ = some (.int .u64 dl) ∧ W1.cell? ⟨w1.heap.size, 0, none⟩ = some (.int .u64 0) ∧ W1.cell? ⟨w1.heap.size, 1, none⟩ = some (.int .u64 0) ∧ W1.cell? ⟨w1.heap.size + 1, 0, none⟩ = some (.int .u64 0) ∧ W1.cell? ⟨w1.heap.size + 1, 1, none⟩ = some (.int .u64 0)) → (Below w.heap.size w W2 ∧ W2.cell? ⟨w.heap.size, 0, none⟩ = some (.int .u64 hh) ∧ W2.cell? ⟨w.heap.size, 1, none⟩ = some (.int .u64 hl) ∧ W2.cell? ⟨w.heap.size + 1, 0, none⟩ = some (.int .u64 lh) ∧ W2.cell? ⟨w.heap.size + 1, 1, none⟩ = some (.int .u64 ll) ∧ W2.cell? ⟨w.heap.size + 1 + 1, 0, none⟩ = some (.int .u64 dh) ∧ W2.cell? ⟨w.heap.size + 1 + 1, 1, none⟩ = some (.int .u64 dl) ∧ W2.cell? ⟨w1.heap.size, 0, none⟩ = some (.int .u64 0) ∧ W2.cell? ⟨w1.heap.size, 1, none⟩ = some (.int .u64 0) ∧ W2.cell? ⟨w1.heap.size + 1, 0, none⟩ = some (.int .u64 0) ∧ W2.cell? ⟨w1.heap.size + 1, 1, none⟩ = some (.int .u64 0))) := fun W1 W2 hb ⟨h0, h1, h2, h3, h4, h5, h6, h7, h8, h9, h10⟩ => ⟨bthen h0 h0.size hb, cell_later hb h1, cell_later hb h2, cell_later hb h3, cell_later hb h4, cell_later hb h5, cell_later hb h6, cell_later hb h7, cell_later hb h8, cell_later hb h9, cell_later hb h10⟩
  clear hW p1 p2 p3 p4 p5 q1 q2 q3 q4 q5 r1 r2 r3 r4 r5 x1 z1 z2
  go_region_held3 (fun w' => Below w.heap.size w w' ∧ w'.cell? ⟨w.heap.size, 0, none⟩ = some (.int .u64 hh) ∧ w'.cell? ⟨w.heap.size, 1, none⟩ = some (.int .u64 hl) ∧ w'.cell? ⟨w.heap.size + 1, 0, none⟩ = some (.int .u64 lh) ∧ w'.cell? ⟨w.heap.size + 1, 1, none⟩ = some (.int .u64 ll) ∧ w'.cell? ⟨w.heap.size + 1 + 1, 0, none⟩ = some (.int .u64 dh) ∧ w'.cell? ⟨w.heap.size + 1 + 1, 1, none⟩ = some (.int .u64 dl) ∧ w'.cell? ⟨w1.heap.size, 0, none⟩ = some (.int .u64 0) ∧ w'.cell? ⟨w1.heap.size, 1, none⟩ = some (.int .u64 0) ∧ w'.cell? ⟨w1.heap.size + 1, 0, none⟩ = some (.int .u64 0) ∧ w'.cell? ⟨w1.heap.size + 1, 1, none⟩ = some (.int .u64 0))
    (first | exact KS.out _ _ hb4 (by assumption) | exact KS.out _ _ hb3 (by assumption) | exact KS.out _ _ hb2 (by assumption) | exact KS.out _ _ (Below.drew (Below.refl _ _)) (by assumption) | (refine ⟨by go_grown, ?_, ?_, ?_, ?_, ?_, ?_, ?_, ?_, ?_, ?_⟩ <;> simp [go_sem, *]))
    (first
      | (go_at_call 13; refine (bcmp_any (Q2.out.later hb3) Q3.out (by decide) (by decide)).mono ?_; rintro e w4 ⟨rfl, hb4⟩; have S4 := KS.out _ _ hb4 (by assumption))
      | (go_at_call 11; have dummy := Q2; clear dummy; refine (of_any (by assumption) _).mono ?_; rintro e w3 ⟨a3, l3, c3, rfl, o3, hb3⟩; have Q3 := hid o3; clear o3)
      | (go_at_call 11; refine (of_any (by assumption) _).mono ?_; rintro e w2 ⟨a2, l2, c2, rfl, o2, hb2⟩; have Q2 := hid o2; clear o2))
  clear S0
  go_wp2_with fail
  refine (answers_any _).mono ?_
  rintro e w5 ⟨rfl, hb5⟩
  obtain ⟨g0, g1, g2, g3, g4, g5, g6, g7, g8, g9, g10⟩ := KS.out _ _ hb5 S4
  clear S4
  go_wp2_with fail
  go_ret
  exact ⟨rfl, g0⟩
set_option maxRecDepth 100000 in
set_option maxHeartbeats 8000000 in
theorem law_divs_yes {hh hl lh ll dh dl hi lo d : Int} (h1 : LimbIs hh hl hi) (h2 : LimbIs lh ll lo) (h3 : LimbIs dh dl d) (hlt : hi < d) (w : World) :
    Calls Try.prog 5 #[.agg #[.int .u64 hh, .int .u64 hl], .agg #[.int .u64 lh, .int .u64 ll], .agg #[.int .u64 dh, .int .u64 dl]] w fun e w' => e = .returned (.bool true) ∧ Below w.heap.size w w' := by
  have hcm : cmpI hi d = -1 := cmpI_lt hlt
  obtain ⟨Z, hZ⟩ : ∃ Z, Hid (Z = hi * 340282366920938463463374607431768211456 + lo) := ⟨_, rfl⟩
  have Z0 : 0 ≤ Z := by rw [hZ.out]; have := h1.range; have := h2.range; omega
  have hd0 : 0 < d := by have := h1.range; omega
  obtain ⟨x, hx⟩ : ∃ x, Hid (x = Z / d) := ⟨_, rfl⟩
  obtain ⟨y, hy⟩ : ∃ y, Hid (y = Z % d) := ⟨_, rfl⟩
  have ex := eqI_refl x
  have ey := eqI_refl y
  go_enter Try.func5, Try.ntmps5
  go_wp2_with fail
  refine (div_yes h1 h2 h3 hlt _).mono ?_
  rw [← hZ.out, ← hx.out, ← hy.out]
  rintro e w1 ⟨qh, ql, rh, rl, iq, ir, rfl, hb1⟩
  obtain ⟨⟨p1, p2, p3, p4⟩, p5⟩ := two_later hb1 (b := w.heap.size) (u := .int .u64 hh) (v := .int .u64 hl) ⟨by simp [go_sem], by simp [go_sem], by simp [go_sem], by simp [go_sem]⟩
  obtain ⟨⟨q1, q2, q3, q4⟩, q5⟩ := two_later hb1 (b := w.heap.size + 1) (u := .int .u64 lh) (v := .int .u64 ll) ⟨by simp [go_sem], by simp [go_sem], by simp [go_sem], by simp [go_sem]⟩
  obtain ⟨⟨r1, r2, r3, r4⟩, r5⟩ := two_later hb1 (b := w.heap.size + 1 + 1) (u := .int .u64 dh) (v := .int .u64 dl) ⟨by simp [go_sem], by simp [go_sem], by simp [go_sem], by simp [go_sem]⟩
  have x1 := bthen (B := w.heap.size) (w := w) (by go_grown) (by go_size) hb1
  have z1 := x1.size
  have z2 : w.heap.size + 1 < w1.heap.size := by omega
  clear hb1
  go_upto_region 2 with fail
  obtain ⟨W, hW⟩ : ∃ W, W = (w1.alloc (Obj.cells #[Value.int IntKind.u64 qh, Value.int IntKind.u64 ql] 24)).alloc (Obj.cells #[Value.int IntKind.u64 rh, Value.int IntKind.u64 rl] 24) := ⟨_, rfl⟩
  rw [← hW]
  have S0 : Below w.heap.size w W ∧ W.cell? ⟨w.heap.size, 0, none⟩ = some (.int .u64 hh) ∧ W.cell? ⟨w.heap.size, 1, none⟩ = some (.int .u64 hl) ∧ W.cell? ⟨w.heap.size + 1, 0, none⟩ = some (.int .u64 lh) ∧ W.cell? ⟨w.heap.size + 1, 1, none⟩ = some (.int .u64 ll) ∧ W.cell? ⟨w.heap.size + 1 + 1, 0, none⟩ = some (.int .u64 dh) ∧ W.cell? ⟨w.heap.size + 1 + 1, 1, none⟩ = some (.int .u64 dl) ∧ W.cell? ⟨w1.heap.size, 0, none⟩ = some (.int .u64 qh) ∧ W.cell? ⟨w1.heap.size, 1, none⟩ = some (.int .u64 ql) ∧ W.cell? ⟨w1.heap.size + 1, 0, none⟩ = some (.int .u64 rh) ∧ W.cell? ⟨w1.heap.size + 1, 1, none⟩ = some (.int .u64 rl) := by
    rw [hW]
    exact ⟨by go_grown, by simp [go_sem, *], by simp [go_sem, *], by simp [go_sem, *], by simp [go_sem, *], by simp [go_sem, *], by simp [go_sem, *], by simp [go_sem, *], by simp [go_sem, *], by simp [go_sem, *], by simp [go_sem, *]⟩
  have KS : Hid (∀ W1 W2 : World, Below W1.heap.size W1 W2 → (Below w.heap.size w W1 ∧ W1.cell? ⟨w.heap.size, 0, none⟩ = some (.int .u64 hh) ∧ W1.cell? ⟨w.heap.size, 1, none⟩ = some (.int .u64 hl) ∧ W1.cell? ⟨w.heap.size + 1, 0, none⟩ = some (.int .u64 lh) ∧ W1.cell? ⟨w.heap.size + 1, 1, none⟩ = some (.int .u64 ll) ∧ W1.cell? ⟨w.heap.size + 1 + 1, 0, none⟩ = some (.int .u64 dh) ∧ W1.cell? ⟨w.heap.size + 1 + 1, 1, none⟩ = some (.int .u64 dl) ∧ W1.cell? ⟨w1.heap.size, 0, none⟩ = some (.int .u64 qh) ∧ W1.cell? ⟨w1.heap.size, 1, none⟩ = some (.int .u64 ql) ∧ W1.cell? ⟨w1.heap.size + 1, 0, none⟩ = some (.int .u64 rh) ∧ W1.cell? ⟨w1.heap.size + 1, 1, none⟩ = some (.int .u64 rl)) → (Below w.heap.size w W2 ∧ W2.cell? ⟨w.heap.size, 0, none⟩ = some (.int .u64 hh) ∧ W2.cell? ⟨w.heap.size, 1, none⟩ = some (.int .u64 hl) ∧ W2.cell? ⟨w.heap.size + 1, 0, none⟩ = some (.int .u64 lh) ∧ W2.cell? ⟨w.heap.size + 1, 1, none⟩ = some (.int .u64 ll) ∧ W2.cell? ⟨w.heap.size + 1 + 1, 0, none⟩ = some (.int .u64 dh) ∧ W2.cell? ⟨w.heap.size + 1 + 1, 1, none⟩ = some (.int .u64 dl) ∧ W2.cell? ⟨w1.heap.size, 0, none⟩ = some (.int .u64 qh) ∧ W2.cell? ⟨w1.heap.size, 1, none⟩ = some (.int .u64 ql) ∧ W2.cell? ⟨w1.heap.size + 1, 0, none⟩ = some (.int .u64 rh) ∧ W2.cell? ⟨w1.heap.size + 1, 1, none⟩ = some (.int .u64 rl))) := fun W1 W2 hb ⟨h0, h1, h2, h3, h4, h5, h6, h7, h8, h9, h10⟩ => ⟨bthen h0 h0.size hb, cell_later hb h1, cell_later hb h2, cell_later hb h3, cell_later hb h4, cell_later hb h5, cell_later hb h6, cell_later hb h7, cell_later hb h8, cell_later hb h9, cell_later hb h10⟩
  clear hW p1 p2 p3 p4 p5 q1 q2 q3 q4 q5 r1 r2 r3 r4 r5 x1 z1 z2
  go_region_held3 (fun w' => Below w.heap.size w w' ∧ w'.cell? ⟨w.heap.size, 0, none⟩ = some (.int .u64 hh) ∧ w'.cell? ⟨w.heap.size, 1, none⟩ = some (.int .u64 hl) ∧ w'.cell? ⟨w.heap.size + 1, 0, none⟩ = some (.int .u64 lh) ∧ w'.cell? ⟨w.heap.size + 1, 1, none⟩ = some (.int .u64 ll) ∧ w'.cell? ⟨w.heap.size + 1 + 1, 0, none⟩ = some (.int .u64 dh) ∧ w'.cell? ⟨w.heap.size + 1 + 1, 1, none⟩ = some (.int .u64 dl) ∧ w'.cell? ⟨w1.heap.size, 0, none⟩ = some (.int .u64 qh) ∧ w'.cell? ⟨w1.heap.size, 1, none⟩ = some (.int .u64 ql) ∧ w'.cell? ⟨w1.heap.size + 1, 0, none⟩ = some (.int .u64 rh) ∧ w'.cell? ⟨w1.heap.size + 1, 1, none⟩ = some (.int .u64 rl))
    (first | exact KS.out _ _ hb4 (by assumption) | exact KS.out _ _ hb3 (by assumption) | exact KS.out _ _ hb2 (by assumption) | exact KS.out _ _ (Below.drew (Below.refl _ _)) (by assumption) | (refine ⟨by go_grown, ?_, ?_, ?_, ?_, ?_, ?_, ?_, ?_, ?_, ?_⟩ <;> simp [go_sem, *]))
    (first
      | (go_at_call 13; refine (bcmp_any (Q2.out.later hb3) Q3.out (by decide) (by decide)).mono ?_; rintro e w4 ⟨rfl, hb4⟩; have S4 := KS.out _ _ hb4 (by assumption))
      | (go_at_call 11; have dummy := Q2; clear dummy; refine (of_any (by assumption) _).mono ?_; rintro e w3 ⟨a3, l3, c3, rfl, o3, hb3⟩; have Q3 := hid o3; clear o3)
      | (go_at_call 11; refine (of_any (by assumption) _).mono ?_; rintro e w2 ⟨a2, l2, c2, rfl, o2, hb2⟩; have Q2 := hid o2; clear o2))
  clear S0
  go_upto_region 4 with fail
  clear hb2 hb3 hb4 Q2 Q3 KS
  have KS : Hid (∀ W2 : World, Below w4.heap.size w4 W2 → (Below w4.heap.size w4 W2 ∧ W2.cell? ⟨w.heap.size, 0, none⟩ = some (.int .u64 hh) ∧ W2.cell? ⟨w.heap.size, 1, none⟩ = some (.int .u64 hl) ∧ W2.cell? ⟨w.heap.size + 1, 0, none⟩ = some (.int .u64 lh) ∧ W2.cell? ⟨w.heap.size + 1, 1, none⟩ = some (.int .u64 ll) ∧ W2.cell? ⟨w.heap.size + 1 + 1, 0, none⟩ = some (.int .u64 dh) ∧ W2.cell? ⟨w.heap.size + 1 + 1, 1, none⟩ = some (.int .u64 dl))) := fun W2 hb => ⟨hb, cell_later hb S4.2.1, cell_later hb S4.2.2.1, cell_later hb S4.2.2.2.1, cell_later hb S4.2.2.2.2.1, cell_later hb S4.2.2.2.2.2.1, cell_later hb S4.2.2.2.2.2.2.1⟩
  have S44 := hid S4
  clear S4
  go_cut [10, 11] (fun p q wc => ∃ (b10 b11 lx cx ly cy : Nat) (ax ay : Option Addr), p = .pointer (some ⟨b10, 0, none⟩) ∧ q = .pointer (some ⟨b11, 0, none⟩) ∧ Hid (Two wc b10 (.bool (sg x)) (.slice ax lx cx) ∧ Two wc b11 (.bool (sg y)) (.slice ay ly cy) ∧ w4.heap.size ≤ b10 ∧ w4.heap.size ≤ b11 ∧ b10 ≠ b11 ∧ BigIs 20 wc (.slice ax lx cx) x ∧ BigIs 10 wc (.slice ay ly cy) y ∧ Below w4.heap.size w4 wc))
  case first =>
    go_region_held3 (fun w' => Below w4.heap.size w4 w' ∧ w'.cell? ⟨w.heap.size, 0, none⟩ = some (.int .u64 hh) ∧ w'.cell? ⟨w.heap.size, 1, none⟩ = some (.int .u64 hl) ∧ w'.cell? ⟨w.heap.size + 1, 0, none⟩ = some (.int .u64 lh) ∧ w'.cell? ⟨w.heap.size + 1, 1, none⟩ = some (.int .u64 ll) ∧ w'.cell? ⟨w.heap.size + 1 + 1, 0, none⟩ = some (.int .u64 dh) ∧ w'.cell? ⟨w.heap.size + 1 + 1, 1, none⟩ = some (.int .u64 dl))
      (exact KS.out _ (by first | (go_grown; done) | fail))
      (first
        | (go_at_call 22; refine (bdiv_pos ((Q5.out.later (bthen (by go_grown) (by go_size) hb6)).later (by go_grown)) (Q6.out.later (by go_grown)) Z0 hd0 (by decide) (by decide)).mono ?_; rw [← hx.out, ← hy.out]; rintro e w7 ⟨a7, l7, c7, a8, l8, c8, rfl, o7, o8, hb7⟩; have X7 := bthen (B := w4.heap.size) (w := w4) (by go_grown) (by go_size) hb7; have X7s := X7.size; have Z7 := bthen (B := w6.heap.size) (w := w6) (by go_grown) (by go_size) hb7; have Z7s := Z7.size; (try have n5a := (two_later Z7 n5a).1); (try have n5b := (two_later Z7 n5b).1); (try have n6a := (two_later Z7 n6a).1); (try have n6b := (two_later Z7 n6b).1); (try have n7a := (two_later hb7 (b := w6.heap.size) (u := .bool false) (v := .slice none 0 0) ⟨by first | (simp [go_sem]; done) | fail, by first | (simp [go_sem]; done) | fail, by first | (simp [go_sem]; done) | fail, by first | (simp [go_sem]; done) | fail⟩).1); (try have q7a := Two.lt n7a); (try have n7b := (two_later hb7 (b := w6.heap.size + 1) (u := .bool false) (v := .slice none 0 0) ⟨by first | (simp [go_sem]; done) | fail, by first | (simp [go_sem]; done) | fail, by first | (simp [go_sem]; done) | fail, by first | (simp [go_sem]; done) | fail⟩).1); (try have q7b := Two.lt n7b); (try have p5a := Two.lt n5a); (try obtain ⟨o5a1, o5a2, o5a3, o5a4⟩ := id n5a); (try have p5b := Two.lt n5b); (try obtain ⟨o5b1, o5b2, o5b3, o5b4⟩ := id n5b); (try have p6a := Two.lt n6a); (try obtain ⟨o6a1, o6a2, o6a3, o6a4⟩ := id n6a); (try have p6b := Two.lt n6b); (try obtain ⟨o6b1, o6b2, o6b3, o6b4⟩ := id n6b); (try have p7a := Two.lt n7a); (try obtain ⟨o7a1, o7a2, o7a3, o7a4⟩ := id n7a); (try have p7b := Two.lt n7b); (try obtain ⟨o7b1, o7b2, o7b3, o7b4⟩ := id n7b); have Q7 := hid o7; have Q8 := hid o8; clear o7 o8)
        | (go_at_call 11; refine (of_any h3 _).mono ?_; rintro e w6 ⟨a6, l6, c6, rfl, o6, hb6⟩; have X6 := bthen (B := w4.heap.size) (w := w4) (by go_grown) (by go_size) hb6; have X6s := X6.size; have Z6 := bthen (B := w5.heap.size) (w := w5) (by go_grown) (by go_size) hb6; have Z6s := Z6.size; (try have n5a := (two_later Z6 n5a).1); (try have n5b := (two_later Z6 n5b).1); (try have n6a := (two_later hb6 (b := w5.heap.size) (u := .bool false) (v := .slice none 0 0) ⟨by first | (simp [go_sem]; done) | fail, by first | (simp [go_sem]; done) | fail, by first | (simp [go_sem]; done) | fail, by first | (simp [go_sem]; done) | fail⟩).1); (try have q6a := Two.lt n6a); (try have n6b := (two_later hb6 (b := w5.heap.size + 1) (u := .bool false) (v := .slice none 0 0) ⟨by first | (simp [go_sem]; done) | fail, by first | (simp [go_sem]; done) | fail, by first | (simp [go_sem]; done) | fail, by first | (simp [go_sem]; done) | fail⟩).1); (try have q6b := Two.lt n6b); have Q6 := hid o6; clear o6)
        | (go_at_call 19; refine (both_any h1 h2 hZ.out _).mono ?_; rintro e w5 ⟨a5, l5, c5, rfl, o5, hb5⟩; have X5 := bthen (B := w4.heap.size) (w := w4) (by go_grown) (by go_size) hb5; have X5s := X5.size; have Z5 := bthen (B := w4.heap.size) (w := w4) (by go_grown) (by go_size) hb5; have Z5s := Z5.size; (try have n5a := (two_later hb5 (b := w4.heap.size) (u := .bool false) (v := .slice none 0 0) ⟨by first | (simp [go_sem]; done) | fail, by first | (simp [go_sem]; done) | fail, by first | (simp [go_sem]; done) | fail, by first | (simp [go_sem]; done) | fail⟩).1); (try have q5a := Two.lt n5a); (try have n5b := (two_later hb5 (b := w4.heap.size + 1) (u := .bool false) (v := .slice none 0 0) ⟨by first | (simp [go_sem]; done) | fail, by first | (simp [go_sem]; done) | fail, by first | (simp [go_sem]; done) | fail, by first | (simp [go_sem]; done) | fail⟩).1); (try have q5b := Two.lt n5b); have Q5 := hid o5; clear o5))
    all_goals
      go_wp2_with fail
      go_meet
      refine ⟨_, _, l7, c7, l8, c8, a7, a8, rfl, rfl, ?_⟩
      refine Fin2.meets (w := w7) ?_ Q7 Q8 ?_ ?_ ?_ ?_
      · first | (with_reducible exact fin_aa) | (with_reducible exact fin_aa') | (with_reducible exact fin_ab (by assumption)) | (with_reducible exact fin_ba (by assumption)) | (with_reducible exact fin_bb (by assumption) (by assumption) (by omega))
      · go_grown
      · omega
      · omega
      · omega
  case rest =>
    obtain ⟨b10, b11, lx, cx, ly, cy, ax, ay, rfl, rfl, ⟨t1, t2, -, -⟩, ⟨t3, t4, -, -⟩, -, -, -, bx, by', hbc⟩ := hcut
    have BX := hid bx
    have BY := hid by'
    clear bx by'
    have S5 := hid (show Below wc.heap.size wc wc ∧ wc.cell? ⟨w1.heap.size, 0, none⟩ = some (.int .u64 qh) ∧ wc.cell? ⟨w1.heap.size, 1, none⟩ = some (.int .u64 ql) ∧ wc.cell? ⟨w1.heap.size + 1, 0, none⟩ = some (.int .u64 rh) ∧ wc.cell? ⟨w1.heap.size + 1, 1, none⟩ = some (.int .u64 rl) ∧ wc.cell? ⟨b10, 0, none⟩ = some (.bool (sg x)) ∧ wc.cell? ⟨b10, 1, none⟩ = some (.slice ax lx cx) ∧ wc.cell? ⟨b11, 0, none⟩ = some (.bool (sg y)) ∧ wc.cell? ⟨b11, 1, none⟩ = some (.slice ay ly cy) from ⟨Below.refl _ _, cell_later hbc S44.out.2.2.2.2.2.2.2.1, cell_later hbc S44.out.2.2.2.2.2.2.2.2.1, cell_later hbc S44.out.2.2.2.2.2.2.2.2.2.1, cell_later hbc S44.out.2.2.2.2.2.2.2.2.2.2, t1, t2, t3, t4⟩)
    have KS5 : Hid (∀ W2 : World, Below wc.heap.size wc W2 → (Below wc.heap.size wc W2 ∧ W2.cell? ⟨w1.heap.size, 0, none⟩ = some (.int .u64 qh) ∧ W2.cell? ⟨w1.heap.size, 1, none⟩ = some (.int .u64 ql) ∧ W2.cell? ⟨w1.heap.size + 1, 0, none⟩ = some (.int .u64 rh) ∧ W2.cell? ⟨w1.heap.size + 1, 1, none⟩ = some (.int .u64 rl) ∧ W2.cell? ⟨b10, 0, none⟩ = some (.bool (sg x)) ∧ W2.cell? ⟨b10, 1, none⟩ = some (.slice ax lx cx) ∧ W2.cell? ⟨b11, 0, none⟩ = some (.bool (sg y)) ∧ W2.cell? ⟨b11, 1, none⟩ = some (.slice ay ly cy))) := fun W2 hb => ⟨hb, cell_later hb S5.out.2.1, cell_later hb S5.out.2.2.1, cell_later hb S5.out.2.2.2.1, cell_later hb S5.out.2.2.2.2.1, cell_later hb S5.out.2.2.2.2.2.1, cell_later hb S5.out.2.2.2.2.2.2.1, cell_later hb S5.out.2.2.2.2.2.2.2.1, cell_later hb S5.out.2.2.2.2.2.2.2.2⟩
    have xc := bthen S44.out.1 S44.out.1.size hbc
    clear KS t1 t2 t3 t4 hbc
    go_wp2_with fail
    go_region_held3 (fun w' => Below wc.heap.size wc w' ∧ w'.cell? ⟨w1.heap.size, 0, none⟩ = some (.int .u64 qh) ∧ w'.cell? ⟨w1.heap.size, 1, none⟩ = some (.int .u64 ql) ∧ w'.cell? ⟨w1.heap.size + 1, 0, none⟩ = some (.int .u64 rh) ∧ w'.cell? ⟨w1.heap.size + 1, 1, none⟩ = some (.int .u64 rl) ∧ w'.cell? ⟨b10, 0, none⟩ = some (.bool (sg x)) ∧ w'.cell? ⟨b10, 1, none⟩ = some (.slice ax lx cx) ∧ w'.cell? ⟨b11, 0, none⟩ = some (.bool (sg y)) ∧ w'.cell? ⟨b11, 1, none⟩ = some (.slice ay ly cy))
      (exact KS5.out _ (by first | (go_grown; done) | fail))
      (first
        | (go_at_call 17; refine (same_any Q11.out (BY.out.later X11) (by decide) (by decide)).mono ?_; rintro e w12 ⟨rfl, hb12⟩; have X12 := bthen X11 X11.size hb12)
        | (go_at_call 11; have dummy := X10; clear dummy; refine (of_any ir _).mono ?_; rintro e w11 ⟨a11, l11, c11, rfl, o11, hb11⟩; have X11 := bthen X10 X10.size hb11; have Q11 := hid o11; clear o11)
        | (go_at_call 17; refine (same_any Q9.out (BX.out.later X9) (by decide) (by decide)).mono ?_; rintro e w10 ⟨rfl, hb10⟩; have X10 := bthen X9 X9.size hb10)
        | (go_at_call 11; refine (of_any iq _).mono ?_; rintro e w9 ⟨a9, l9, c9, rfl, o9, hb9⟩; have X9 := bthen X8 X8.size hb9; have Q9 := hid o9; clear o9)
        | (go_at_call 16; refine (answers_any _).mono ?_; rintro e w8 ⟨rfl, hb8⟩; have X8 := bthen (B := wc.heap.size) (w := wc) (by go_grown) (by go_size) hb8))
    go_wp2
    go_ret
    exact ⟨rfl, bthen xc xc.size X12⟩

theorem law_divs {hh hl lh ll dh dl hi lo d : Int} (h1 : LimbIs hh hl hi) (h2 : LimbIs lh ll lo) (h3 : LimbIs dh dl d) (w : World) :
    Calls Try.prog 5 #[.agg #[.int .u64 hh, .int .u64 hl], .agg #[.int .u64 lh, .int .u64 ll], .agg #[.int .u64 dh, .int .u64 dl]] w fun e w' => e = .returned (.bool true) ∧ Below w.heap.size w w' := by
  by_cases h : d ≤ hi
  · exact law_divs_no h1 h2 h3 h w
  · exact law_divs_yes h1 h2 h3 (by omega) w
end Go.Proofs.Ytdefgplehkbpcaa
