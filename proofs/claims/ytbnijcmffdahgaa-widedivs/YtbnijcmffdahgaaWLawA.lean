/-
  The contract of the laws' own helper 'fits', and the walk of the law WideMuls: the product of any two numbers, or that it does not fit. No conditions.
-/
import Derived.Test.YtbnijcmffdahgaaWideG
import Derived.Test.YtbnijcmffdahgaaRefL
import Derived.Deep.DeepCutAuto
namespace Go.Proofs.Ytbnijcmffdahgaa
open Go.RowKit

attribute [local go_sem ↓] Go.wp_at_zero Go.wp_at_succ
set_option maxRecDepth 100000 in
set_option maxHeartbeats 2000000 in
theorem fits_any {n : Nat} {h l z : Int} {a : Option Addr} {k c : Nat} {w : World} (hz : WideIs h l (fitV z)) (hb : BigIs n w (.slice a k c) z) (hn : n ≤ 100000) :
    Calls Try.prog 20 #[.agg #[.int .i64 h, .int .u64 l], .int .i64 (fitE z), .agg #[.bool (sg z), .slice a k c]] w fun e w' => e = .returned (.bool true) ∧ Below w.heap.size w w' := by
  have qe := run_eql_wide
  have hb0 := hid hb
  clear hb
  go_enter Try.func20, Try.ntmps20
  go_wp2_with fail
  refine (rwide_any (hb0.out.later (by go_grown)) hn).mono ?_
  rintro e w1 ⟨h1, l1, i1, rfl, hb1⟩
  obtain ⟨⟨p1, p2, p3, p4⟩, p5⟩ := two_later hb1 (b := w.heap.size) (u := .int .i64 h) (v := .int .u64 l) ⟨by simp [go_sem], by simp [go_sem], by simp [go_sem], by simp [go_sem]⟩
  have x1 := bthen (B := w.heap.size) (w := w) (by go_grown) (by go_size) hb1
  have z1 := x1.size
  clear hb1
  cases fi : inW z
  · have fe : fitE z = 2 := by unfold fitE; rw [if_neg (by rw [fi]; decide)]
    have fv : fitV z = 0 := by unfold fitV; rw [if_neg (by rw [fi]; decide)]
    have e1 := eqW_same (hz.eq fv) wide_0
    clear fv fi
    go_wp2_with fail
    go_ret
    exact ⟨rfl, by go_grown⟩
  · have fe : fitE z = 0 := by unfold fitE; rw [if_pos fi]
    have e1 := eqW_same hz i1
    clear fi
    go_wp2_with fail
    go_ret
    exact ⟨rfl, by go_grown⟩
set_option maxRecDepth 100000 in
set_option maxHeartbeats 2000000 in
theorem law_muls {ah al bh bl a b : Int} (ha : WideIs ah al a) (hb : WideIs bh bl b) (w : World) :
    Calls Try.prog 5 #[.agg #[.int .i64 ah, .int .u64 al], .agg #[.int .i64 bh, .int .u64 bl]] w fun e w' => e = .returned (.bool true) ∧ Below w.heap.size w w' := by
  obtain ⟨X, hX⟩ : ∃ X, Hid (X = a * b) := ⟨_, rfl⟩
  go_enter Try.func5, Try.ntmps5
  go_wp2_with fail
  refine (wmul_any ha hb _).mono ?_
  rw [← hX.out]
  rintro e w1 ⟨ph, pl, ip, rfl, hb1⟩
  have tA := (two_later hb1 (b := w.heap.size) (u := .int .i64 ah) (v := .int .u64 al) ⟨by simp [go_sem], by simp [go_sem], by simp [go_sem], by simp [go_sem]⟩).1
  have tB := (two_later hb1 (b := w.heap.size + 1) (u := .int .i64 bh) (v := .int .u64 bl) ⟨by simp [go_sem], by simp [go_sem], by simp [go_sem], by simp [go_sem]⟩).1
  have x1 := bthen (B := w.heap.size) (w := w) (by go_grown) (by go_size) hb1
  have KS : Hid (∀ W1 W2 : World, Below W1.heap.size W1 W2 → (Below w.heap.size w W1 ∧ W1.cell? ⟨w.heap.size, 0, none⟩ = some (.int .i64 ah) ∧ W1.cell? ⟨w.heap.size, 1, none⟩ = some (.int .u64 al) ∧ W1.cell? ⟨w.heap.size + 1, 0, none⟩ = some (.int .i64 bh) ∧ W1.cell? ⟨w.heap.size + 1, 1, none⟩ = some (.int .u64 bl) ∧ W1.cell? ⟨w1.heap.size, 0, none⟩ = some (.int .i64 ph) ∧ W1.cell? ⟨w1.heap.size, 1, none⟩ = some (.int .u64 pl)) → (Below w.heap.size w W2 ∧ W2.cell? ⟨w.heap.size, 0, none⟩ = some (.int .i64 ah) ∧ W2.cell? ⟨w.heap.size, 1, none⟩ = some (.int .u64 al) ∧ W2.cell? ⟨w.heap.size + 1, 0, none⟩ = some (.int .i64 bh) ∧ W2.cell? ⟨w.heap.size + 1, 1, none⟩ = some (.int .u64 bl) ∧ W2.cell? ⟨w1.heap.size, 0, none⟩ = some (.int .i64 ph) ∧ W2.cell? ⟨w1.heap.size, 1, none⟩ = some (.int .u64 pl))) := fun W1 W2 hb ⟨h0, h1, h2, h3, h4, h5, h6⟩ => ⟨bthen h0 h0.size hb, cell_later hb h1, cell_later hb h2, cell_later hb h3, cell_later hb h4, cell_later hb h5, cell_later hb h6⟩
  go_upto_region 2 with fail
  obtain ⟨W, hW⟩ : ∃ W, W = w1.alloc (Obj.cells #[.int .i64 ph, .int .u64 pl] 24) := ⟨_, rfl⟩
  rw [← hW]
  have hbW : Below w1.heap.size w1 W := by rw [hW]; go_grown
  have S0 : Below w.heap.size w W ∧ W.cell? ⟨w.heap.size, 0, none⟩ = some (.int .i64 ah) ∧ W.cell? ⟨w.heap.size, 1, none⟩ = some (.int .u64 al) ∧ W.cell? ⟨w.heap.size + 1, 0, none⟩ = some (.int .i64 bh) ∧ W.cell? ⟨w.heap.size + 1, 1, none⟩ = some (.int .u64 bl) ∧ W.cell? ⟨w1.heap.size, 0, none⟩ = some (.int .i64 ph) ∧ W.cell? ⟨w1.heap.size, 1, none⟩ = some (.int .u64 pl) := ⟨bthen x1 x1.size hbW, (two_later hbW tA).1.1, (two_later hbW tA).1.2.1, (two_later hbW tB).1.1, (two_later hbW tB).1.2.1, by rw [hW]; simp [go_sem], by rw [hW]; simp [go_sem]⟩
  clear hW hbW tA tB x1 hb1
  go_region_held3 (fun w' => Below w.heap.size w w' ∧ w'.cell? ⟨w.heap.size, 0, none⟩ = some (.int .i64 ah) ∧ w'.cell? ⟨w.heap.size, 1, none⟩ = some (.int .u64 al) ∧ w'.cell? ⟨w.heap.size + 1, 0, none⟩ = some (.int .i64 bh) ∧ w'.cell? ⟨w.heap.size + 1, 1, none⟩ = some (.int .u64 bl) ∧ w'.cell? ⟨w1.heap.size, 0, none⟩ = some (.int .i64 ph) ∧ w'.cell? ⟨w1.heap.size, 1, none⟩ = some (.int .u64 pl))
    (first | exact KS.out _ _ hb6 (by assumption) | exact KS.out _ _ hb5 (by assumption) | exact KS.out _ _ hb4 (by assumption) | exact KS.out _ _ hb3 (by assumption) | exact KS.out _ _ hb2 (by assumption) | exact KS.out _ _ (Below.drew (Below.refl _ _)) (by assumption))
    (first
      | (go_at_call 20; refine (fits_any ip Q5.out (by decide)).mono ?_; rintro e w6 ⟨rfl, hb6⟩; have S6 := KS.out _ _ hb6 (by assumption))
      | (go_at_call 25; refine (bmul_any (Q3.out.later hb4) Q4.out (by decide) (by decide)).mono ?_; rw [← hX.out]; rintro e w5 ⟨a5, l5, c5, rfl, q5, hb5⟩; have Q5 := hid q5; clear q5)
      | (go_at_call 12; have dummy := Q3; clear dummy; refine (rof_any hb _).mono ?_; rintro e w4 ⟨a4, l4, c4, rfl, q4, hb4⟩; have Q4 := hid q4; clear q4)
      | (go_at_call 12; refine (rof_any ha _).mono ?_; rintro e w3 ⟨a3, l3, c3, rfl, q3, hb3⟩; have Q3 := hid q3; clear q3)
      | (go_at_call 14; refine (answers_any _).mono ?_; rintro e w2 ⟨rfl, hb2⟩))
  go_wp2
  go_ret
  exact ⟨rfl, S6.1⟩
end Go.Proofs.Ytbnijcmffdahgaa
