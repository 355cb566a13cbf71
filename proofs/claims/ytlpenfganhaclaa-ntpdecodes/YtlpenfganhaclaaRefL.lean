/-
  The contract of the reference numbers' Wide: a number as a Wide, if it fits. No conditions beside the memory's own.
-/
import Derived.Test.YtlpenfganhaclaaRefK
namespace Go.Proofs.Ytlpenfganhaclaa
open Go.RowKit

theorem canon8 {ds : List Int} (hd : Dig ds) (hc : Canon ds) (h : val ds < 340282366920938463463374607431768211456) : ds.length ≤ 8 := by
  by_cases g : ds = []
  · subst g; simp
  · have h1 := canon_low hd hc g
    by_cases h2 : ds.length ≤ 8
    · exact h2
    · exfalso
      have h3 : pw 8 ≤ pw (ds.length - 1) := pw_mono (by omega)
      have h4 : pw 8 = 340282366920938463463374607431768211456 := by decide
      omega
theorem bsub_sig {n m : Nat} {a a' : Option Addr} {l l' c c' : Nat} {x y : Int} {sx sy : Bool} {w : World} (ha : BigIs n w (.slice a l c) x) (hb : BigIs m w (.slice a' l' c') y) (hx : sg x = sx) (hy : sg y = sy) (hn : n ≤ 10000000) (hm : m ≤ 10000000) :
    Calls Try.prog 14 #[.agg #[.bool sx, .slice a l c], .agg #[.bool sy, .slice a' l' c']] w fun e w' =>
      ∃ b k d, e = .returned (.agg #[.bool (sg (x - y)), .slice b k d]) ∧ BigIs (max n m + 1) w' (.slice b k d) (x - y) ∧ Below w.heap.size w w' := by
  subst hx hy; exact bsub_any ha hb hn hm
attribute [local go_sem ↓] Go.wp_at_zero Go.wp_at_succ
set_option maxRecDepth 100000 in
set_option maxHeartbeats 2000000 in
theorem rwide_over {n : Nat} {a : Option Addr} {l c : Nat} {z : Int} {w : World} (ha : BigIs n w (.slice a l c) z) (hn : n ≤ 5000000) (g : 170141183460469231731687303715884105728 ≤ z) :
    Calls Try.prog 43 #[.agg #[.bool (sg z), .slice a l c]] w fun e w' => e = .returned (.tuple #[.agg #[.int .i64 0, .int .u64 0], .bool false]) ∧ Below w.heap.size w w' := by
  have P127 : Hid (p2 127 = 170141183460469231731687303715884105728) := by rw [Hid]; decide
  have HA := hid ha
  clear ha
  have KS : Hid (∀ W1 W2 : World, Below W1.heap.size W1 W2 → (Below w.heap.size w W1 ∧ W1.cell? ⟨w.heap.size, 0, none⟩ = some (.bool (sg z)) ∧ W1.cell? ⟨w.heap.size, 1, none⟩ = some (.slice a l c)) → (Below w.heap.size w W2 ∧ W2.cell? ⟨w.heap.size, 0, none⟩ = some (.bool (sg z)) ∧ W2.cell? ⟨w.heap.size, 1, none⟩ = some (.slice a l c))) := fun W1 W2 hb ⟨h0, h1, h2⟩ => ⟨bthen h0 h0.size hb, cell_later hb h1, cell_later hb h2⟩
  go_enter Try.func43, Try.ntmps43
  go_upto_region 1 with fail
  obtain ⟨W, hW⟩ : ∃ W, W = (w.alloc (Obj.cells #[.bool (sg z), .slice a l c] 32)).alloc (Obj.cells #[.int .i64 0, .int .u64 0] 24) := ⟨_, rfl⟩
  rw [← hW]
  have S0 : Below w.heap.size w W ∧ W.cell? ⟨w.heap.size, 0, none⟩ = some (.bool (sg z)) ∧ W.cell? ⟨w.heap.size, 1, none⟩ = some (.slice a l c) := by rw [hW]; exact ⟨by go_grown, by simp [go_sem], by simp [go_sem]⟩
  have R0 : Hid (Two W (w.heap.size + 1) (.int .i64 0) (.int .u64 0)) := by rw [hW]; exact ⟨by simp [go_sem], by simp [go_sem], by simp [go_sem], by simp [go_sem]⟩
  have xW := S0.1
  have zW := xW.size
  have AW := hid (HA.out.later xW)
  clear hW
  have hc : 0 ≤ cmpI z (p2 127) := by rw [P127.out]; unfold cmpI; rw [if_neg (by omega)]; split <;> omega
  obtain ⟨s0, s1, s2⟩ := S0
  go_region_with (first
      | (go_at_call 17; refine (bcmp_any (AW.out.later Y1) Q1.out (by omega) (by decide)).mono ?_; rintro e w2 ⟨rfl, hb2⟩; have Y2 := bthen Y1 Y1.size hb2; have X2 := bthen xW xW.size Y2; have z2 := X2.size; obtain ⟨⟨r1, r2, r3, r4⟩, r5⟩ := two_later Y2 R0.out)
      | (go_at_call 34; refine (pow2_lit 127 127 rfl (by decide) _).mono ?_; rintro e w1 ⟨a1, l1, c1, rfl, q1, hb1⟩; have Y1 := bthen (B := W.heap.size) (w := W) (by go_grown) (by go_size) hb1; have t1 := cell_later Y1 s1; have t2 := cell_later Y1 s2; have Q1 := hid q1; clear q1))
  all_goals
    go_wp2_with fail
    refine bodyPost_ret (v := .tuple #[.agg #[.int .i64 0, .int .u64 0], .bool false]) (by simp [results, Try.results43, go_sem, *]) rfl ⟨rfl, by go_grown⟩
set_option maxRecDepth 100000 in
set_option maxHeartbeats 2000000 in
theorem rwide_under {n : Nat} {a : Option Addr} {l c : Nat} {z : Int} {w : World} (ha : BigIs n w (.slice a l c) z) (hn : n ≤ 5000000) (g : z < -170141183460469231731687303715884105728) :
    Calls Try.prog 43 #[.agg #[.bool (sg z), .slice a l c]] w fun e w' => e = .returned (.tuple #[.agg #[.int .i64 0, .int .u64 0], .bool false]) ∧ Below w.heap.size w w' := by
  have P127 : Hid (p2 127 = 170141183460469231731687303715884105728) := by rw [Hid]; decide
  have HA := hid ha
  clear ha
  have KS : Hid (∀ W1 W2 : World, Below W1.heap.size W1 W2 → (Below w.heap.size w W1 ∧ W1.cell? ⟨w.heap.size, 0, none⟩ = some (.bool (sg z)) ∧ W1.cell? ⟨w.heap.size, 1, none⟩ = some (.slice a l c)) → (Below w.heap.size w W2 ∧ W2.cell? ⟨w.heap.size, 0, none⟩ = some (.bool (sg z)) ∧ W2.cell? ⟨w.heap.size, 1, none⟩ = some (.slice a l c))) := fun W1 W2 hb ⟨h0, h1, h2⟩ => ⟨bthen h0 h0.size hb, cell_later hb h1, cell_later hb h2⟩
  go_enter Try.func43, Try.ntmps43
  go_upto_region 1 with fail
  obtain ⟨W, hW⟩ : ∃ W, W = (w.alloc (Obj.cells #[.bool (sg z), .slice a l c] 32)).alloc (Obj.cells #[.int .i64 0, .int .u64 0] 24) := ⟨_, rfl⟩
  rw [← hW]
  have S0 : Below w.heap.size w W ∧ W.cell? ⟨w.heap.size, 0, none⟩ = some (.bool (sg z)) ∧ W.cell? ⟨w.heap.size, 1, none⟩ = some (.slice a l c) := by rw [hW]; exact ⟨by go_grown, by simp [go_sem], by simp [go_sem]⟩
  have R0 : Hid (Two W (w.heap.size + 1) (.int .i64 0) (.int .u64 0)) := by rw [hW]; exact ⟨by simp [go_sem], by simp [go_sem], by simp [go_sem], by simp [go_sem]⟩
  have xW := S0.1
  have zW := xW.size
  have AW := hid (HA.out.later xW)
  clear hW
  have hc : cmpI z (p2 127) = -1 := cmpI_lt (by rw [P127.out]; omega)
  have hd : cmpI z (-p2 127) = -1 := cmpI_lt (by rw [P127.out]; omega)
  go_region_held3 (fun w' => Below w.heap.size w w' ∧ w'.cell? ⟨w.heap.size, 0, none⟩ = some (.bool (sg z)) ∧ w'.cell? ⟨w.heap.size, 1, none⟩ = some (.slice a l c))
    (first | exact KS.out _ _ hb5 (by assumption) | exact KS.out _ _ hb4 (by assumption) | exact KS.out _ _ hb3 (by assumption) | exact KS.out _ _ hb2 (by assumption) | exact KS.out _ _ hb1 (by assumption) | exact KS.out _ _ (Below.drew (Below.refl _ _)) (by assumption))
    (first
      | (go_at_call 17; have dummy := Q4; clear dummy; refine (bcmp_any (AW.out.later Y4) Q4.out (by omega) (by decide)).mono ?_; rintro e w5 ⟨rfl, hb5⟩; have S5 := KS.out _ _ hb5 (by assumption); have Y5 := bthen Y4 Y4.size hb5)
      | (go_at_call 45; refine (neg_any Q3.out).mono ?_; rintro e w4 ⟨rfl, q4, hb4⟩; have Y4 := bthen Y3 Y3.size hb4; have Q4 := hid q4; clear q4)
      | (go_at_call 34; have dummy := Y2; clear dummy; refine (pow2_lit 127 127 rfl (by decide) _).mono ?_; rintro e w3 ⟨a3, l3, c3, rfl, q3, hb3⟩; have Y3 := bthen Y2 Y2.size hb3; have Q3 := hid q3; clear q3)
      | (go_at_call 17; refine (bcmp_any (AW.out.later Y1) Q1.out (by omega) (by decide)).mono ?_; rintro e w2 ⟨rfl, hb2⟩; have Y2 := bthen Y1 Y1.size hb2)
      | (go_at_call 34; refine (pow2_lit 127 127 rfl (by decide) _).mono ?_; rintro e w1 ⟨a1, l1, c1, rfl, q1, hb1⟩; have Y1 := bthen (B := W.heap.size) (w := W) (by go_grown) (by go_size) hb1; have Q1 := hid q1; clear q1))
  obtain ⟨⟨r1, r2, r3, r4⟩, r5⟩ := two_later Y5 R0.out
  obtain ⟨x5, t1, t2⟩ := S5
  have z5 := x5.size
  clear S0 KS
  go_wp2_with fail
  refine bodyPost_ret (v := .tuple #[.agg #[.int .i64 0, .int .u64 0], .bool false]) (by simp [results, Try.results43, go_sem, *]) rfl ⟨rfl, by go_grown⟩
set_option maxRecDepth 100000 in
set_option maxHeartbeats 2000000 in
theorem rwide_pos {n : Nat} {a : Option Addr} {l c : Nat} {z : Int} {w : World} (ha : BigIs n w (.slice a l c) z) (hn : n ≤ 5000000) (g0 : 0 ≤ z) (g1 : z < 170141183460469231731687303715884105728) :
    Calls Try.prog 43 #[.agg #[.bool (sg z), .slice a l c]] w fun e w' => ∃ h l : Int, WideIs h l z ∧ e = .returned (.tuple #[.agg #[.int .i64 h, .int .u64 l], .bool true]) ∧ Below w.heap.size w w' := by
  have P127 : Hid (p2 127 = 170141183460469231731687303715884105728) := by rw [Hid]; decide
  have HA := hid ha
  clear ha
  have KS : Hid (∀ W1 W2 : World, Below W1.heap.size W1 W2 → (Below w.heap.size w W1 ∧ W1.cell? ⟨w.heap.size, 0, none⟩ = some (.bool (sg z)) ∧ W1.cell? ⟨w.heap.size, 1, none⟩ = some (.slice a l c)) → (Below w.heap.size w W2 ∧ W2.cell? ⟨w.heap.size, 0, none⟩ = some (.bool (sg z)) ∧ W2.cell? ⟨w.heap.size, 1, none⟩ = some (.slice a l c))) := fun W1 W2 hb ⟨h0, h1, h2⟩ => ⟨bthen h0 h0.size hb, cell_later hb h1, cell_later hb h2⟩
  go_enter Try.func43, Try.ntmps43
  go_upto_region 1 with fail
  obtain ⟨W, hW⟩ : ∃ W, W = (w.alloc (Obj.cells #[.bool (sg z), .slice a l c] 32)).alloc (Obj.cells #[.int .i64 0, .int .u64 0] 24) := ⟨_, rfl⟩
  rw [← hW]
  have S0 : Below w.heap.size w W ∧ W.cell? ⟨w.heap.size, 0, none⟩ = some (.bool (sg z)) ∧ W.cell? ⟨w.heap.size, 1, none⟩ = some (.slice a l c) := by rw [hW]; exact ⟨by go_grown, by simp [go_sem], by simp [go_sem]⟩
  have R0 : Hid (Two W (w.heap.size + 1) (.int .i64 0) (.int .u64 0)) := by rw [hW]; exact ⟨by simp [go_sem], by simp [go_sem], by simp [go_sem], by simp [go_sem]⟩
  have xW := S0.1
  have zW := xW.size
  have AW := hid (HA.out.later xW)
  clear hW
  have hc : cmpI z (p2 127) = -1 := cmpI_lt (by rw [P127.out]; omega)
  have hd : 0 ≤ cmpI z (-p2 127) := by rw [P127.out]; unfold cmpI; rw [if_neg (by omega)]; split <;> omega
  go_region_held3 (fun w' => Below w.heap.size w w' ∧ w'.cell? ⟨w.heap.size, 0, none⟩ = some (.bool (sg z)) ∧ w'.cell? ⟨w.heap.size, 1, none⟩ = some (.slice a l c))
    (first | exact KS.out _ _ hb5 (by assumption) | exact KS.out _ _ hb4 (by assumption) | exact KS.out _ _ hb3 (by assumption) | exact KS.out _ _ hb2 (by assumption) | exact KS.out _ _ hb1 (by assumption) | exact KS.out _ _ (Below.drew (Below.refl _ _)) (by assumption))
    (first
      | (go_at_call 17; have dummy := Q4; clear dummy; refine (bcmp_any (AW.out.later Y4) Q4.out (by omega) (by decide)).mono ?_; rintro e w5 ⟨rfl, hb5⟩; have S5 := KS.out _ _ hb5 (by assumption); have Y5 := bthen Y4 Y4.size hb5)
      | (go_at_call 45; refine (neg_any Q3.out).mono ?_; rintro e w4 ⟨rfl, q4, hb4⟩; have Y4 := bthen Y3 Y3.size hb4; have Q4 := hid q4; clear q4)
      | (go_at_call 34; have dummy := Y2; clear dummy; refine (pow2_lit 127 127 rfl (by decide) _).mono ?_; rintro e w3 ⟨a3, l3, c3, rfl, q3, hb3⟩; have Y3 := bthen Y2 Y2.size hb3; have Q3 := hid q3; clear q3)
      | (go_at_call 17; refine (bcmp_any (AW.out.later Y1) Q1.out (by omega) (by decide)).mono ?_; rintro e w2 ⟨rfl, hb2⟩; have Y2 := bthen Y1 Y1.size hb2)
      | (go_at_call 34; refine (pow2_lit 127 127 rfl (by decide) _).mono ?_; rintro e w1 ⟨a1, l1, c1, rfl, q1, hb1⟩; have Y1 := bthen (B := W.heap.size) (w := W) (by go_grown) (by go_size) hb1; have Q1 := hid q1; clear q1))
  have R5 := hid (two_later Y5 R0.out)
  obtain ⟨x5, t1, t2⟩ := S5
  have z5 := x5.size
  have A5 := hid (AW.out.later Y5)
  have TB := hid (And.intro t1 t2)
  have hsz : sg z = false := sg_pos g0
  clear S0 KS Y1 Y2 Y3 Y4 Y5 hb1 hb2 hb3 hb4 hb5 Q1 Q3 Q4 xW zW AW R0
  obtain ⟨ds, dg1, dg2, dg3, dg4, dg5⟩ := A5.out
  rw [ab_pos g0] at dg5
  have LW := words8 dg2 dg3 (by rw [dg5]; omega)
  rw [dg5] at LW
  have WW := sgn_is LW
  rw [show sgn z = z from (by unfold sgn; rw [if_pos (by omega)])] at WW
  have hlen : ds.length ≤ 1000000 := by have := canon8 dg2 dg3 (by rw [dg5]; omega); omega
  have DG := hid dg1
  clear dg1 A5
  obtain ⟨k0, k1, k2, k3, -⟩ := LW
  have WH := hid WW
  clear WW
  obtain ⟨hi, hhi⟩ : ∃ hi, Hid (hi = partW ds 4 0) := ⟨_, rfl⟩
  obtain ⟨lo, hlo⟩ : ∃ lo, Hid (lo = partW ds 0 0) := ⟨_, rfl⟩
  rw [← hhi.out] at WH k0 k1
  rw [← hlo.out] at WH k2 k3
  go_wp2_with fail
  refine (rword_lit DG.out dg2 hlen 4 4 rfl (by decide)).mono ?_
  rw [← hhi.out]
  rintro e w8 ⟨rfl, hb8⟩
  have x8 := bthen x5 x5.size hb8
  have z8 := x8.size
  go_wp2_with fail
  refine (rword_lit (DG.out.later hb8) dg2 hlen 0 0 rfl (by decide)).mono ?_
  rw [← hlo.out]
  rintro e w9 ⟨rfl, hb9⟩
  have x9 := bthen x8 x8.size hb9
  have z9 := x9.size
  obtain ⟨⟨r1, r2, r3, r4⟩, r5⟩ := two_later (bthen hb8 hb8.size hb9) R5.out.1
  clear hb8 hb9
  go_wp2_with fail
  refine bodyPost_ret (v := .tuple #[.agg #[.int .i64 (wrap64 hi), .int .u64 lo], .bool true]) (by simp [results, Try.results43, go_sem, *]) rfl ⟨_, _, WH.out, rfl, by go_grown⟩
set_option maxRecDepth 100000 in
set_option maxHeartbeats 2000000 in
theorem rwide_neg {n : Nat} {a : Option Addr} {l c : Nat} {z : Int} {w : World} (ha : BigIs n w (.slice a l c) z) (hn : n ≤ 5000000) (g0 : -170141183460469231731687303715884105728 ≤ z) (g1 : z < 0) :
    Calls Try.prog 43 #[.agg #[.bool (sg z), .slice a l c]] w fun e w' => ∃ h l : Int, WideIs h l z ∧ e = .returned (.tuple #[.agg #[.int .i64 h, .int .u64 l], .bool true]) ∧ Below w.heap.size w w' := by
  have P127 : Hid (p2 127 = 170141183460469231731687303715884105728) := by rw [Hid]; decide
  have HA := hid ha
  clear ha
  have KS : Hid (∀ W1 W2 : World, Below W1.heap.size W1 W2 → (Below w.heap.size w W1 ∧ W1.cell? ⟨w.heap.size, 0, none⟩ = some (.bool (sg z)) ∧ W1.cell? ⟨w.heap.size, 1, none⟩ = some (.slice a l c)) → (Below w.heap.size w W2 ∧ W2.cell? ⟨w.heap.size, 0, none⟩ = some (.bool (sg z)) ∧ W2.cell? ⟨w.heap.size, 1, none⟩ = some (.slice a l c))) := fun W1 W2 hb ⟨h0, h1, h2⟩ => ⟨bthen h0 h0.size hb, cell_later hb h1, cell_later hb h2⟩
  go_enter Try.func43, Try.ntmps43
  go_upto_region 1 with fail
  obtain ⟨W, hW⟩ : ∃ W, W = (w.alloc (Obj.cells #[.bool (sg z), .slice a l c] 32)).alloc (Obj.cells #[.int .i64 0, .int .u64 0] 24) := ⟨_, rfl⟩
  rw [← hW]
  have S0 : Below w.heap.size w W ∧ W.cell? ⟨w.heap.size, 0, none⟩ = some (.bool (sg z)) ∧ W.cell? ⟨w.heap.size, 1, none⟩ = some (.slice a l c) := by rw [hW]; exact ⟨by go_grown, by simp [go_sem], by simp [go_sem]⟩
  have R0 : Hid (Two W (w.heap.size + 1) (.int .i64 0) (.int .u64 0)) := by rw [hW]; exact ⟨by simp [go_sem], by simp [go_sem], by simp [go_sem], by simp [go_sem]⟩
  have xW := S0.1
  have zW := xW.size
  have AW := hid (HA.out.later xW)
  clear hW
  have hc : cmpI z (p2 127) = -1 := cmpI_lt (by rw [P127.out]; omega)
  have hd : 0 ≤ cmpI z (-p2 127) := by rw [P127.out]; unfold cmpI; rw [if_neg (by omega)]; split <;> omega
  go_region_held3 (fun w' => Below w.heap.size w w' ∧ w'.cell? ⟨w.heap.size, 0, none⟩ = some (.bool (sg z)) ∧ w'.cell? ⟨w.heap.size, 1, none⟩ = some (.slice a l c))
    (first | exact KS.out _ _ hb5 (by assumption) | exact KS.out _ _ hb4 (by assumption) | exact KS.out _ _ hb3 (by assumption) | exact KS.out _ _ hb2 (by assumption) | exact KS.out _ _ hb1 (by assumption) | exact KS.out _ _ (Below.drew (Below.refl _ _)) (by assumption))
    (first
      | (go_at_call 17; have dummy := Q4; clear dummy; refine (bcmp_any (AW.out.later Y4) Q4.out (by omega) (by decide)).mono ?_; rintro e w5 ⟨rfl, hb5⟩; have S5 := KS.out _ _ hb5 (by assumption); have Y5 := bthen Y4 Y4.size hb5)
      | (go_at_call 45; refine (neg_any Q3.out).mono ?_; rintro e w4 ⟨rfl, q4, hb4⟩; have Y4 := bthen Y3 Y3.size hb4; have Q4 := hid q4; clear q4)
      | (go_at_call 34; have dummy := Y2; clear dummy; refine (pow2_lit 127 127 rfl (by decide) _).mono ?_; rintro e w3 ⟨a3, l3, c3, rfl, q3, hb3⟩; have Y3 := bthen Y2 Y2.size hb3; have Q3 := hid q3; clear q3)
      | (go_at_call 17; refine (bcmp_any (AW.out.later Y1) Q1.out (by omega) (by decide)).mono ?_; rintro e w2 ⟨rfl, hb2⟩; have Y2 := bthen Y1 Y1.size hb2)
      | (go_at_call 34; refine (pow2_lit 127 127 rfl (by decide) _).mono ?_; rintro e w1 ⟨a1, l1, c1, rfl, q1, hb1⟩; have Y1 := bthen (B := W.heap.size) (w := W) (by go_grown) (by go_size) hb1; have Q1 := hid q1; clear q1))
  have R5 := hid (two_later Y5 R0.out)
  obtain ⟨x5, t1, t2⟩ := S5
  have z5 := x5.size
  have A5 := hid (AW.out.later Y5)
  have TB := hid (And.intro t1 t2)
  have hsz : sg z = true := sg_neg g1
  clear S0 KS Y1 Y2 Y3 Y4 Y5 hb1 hb2 hb3 hb4 hb5 Q1 Q3 Q4 xW zW AW R0
  have P128 : Hid (p2 128 = 340282366920938463463374607431768211456) := by rw [Hid]; decide
  have hn2 : -z < 340282366920938463463374607431768211456 := by omega
  have rf := run_field_big
  go_upto_region 5 with fail
  have KS2 : Hid (∀ W2 : World, Below w5.heap.size w5 W2 → (Below w5.heap.size w5 W2 ∧ W2.cell? ⟨w.heap.size, 0, none⟩ = some (.bool (sg z)) ∧ W2.cell? ⟨w.heap.size, 1, none⟩ = some (.slice a l c))) := fun W2 hb => ⟨hb, cell_later hb TB.out.1, cell_later hb TB.out.2⟩
  clear t1 t2
  have B5 : Hid (BigIs n w5 (.slice a l c) (-z)) := A5.out.opp
  have sb : Hid (sg (-z) = false) := sg_pos (by omega)
  go_region_held3 (fun w' => Below w5.heap.size w5 w' ∧ w'.cell? ⟨w.heap.size, 0, none⟩ = some (.bool (sg z)) ∧ w'.cell? ⟨w.heap.size, 1, none⟩ = some (.slice a l c))
    (exact KS2.out _ (by first | (go_grown; done) | fail))
    (first
      | (go_at_call 14; refine (bsub_sig Q6.out (B5.out.later Y6) rfl sb.out (by decide) (by omega)).mono ?_; rw [show p2 128 - -z = 340282366920938463463374607431768211456 + z from (by rw [P128.out]; omega)]; rintro e w7 ⟨a7, l7, c7, rfl, q7, hb7⟩; have Y7 := bthen Y6 Y6.size hb7; have Y7s := Y7.size; have Q7 := hid q7; clear q7)
      | (go_at_call 34; refine (pow2_lit 128 128 rfl (by decide) _).mono ?_; rintro e w6 ⟨a6, l6, c6, rfl, q6, hb6⟩; have Y6 := bthen (B := w5.heap.size) (w := w5) (by go_grown) (by go_size) hb6; have Y6s := Y6.size; have Q6 := hid q6; clear q6))
  obtain ⟨ds, dg1, dg2, dg3, dg4, dg5⟩ := Q7.out
  rw [ab_pos (by omega)] at dg5
  have LW := words8 dg2 dg3 (by rw [dg5]; omega)
  rw [dg5] at LW
  have WW := sgn_is LW
  rw [show sgn (340282366920938463463374607431768211456 + z) = z from (by unfold sgn; rw [if_neg (by omega)]; omega)] at WW
  have hlen : ds.length ≤ 1000000 := by have := canon8 dg2 dg3 (by rw [dg5]; omega); omega
  have DG := hid dg1
  have x7 := bthen x5 x5.size Y7
  have z7 := x7.size
  have R7 := hid (two_later Y7 R5.out.1)
  clear dg1 Q7 A5 B5 rf
  obtain ⟨k0, k1, k2, k3, -⟩ := LW
  have WH := hid WW
  clear WW
  obtain ⟨hi, hhi⟩ : ∃ hi, Hid (hi = partW ds 4 0) := ⟨_, rfl⟩
  obtain ⟨lo, hlo⟩ : ∃ lo, Hid (lo = partW ds 0 0) := ⟨_, rfl⟩
  rw [← hhi.out] at WH k0 k1
  rw [← hlo.out] at WH k2 k3
  go_wp2_with fail
  refine (rword_lit DG.out dg2 hlen 4 4 rfl (by decide)).mono ?_
  rw [← hhi.out]
  rintro e w8 ⟨rfl, hb8⟩
  have x8 := bthen x7 x7.size hb8
  have z8 := x8.size
  go_wp2_with fail
  refine (rword_lit (DG.out.later hb8) dg2 hlen 0 0 rfl (by decide)).mono ?_
  rw [← hlo.out]
  rintro e w9 ⟨rfl, hb9⟩
  have x9 := bthen x8 x8.size hb9
  have z9 := x9.size
  obtain ⟨⟨r1, r2, r3, r4⟩, r5⟩ := two_later (bthen hb8 hb8.size hb9) R7.out.1
  clear hb8 hb9
  go_wp2_with fail
  refine bodyPost_ret (v := .tuple #[.agg #[.int .i64 (wrap64 hi), .int .u64 lo], .bool true]) (by simp [results, Try.results43, go_sem, *]) rfl ⟨_, _, WH.out, rfl, by go_grown⟩

theorem rwide_any {n : Nat} {a : Option Addr} {l c : Nat} {z : Int} {w : World} (ha : BigIs n w (.slice a l c) z) (hn : n ≤ 5000000) :
    Calls Try.prog 43 #[.agg #[.bool (sg z), .slice a l c]] w fun e w' => ∃ h l : Int, WideIs h l (fitV z) ∧ e = .returned (.tuple #[.agg #[.int .i64 h, .int .u64 l], .bool (inW z)]) ∧ Below w.heap.size w w' := by
  by_cases g1 : 170141183460469231731687303715884105728 ≤ z
  · obtain ⟨e1, e2, -⟩ := inW_no (z := z) (by omega)
    rw [e1, e2]
    exact (rwide_over ha hn g1).mono fun e w' ⟨h1, h2⟩ => ⟨0, 0, wide_0, h1, h2⟩
  by_cases g2 : z < -170141183460469231731687303715884105728
  · obtain ⟨e1, e2, -⟩ := inW_no (z := z) (by omega)
    rw [e1, e2]
    exact (rwide_under ha hn g2).mono fun e w' ⟨h1, h2⟩ => ⟨0, 0, wide_0, h1, h2⟩
  obtain ⟨e1, e2, -⟩ := inW_yes (z := z) (by omega) (by omega)
  rw [e1, e2]
  by_cases g3 : z < 0
  · exact rwide_neg ha hn (by omega) g3
  · exact rwide_pos ha hn (by omega) (by omega)
end Go.Proofs.Ytlpenfganhaclaa
