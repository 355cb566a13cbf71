/-
  The contracts of the reference numbers' Cmp, Same, Add, Sub and Pow2. No conditions beside the memory's own.
-/
import Derived.Test.YtlpenfganhaclaaRefC
import Derived.Deep.DrawnRows
namespace Go.Proofs.Ytlpenfganhaclaa
open Go.RowKit

theorem cmpI_opp (x y : Int) : cmpI (-y) (-x) = cmpI x y := by
  unfold cmpI; split <;> split <;> (try split) <;> (try split) <;> omega

set_option maxRecDepth 100000 in
set_option maxHeartbeats 1000000 in
theorem bcmp_any {n m : Nat} {a a' : Option Addr} {l l' c c' : Nat} {x y : Int} {w : World} (ha : BigIs n w (.slice a l c) x) (hb : BigIs m w (.slice a' l' c') y) (hn : n ≤ 100000000) (hm : m ≤ 100000000) :
    Calls Try.prog 17 #[.agg #[.bool (sg x), .slice a l c], .agg #[.bool (sg y), .slice a' l' c']] w fun e w' => e = .returned (.int .i64 (cmpI x y)) ∧ Below w.heap.size w w' := by
  obtain ⟨xs, d1, d2, d3, d4, d5, rfl⟩ := ha.open
  obtain ⟨ys, k1, k2, k3, k4, k5, rfl⟩ := hb.open
  clear ha hb
  have D1 := hid d1
  have K1 := hid k1
  clear d1 k1
  by_cases g1 : x < 0
  · have s1 := sg_neg g1
    by_cases g2 : y < 0
    · have s2 := sg_neg g2
      have e0 : cmpI (val ys) (val xs) = cmpI x y := by rw [d5, k5, ab_neg g1, ab_neg g2, cmpI_opp]
      clear d5 k5
      go_enter Try.func17, Try.ntmps17
      go_wp2_with fail
      refine (cmps_any (K1.out.later (by go_grown)) (D1.out.later (by go_grown)) k2 d2 k3 d3 (by omega) (by omega)).mono ?_
      rintro e w1 ⟨rfl, hb1⟩
      have x1 := bthen (B := w.heap.size) (w := w) (by go_grown) (by go_size) hb1
      go_wp2_with fail
      go_ret
      exact ⟨by first | rfl | (rw [e0]; rfl), x1⟩
    · have s2 := sg_pos (z := y) (by omega)
      have e0 : cmpI x y = -1 := cmpI_lt (by omega)
      go_enter Try.func17, Try.ntmps17
      go_wp2
      go_ret
      exact ⟨by first | rfl | (rw [e0]; rfl), by go_grown⟩
  · have s1 := sg_pos (z := x) (by omega)
    by_cases g2 : y < 0
    · have s2 := sg_neg g2
      have e0 : cmpI x y = 1 := cmpI_gt (by omega)
      go_enter Try.func17, Try.ntmps17
      go_wp2
      go_ret
      exact ⟨by first | rfl | (rw [e0]; rfl), by go_grown⟩
    · have s2 := sg_pos (z := y) (by omega)
      have e0 : cmpI (val xs) (val ys) = cmpI x y := by rw [d5, k5, ab_pos (by omega), ab_pos (by omega)]
      clear d5 k5
      go_enter Try.func17, Try.ntmps17
      go_wp2_with fail
      refine (cmps_any (D1.out.later (by go_grown)) (K1.out.later (by go_grown)) d2 k2 d3 k3 (by omega) (by omega)).mono ?_
      rintro e w1 ⟨rfl, hb1⟩
      have x1 := bthen (B := w.heap.size) (w := w) (by go_grown) (by go_size) hb1
      go_wp2_with fail
      go_ret
      exact ⟨by first | rfl | (rw [e0]; rfl), x1⟩

theorem ab_sub1 {x y : Int} (h : (x < 0 ∧ 0 ≤ y) ∨ (0 ≤ x ∧ y < 0)) (g : ab y ≤ ab x) : ab (x + y) = ab x - ab y := by
  rcases h with ⟨h1, h2⟩ | ⟨h1, h2⟩
  · rw [ab_neg h1, ab_pos h2] at g ⊢
    by_cases e : x + y < 0
    · rw [ab_neg e]; omega
    · rw [ab_pos (by omega)]; omega
  · rw [ab_pos h1, ab_neg h2] at g ⊢
    rw [ab_pos (by omega)]; omega
theorem ab_sub2 {x y : Int} (h : (x < 0 ∧ 0 ≤ y) ∨ (0 ≤ x ∧ y < 0)) (g : ab x ≤ ab y) : ab (x + y) = ab y - ab x := by
  rw [Int.add_comm]
  exact ab_sub1 (by omega) g

/-- Are two the same? Under a name. -/
def eqI (x y : Int) : Bool := decide (x = y)
set_option maxHeartbeats 400000 in
theorem same_any {n m : Nat} {a a' : Option Addr} {l l' c c' : Nat} {x y : Int} {w : World} (ha : BigIs n w (.slice a l c) x) (hb : BigIs m w (.slice a' l' c') y) (hn : n ≤ 100000000) (hm : m ≤ 100000000) :
    Calls Try.prog 53 #[.agg #[.bool (sg x), .slice a l c], .agg #[.bool (sg y), .slice a' l' c']] w fun e w' => e = .returned (.bool (eqI x y)) ∧ Below w.heap.size w w' := by
  have e0 : (cmpI x y == 0) = eqI x y := by
    unfold eqI cmpI; rw [Bool.eq_iff_iff]; simp only [beq_iff_eq, decide_eq_true_eq]; split <;> (try split) <;> omega
  have HA := hid ha
  have HB := hid hb
  clear ha hb
  go_enter Try.func53, Try.ntmps53
  go_wp2_with fail
  refine (bcmp_any (HA.out.later (by go_grown)) (HB.out.later (by go_grown)) hn hm).mono ?_
  rintro e w1 ⟨rfl, hb1⟩
  have x1 := bthen (B := w.heap.size) (w := w) (by go_grown) (by go_size) hb1
  go_wp2_with fail
  go_ret
  exact ⟨by first | rfl | (rw [← e0]; rfl), x1⟩

attribute [local go_sem ↓] Go.wp_at_zero Go.wp_at_succ
set_option maxRecDepth 100000 in
set_option maxHeartbeats 1000000 in
theorem badd_same {n m : Nat} {a a' : Option Addr} {l l' c c' : Nat} {x y : Int} {w : World} (ha : BigIs n w (.slice a l c) x) (hb : BigIs m w (.slice a' l' c') y) (hn : n ≤ 10000000) (hm : m ≤ 10000000) (g : sg x = sg y) :
    Calls Try.prog 33 #[.agg #[.bool (sg x), .slice a l c], .agg #[.bool (sg y), .slice a' l' c']] w fun e w' =>
      ∃ b k d, e = .returned (.agg #[.bool (sg (x + y)), .slice b k d]) ∧ BigIs (max n m + 1) w' (.slice b k d) (x + y) ∧ Below w.heap.size w w' := by
  obtain ⟨xs, d1, d2, d3, d4, d5, rfl⟩ := ha.open
  obtain ⟨ys, k1, k2, k3, k4, k5, rfl⟩ := hb.open
  clear ha hb
  have D1 := hid d1
  have K1 := hid k1
  clear d1 k1
  have D5 := hid d5
  have K5 := hid k5
  clear d5 k5
  have s3 : sg (x + y) = sg y := by
    unfold sg at g ⊢; rw [decide_eq_decide] at g ⊢; omega
  have e0 : Hid (ab (x + y) = ab x + ab y) := by
    unfold sg at g; rw [decide_eq_decide] at g; show ab (x + y) = ab x + ab y; unfold ab; split <;> split <;> split <;> omega
  have KS : Hid (∀ W1 W2 : World, Below W1.heap.size W1 W2 → (Below w.heap.size w W1 ∧ W1.cell? ⟨w.heap.size, 0, none⟩ = some (.bool (sg y)) ∧ W1.cell? ⟨w.heap.size, 1, none⟩ = some (.slice a xs.length c) ∧ W1.cell? ⟨w.heap.size + 1, 1, none⟩ = some (.slice a' ys.length c')) → (Below w.heap.size w W2 ∧ W2.cell? ⟨w.heap.size, 0, none⟩ = some (.bool (sg y)) ∧ W2.cell? ⟨w.heap.size, 1, none⟩ = some (.slice a xs.length c) ∧ W2.cell? ⟨w.heap.size + 1, 1, none⟩ = some (.slice a' ys.length c'))) := fun W1 W2 hb ⟨h0, h1, h2, h3⟩ => ⟨bthen h0 h0.size hb, cell_later hb h1, cell_later hb h2, cell_later hb h3⟩
  go_enter Try.func33, Try.ntmps33
  go_wp2_with fail
  go_region_held3 (fun w' => Below w.heap.size w w' ∧ w'.cell? ⟨w.heap.size, 0, none⟩ = some (.bool (sg y)) ∧ w'.cell? ⟨w.heap.size, 1, none⟩ = some (.slice a xs.length c) ∧ w'.cell? ⟨w.heap.size + 1, 1, none⟩ = some (.slice a' ys.length c'))
    (first | exact KS.out _ _ hb1 (by assumption) | exact KS.out _ _ (Below.drew (Below.refl _ _)) (by assumption) | (refine ⟨by go_grown, ?_, ?_, ?_⟩ <;> simp [go_sem, *]))
    ((go_at_call 54; refine (adds_any (D1.out.later (by go_grown)) (K1.out.later (by go_grown)) d2 k2 (by omega) (by omega)).mono ?_; rintro e w1 ⟨v, zs, rfl, q1, q2, q3, q4, q5, hb1⟩; obtain ⟨b', c1, rfl⟩ := q1.form; have X1 := bthen (B := w.heap.size) (w := w) (by go_grown) (by go_size) hb1; have X1s := X1.size; obtain ⟨⟨r1, r2, r3, r4⟩, r5⟩ := two_later hb1 (b := w.heap.size + 1 + 1) (u := .bool false) (v := .slice none 0 0) ⟨by simp [go_sem], by simp [go_sem], by simp [go_sem], by simp [go_sem]⟩))
  have TW := hid (show Two w1 (w.heap.size + 1 + 1) (.bool false) (.slice none 0 0) from ⟨r1, r2, r3, r4⟩)
  have Q1 := hid q1
  clear q1 hb1
  go_wp2
  refine bodyPost_ret (v := .agg #[.bool (sg y), .slice b' zs.length c1]) (by simp [results, Try.results33, go_sem, *]) rfl ⟨_, _, _, by rw [s3], ?_, by go_grown⟩
  exact BigIs.put ⟨zs, Q1.out, q2, q3, by omega, by rw [q5, D5.out, K5.out, e0.out]⟩ TW.out (noInt_bool _) (noInt_slice _ _ _) _ _
set_option maxRecDepth 100000 in
set_option maxHeartbeats 1000000 in
theorem badd_np_gt {n m : Nat} {a a' : Option Addr} {l l' c c' : Nat} {x y : Int} {w : World} (ha : BigIs n w (.slice a l c) x) (hb : BigIs m w (.slice a' l' c') y) (hn : n ≤ 10000000) (hm : m ≤ 10000000) (g1 : x < 0) (g2 : 0 ≤ y) (g3 : ab y < ab x) :
    Calls Try.prog 33 #[.agg #[.bool (sg x), .slice a l c], .agg #[.bool (sg y), .slice a' l' c']] w fun e w' =>
      ∃ b k d, e = .returned (.agg #[.bool (sg (x + y)), .slice b k d]) ∧ BigIs (max n m + 1) w' (.slice b k d) (x + y) ∧ Below w.heap.size w w' := by
  obtain ⟨xs, d1, d2, d3, d4, d5, rfl⟩ := ha.open
  obtain ⟨ys, k1, k2, k3, k4, k5, rfl⟩ := hb.open
  clear ha hb
  have D1 := hid d1
  have K1 := hid k1
  clear d1 k1
  have D5 := hid d5
  have K5 := hid k5
  clear d5 k5
  have s1 := sg_neg g1
  have s2 := sg_pos g2
  have s3 := sg_neg (show x + y < 0 by rw [ab_neg g1, ab_pos g2] at g3; omega)
  have hcm : cmpI (val xs) (val ys) = 1 := cmpI_gt (by rw [D5.out, K5.out]; exact g3)
  have hvv : Hid (val ys ≤ val xs) := by rw [Hid, D5.out, K5.out]; omega
  have e0 : Hid (ab (x + y) = ab x - ab y) := ab_sub1 (by omega) (by omega)
  clear g3
  go_enter Try.func33, Try.ntmps33
  go_wp2_with fail
  refine (cmps_any (D1.out.later (by go_grown)) (K1.out.later (by go_grown)) d2 k2 d3 k3 (by omega) (by omega)).mono ?_
  rintro e w1 ⟨rfl, hb1⟩
  obtain ⟨⟨p1, p2, p3, p4⟩, p5⟩ := two_later hb1 (b := w.heap.size) (u := .bool true) (v := .slice a xs.length c) ⟨by simp [go_sem], by simp [go_sem], by simp [go_sem], by simp [go_sem]⟩
  obtain ⟨⟨t1, t2, t3, t4⟩, t5⟩ := two_later hb1 (b := w.heap.size + 1) (u := .bool false) (v := .slice a' ys.length c') ⟨by simp [go_sem], by simp [go_sem], by simp [go_sem], by simp [go_sem]⟩
  obtain ⟨⟨r1, r2, r3, r4⟩, r5⟩ := two_later hb1 (b := w.heap.size + 1 + 1) (u := .bool false) (v := .slice none 0 0) ⟨by simp [go_sem], by simp [go_sem], by simp [go_sem], by simp [go_sem]⟩
  have x1 := bthen (B := w.heap.size) (w := w) (by go_grown) (by go_size) hb1
  have z1 := x1.size
  have D1' := hid (D1.out.later x1)
  have K1' := hid (K1.out.later x1)
  clear hb1
  go_wp2_with fail
  refine (subs_any D1'.out K1'.out d2 k2 (by omega) (len_le_of_val k2 d2 k3 hvv.out) hvv.out).mono ?_
  rintro e w2 ⟨v, zs, rfl, q1, q2, q3, q4, q5, hb2⟩
  obtain ⟨b', c1, rfl⟩ := q1.form
  have HV : Hid (val zs = ab (x + y)) := by rw [Hid, q5, D5.out, K5.out, e0.out]
  clear q5
  have hlz : 0 < zs.length := by
    apply List.length_pos_iff.2; intro e; have h9 := HV.out; rw [e, ab_neg (show x + y < 0 by unfold sg at s3; simpa using s3)] at h9; simp only [val] at h9; have h8 : x + y < 0 := by unfold sg at s3; simpa using s3
    omega
  obtain ⟨⟨a1, a2, a3, a4⟩, a5⟩ := two_later hb2 (b := w.heap.size) (u := .bool true) (v := .slice a xs.length c) ⟨by simp [go_sem, *], by simp [go_sem, *], by simp [go_sem, *], by simp [go_sem, *]⟩
  obtain ⟨⟨b1, b2, b3, b4⟩, b5⟩ := two_later hb2 (b := w.heap.size + 1 + 1) (u := .bool false) (v := .slice none 0 0) ⟨by simp [go_sem, *], by simp [go_sem, *], by simp [go_sem, *], by simp [go_sem, *]⟩
  have x2 := bthen (B := w.heap.size) (w := w) (by go_grown) (by go_size) hb2
  have z2 := x2.size
  have TW := hid (show Two w2 (w.heap.size + 1 + 1) (.bool false) (.slice none 0 0) from ⟨b1, b2, b3, b4⟩)
  have Q1 := hid q1
  clear q1 hb2 p1 p2 p3 p4 p5 t1 t2 t3 t4 t5 r1 r2 r3 r4 r5
  have hlz' : (0 : Int) < (zs.length : Int) := by omega
  go_wp2_with fail
  refine bodyPost_ret (v := .agg #[.bool true, .slice b' zs.length c1]) (by simp [results, Try.results33, go_sem, *]) rfl ⟨_, _, _, by rw [s3], ?_, by go_grown⟩
  exact BigIs.put ⟨zs, Q1.out, q2, q3, by omega, HV.out⟩ TW.out (noInt_bool _) (noInt_slice _ _ _) _ _
set_option maxRecDepth 100000 in
set_option maxHeartbeats 1000000 in
theorem badd_np_eq {n m : Nat} {a a' : Option Addr} {l l' c c' : Nat} {x y : Int} {w : World} (ha : BigIs n w (.slice a l c) x) (hb : BigIs m w (.slice a' l' c') y) (hn : n ≤ 10000000) (hm : m ≤ 10000000) (g1 : x < 0) (g2 : 0 ≤ y) (g3 : ab x = ab y) :
    Calls Try.prog 33 #[.agg #[.bool (sg x), .slice a l c], .agg #[.bool (sg y), .slice a' l' c']] w fun e w' =>
      ∃ b k d, e = .returned (.agg #[.bool (sg (x + y)), .slice b k d]) ∧ BigIs (max n m + 1) w' (.slice b k d) (x + y) ∧ Below w.heap.size w w' := by
  obtain ⟨xs, d1, d2, d3, d4, d5, rfl⟩ := ha.open
  obtain ⟨ys, k1, k2, k3, k4, k5, rfl⟩ := hb.open
  clear ha hb
  have D1 := hid d1
  have K1 := hid k1
  clear d1 k1
  have D5 := hid d5
  have K5 := hid k5
  clear d5 k5
  have s1 := sg_neg g1
  have s2 := sg_pos g2
  have s3 := sg_pos (show 0 ≤ x + y by rw [ab_neg g1, ab_pos g2] at g3; omega)
  have hxy : x + y = 0 := by rw [ab_neg g1, ab_pos g2] at g3; omega
  have HXY := hid hxy
  clear hxy
  have hcm : cmpI (val xs) (val ys) = 0 := cmpI_eq (by rw [D5.out, K5.out]; exact g3)
  have hvv : Hid (val ys ≤ val xs) := by rw [Hid, D5.out, K5.out]; omega
  have e0 : Hid (ab (x + y) = ab x - ab y) := ab_sub1 (by omega) (by omega)
  clear g3
  go_enter Try.func33, Try.ntmps33
  go_wp2_with fail
  refine (cmps_any (D1.out.later (by go_grown)) (K1.out.later (by go_grown)) d2 k2 d3 k3 (by omega) (by omega)).mono ?_
  rintro e w1 ⟨rfl, hb1⟩
  obtain ⟨⟨p1, p2, p3, p4⟩, p5⟩ := two_later hb1 (b := w.heap.size) (u := .bool true) (v := .slice a xs.length c) ⟨by simp [go_sem], by simp [go_sem], by simp [go_sem], by simp [go_sem]⟩
  obtain ⟨⟨t1, t2, t3, t4⟩, t5⟩ := two_later hb1 (b := w.heap.size + 1) (u := .bool false) (v := .slice a' ys.length c') ⟨by simp [go_sem], by simp [go_sem], by simp [go_sem], by simp [go_sem]⟩
  obtain ⟨⟨r1, r2, r3, r4⟩, r5⟩ := two_later hb1 (b := w.heap.size + 1 + 1) (u := .bool false) (v := .slice none 0 0) ⟨by simp [go_sem], by simp [go_sem], by simp [go_sem], by simp [go_sem]⟩
  have x1 := bthen (B := w.heap.size) (w := w) (by go_grown) (by go_size) hb1
  have z1 := x1.size
  have D1' := hid (D1.out.later x1)
  have K1' := hid (K1.out.later x1)
  clear hb1
  go_wp2_with fail
  refine (subs_any D1'.out K1'.out d2 k2 (by omega) (len_le_of_val k2 d2 k3 hvv.out) hvv.out).mono ?_
  rintro e w2 ⟨v, zs, rfl, q1, q2, q3, q4, q5, hb2⟩
  obtain ⟨b', c1, rfl⟩ := q1.form
  have HV : Hid (val zs = ab (x + y)) := by rw [Hid, q5, D5.out, K5.out, e0.out]
  clear q5
  have hlz : zs = [] := (canon_zero q2 q3).1 (by rw [HV.out, HXY.out]; rfl)
  obtain ⟨⟨a1, a2, a3, a4⟩, a5⟩ := two_later hb2 (b := w.heap.size) (u := .bool true) (v := .slice a xs.length c) ⟨by simp [go_sem, *], by simp [go_sem, *], by simp [go_sem, *], by simp [go_sem, *]⟩
  obtain ⟨⟨b1, b2, b3, b4⟩, b5⟩ := two_later hb2 (b := w.heap.size + 1 + 1) (u := .bool false) (v := .slice none 0 0) ⟨by simp [go_sem, *], by simp [go_sem, *], by simp [go_sem, *], by simp [go_sem, *]⟩
  have x2 := bthen (B := w.heap.size) (w := w) (by go_grown) (by go_size) hb2
  have z2 := x2.size
  have TW := hid (show Two w2 (w.heap.size + 1 + 1) (.bool false) (.slice none 0 0) from ⟨b1, b2, b3, b4⟩)
  have Q1 := hid q1
  clear q1 hb2 p1 p2 p3 p4 p5 t1 t2 t3 t4 t5 r1 r2 r3 r4 r5
  have LZ := hid hlz
  have hl0 : zs.length = 0 := by rw [hlz]; rfl
  have Q0 : Hid (Digs w2 (.slice b' 0 c1) zs) := by have h := Q1.out; rw [hl0] at h; exact h
  clear hlz
  go_wp2_with fail
  refine bodyPost_ret (v := .agg #[.bool false, .slice b' 0 c1]) (by simp [results, Try.results33, go_sem, *]) rfl ⟨_, _, _, by rw [s3], ?_, by go_grown⟩
  exact BigIs.put ⟨zs, Q0.out, q2, q3, by omega, HV.out⟩ TW.out (noInt_bool _) (noInt_slice _ _ _) _ _
set_option maxRecDepth 100000 in
set_option maxHeartbeats 1000000 in
theorem badd_np_lt {n m : Nat} {a a' : Option Addr} {l l' c c' : Nat} {x y : Int} {w : World} (ha : BigIs n w (.slice a l c) x) (hb : BigIs m w (.slice a' l' c') y) (hn : n ≤ 10000000) (hm : m ≤ 10000000) (g1 : x < 0) (g2 : 0 ≤ y) (g3 : ab x < ab y) :
    Calls Try.prog 33 #[.agg #[.bool (sg x), .slice a l c], .agg #[.bool (sg y), .slice a' l' c']] w fun e w' =>
      ∃ b k d, e = .returned (.agg #[.bool (sg (x + y)), .slice b k d]) ∧ BigIs (max n m + 1) w' (.slice b k d) (x + y) ∧ Below w.heap.size w w' := by
  obtain ⟨xs, d1, d2, d3, d4, d5, rfl⟩ := ha.open
  obtain ⟨ys, k1, k2, k3, k4, k5, rfl⟩ := hb.open
  clear ha hb
  have D1 := hid d1
  have K1 := hid k1
  clear d1 k1
  have D5 := hid d5
  have K5 := hid k5
  clear d5 k5
  have s1 := sg_neg g1
  have s2 := sg_pos g2
  have s3 := sg_pos (show 0 ≤ x + y by rw [ab_neg g1, ab_pos g2] at g3; omega)
  have hcm : cmpI (val xs) (val ys) = -1 := cmpI_lt (by rw [D5.out, K5.out]; exact g3)
  have hvv : Hid (val xs ≤ val ys) := by rw [Hid, D5.out, K5.out]; omega
  have e0 : Hid (ab (x + y) = ab y - ab x) := ab_sub2 (by omega) (by omega)
  clear g3
  go_enter Try.func33, Try.ntmps33
  go_wp2_with fail
  refine (cmps_any (D1.out.later (by go_grown)) (K1.out.later (by go_grown)) d2 k2 d3 k3 (by omega) (by omega)).mono ?_
  rintro e w1 ⟨rfl, hb1⟩
  obtain ⟨⟨p1, p2, p3, p4⟩, p5⟩ := two_later hb1 (b := w.heap.size) (u := .bool true) (v := .slice a xs.length c) ⟨by simp [go_sem], by simp [go_sem], by simp [go_sem], by simp [go_sem]⟩
  obtain ⟨⟨t1, t2, t3, t4⟩, t5⟩ := two_later hb1 (b := w.heap.size + 1) (u := .bool false) (v := .slice a' ys.length c') ⟨by simp [go_sem], by simp [go_sem], by simp [go_sem], by simp [go_sem]⟩
  obtain ⟨⟨r1, r2, r3, r4⟩, r5⟩ := two_later hb1 (b := w.heap.size + 1 + 1) (u := .bool false) (v := .slice none 0 0) ⟨by simp [go_sem], by simp [go_sem], by simp [go_sem], by simp [go_sem]⟩
  have x1 := bthen (B := w.heap.size) (w := w) (by go_grown) (by go_size) hb1
  have z1 := x1.size
  have D1' := hid (D1.out.later x1)
  have K1' := hid (K1.out.later x1)
  have TA := hid (show Two w1 w.heap.size (.bool true) (.slice a xs.length c) from ⟨p1, p2, p3, p4⟩)
  have D2 := hid ((D1'.out.put TA.out (noInt_bool _) (noInt_slice _ _ _) (.bool false) (.slice a' ys.length c')))
  have K2 := hid ((K1'.out.put TA.out (noInt_bool _) (noInt_slice _ _ _) (.bool false) (.slice a' ys.length c')))
  have TB : Hid (Two ((w1.setCell ⟨w.heap.size, 0, none⟩ (.bool false)).setCell ⟨w.heap.size, 1, none⟩ (.slice a' ys.length c')) (w.heap.size + 1) (.bool false) (.slice a' ys.length c')) := ⟨by simp [go_sem, *], by simp [go_sem, *], by simp [go_sem, *], by simp [go_sem, *]⟩
  have D3 := hid (D2.out.put TB.out (noInt_bool _) (noInt_slice _ _ _) (.bool true) (.slice a xs.length c))
  have K3 := hid (K2.out.put TB.out (noInt_bool _) (noInt_slice _ _ _) (.bool true) (.slice a xs.length c))
  clear hb1
  go_wp2_with fail
  refine (subs_any K3.out D3.out k2 d2 (by omega) (len_le_of_val d2 k2 d3 hvv.out) hvv.out).mono ?_
  rintro e w2 ⟨v, zs, rfl, q1, q2, q3, q4, q5, hb2⟩
  obtain ⟨b', c1, rfl⟩ := q1.form
  have HV : Hid (val zs = ab (x + y)) := by rw [Hid, q5, D5.out, K5.out, e0.out]
  clear q5
  obtain ⟨⟨a1, a2, a3, a4⟩, a5⟩ := two_later hb2 (b := w.heap.size) (u := .bool false) (v := .slice a' ys.length c') ⟨by simp [go_sem, *], by simp [go_sem, *], by simp [go_sem, *], by simp [go_sem, *]⟩
  obtain ⟨⟨b1, b2, b3, b4⟩, b5⟩ := two_later hb2 (b := w.heap.size + 1 + 1) (u := .bool false) (v := .slice none 0 0) ⟨by simp [go_sem, *], by simp [go_sem, *], by simp [go_sem, *], by simp [go_sem, *]⟩
  have x2 := bthen (B := w.heap.size) (w := w) (by go_grown) (by go_size) hb2
  have z2 := x2.size
  have TW := hid (show Two w2 (w.heap.size + 1 + 1) (.bool false) (.slice none 0 0) from ⟨b1, b2, b3, b4⟩)
  have Q1 := hid q1
  clear q1 hb2 p1 p2 p3 p4 p5 t1 t2 t3 t4 t5 r1 r2 r3 r4 r5
  go_wp2_with fail
  refine bodyPost_ret (v := .agg #[.bool false, .slice b' zs.length c1]) (by simp [results, Try.results33, go_sem, *]) rfl ⟨_, _, _, by rw [s3], ?_, by go_grown⟩
  exact BigIs.put ⟨zs, Q1.out, q2, q3, by omega, HV.out⟩ TW.out (noInt_bool _) (noInt_slice _ _ _) _ _
set_option maxRecDepth 100000 in
set_option maxHeartbeats 1000000 in
theorem badd_pn_gt {n m : Nat} {a a' : Option Addr} {l l' c c' : Nat} {x y : Int} {w : World} (ha : BigIs n w (.slice a l c) x) (hb : BigIs m w (.slice a' l' c') y) (hn : n ≤ 10000000) (hm : m ≤ 10000000) (g1 : 0 ≤ x) (g2 : y < 0) (g3 : ab y < ab x) :
    Calls Try.prog 33 #[.agg #[.bool (sg x), .slice a l c], .agg #[.bool (sg y), .slice a' l' c']] w fun e w' =>
      ∃ b k d, e = .returned (.agg #[.bool (sg (x + y)), .slice b k d]) ∧ BigIs (max n m + 1) w' (.slice b k d) (x + y) ∧ Below w.heap.size w w' := by
  obtain ⟨xs, d1, d2, d3, d4, d5, rfl⟩ := ha.open
  obtain ⟨ys, k1, k2, k3, k4, k5, rfl⟩ := hb.open
  clear ha hb
  have D1 := hid d1
  have K1 := hid k1
  clear d1 k1
  have D5 := hid d5
  have K5 := hid k5
  clear d5 k5
  have s1 := sg_pos g1
  have s2 := sg_neg g2
  have s3 := sg_pos (show 0 ≤ x + y by rw [ab_neg g2, ab_pos (by omega)] at g3; omega)
  have hcm : cmpI (val xs) (val ys) = 1 := cmpI_gt (by rw [D5.out, K5.out]; exact g3)
  have hvv : Hid (val ys ≤ val xs) := by rw [Hid, D5.out, K5.out]; omega
  have e0 : Hid (ab (x + y) = ab x - ab y) := ab_sub1 (by omega) (by omega)
  clear g3
  go_enter Try.func33, Try.ntmps33
  go_wp2_with fail
  refine (cmps_any (D1.out.later (by go_grown)) (K1.out.later (by go_grown)) d2 k2 d3 k3 (by omega) (by omega)).mono ?_
  rintro e w1 ⟨rfl, hb1⟩
  obtain ⟨⟨p1, p2, p3, p4⟩, p5⟩ := two_later hb1 (b := w.heap.size) (u := .bool false) (v := .slice a xs.length c) ⟨by simp [go_sem], by simp [go_sem], by simp [go_sem], by simp [go_sem]⟩
  obtain ⟨⟨t1, t2, t3, t4⟩, t5⟩ := two_later hb1 (b := w.heap.size + 1) (u := .bool true) (v := .slice a' ys.length c') ⟨by simp [go_sem], by simp [go_sem], by simp [go_sem], by simp [go_sem]⟩
  obtain ⟨⟨r1, r2, r3, r4⟩, r5⟩ := two_later hb1 (b := w.heap.size + 1 + 1) (u := .bool false) (v := .slice none 0 0) ⟨by simp [go_sem], by simp [go_sem], by simp [go_sem], by simp [go_sem]⟩
  have x1 := bthen (B := w.heap.size) (w := w) (by go_grown) (by go_size) hb1
  have z1 := x1.size
  have D1' := hid (D1.out.later x1)
  have K1' := hid (K1.out.later x1)
  clear hb1
  go_wp2_with fail
  refine (subs_any D1'.out K1'.out d2 k2 (by omega) (len_le_of_val k2 d2 k3 hvv.out) hvv.out).mono ?_
  rintro e w2 ⟨v, zs, rfl, q1, q2, q3, q4, q5, hb2⟩
  obtain ⟨b', c1, rfl⟩ := q1.form
  have HV : Hid (val zs = ab (x + y)) := by rw [Hid, q5, D5.out, K5.out, e0.out]
  clear q5
  obtain ⟨⟨a1, a2, a3, a4⟩, a5⟩ := two_later hb2 (b := w.heap.size) (u := .bool false) (v := .slice a xs.length c) ⟨by simp [go_sem, *], by simp [go_sem, *], by simp [go_sem, *], by simp [go_sem, *]⟩
  obtain ⟨⟨b1, b2, b3, b4⟩, b5⟩ := two_later hb2 (b := w.heap.size + 1 + 1) (u := .bool false) (v := .slice none 0 0) ⟨by simp [go_sem, *], by simp [go_sem, *], by simp [go_sem, *], by simp [go_sem, *]⟩
  have x2 := bthen (B := w.heap.size) (w := w) (by go_grown) (by go_size) hb2
  have z2 := x2.size
  have TW := hid (show Two w2 (w.heap.size + 1 + 1) (.bool false) (.slice none 0 0) from ⟨b1, b2, b3, b4⟩)
  have Q1 := hid q1
  clear q1 hb2 p1 p2 p3 p4 p5 t1 t2 t3 t4 t5 r1 r2 r3 r4 r5
  go_wp2_with fail
  refine bodyPost_ret (v := .agg #[.bool false, .slice b' zs.length c1]) (by simp [results, Try.results33, go_sem, *]) rfl ⟨_, _, _, by rw [s3], ?_, by go_grown⟩
  exact BigIs.put ⟨zs, Q1.out, q2, q3, by omega, HV.out⟩ TW.out (noInt_bool _) (noInt_slice _ _ _) _ _
set_option maxRecDepth 100000 in
set_option maxHeartbeats 1000000 in
theorem badd_pn_eq {n m : Nat} {a a' : Option Addr} {l l' c c' : Nat} {x y : Int} {w : World} (ha : BigIs n w (.slice a l c) x) (hb : BigIs m w (.slice a' l' c') y) (hn : n ≤ 10000000) (hm : m ≤ 10000000) (g1 : 0 ≤ x) (g2 : y < 0) (g3 : ab x = ab y) :
    Calls Try.prog 33 #[.agg #[.bool (sg x), .slice a l c], .agg #[.bool (sg y), .slice a' l' c']] w fun e w' =>
      ∃ b k d, e = .returned (.agg #[.bool (sg (x + y)), .slice b k d]) ∧ BigIs (max n m + 1) w' (.slice b k d) (x + y) ∧ Below w.heap.size w w' := by
  obtain ⟨xs, d1, d2, d3, d4, d5, rfl⟩ := ha.open
  obtain ⟨ys, k1, k2, k3, k4, k5, rfl⟩ := hb.open
  clear ha hb
  have D1 := hid d1
  have K1 := hid k1
  clear d1 k1
  have D5 := hid d5
  have K5 := hid k5
  clear d5 k5
  have s1 := sg_pos g1
  have s2 := sg_neg g2
  have s3 := sg_pos (show 0 ≤ x + y by rw [ab_neg g2, ab_pos (by omega)] at g3; omega)
  have hxy : x + y = 0 := by rw [ab_neg g2, ab_pos (by omega)] at g3; omega
  have HXY := hid hxy
  clear hxy
  have hcm : cmpI (val xs) (val ys) = 0 := cmpI_eq (by rw [D5.out, K5.out]; exact g3)
  have hvv : Hid (val ys ≤ val xs) := by rw [Hid, D5.out, K5.out]; omega
  have e0 : Hid (ab (x + y) = ab x - ab y) := ab_sub1 (by omega) (by omega)
  clear g3
  go_enter Try.func33, Try.ntmps33
  go_wp2_with fail
  refine (cmps_any (D1.out.later (by go_grown)) (K1.out.later (by go_grown)) d2 k2 d3 k3 (by omega) (by omega)).mono ?_
  rintro e w1 ⟨rfl, hb1⟩
  obtain ⟨⟨p1, p2, p3, p4⟩, p5⟩ := two_later hb1 (b := w.heap.size) (u := .bool false) (v := .slice a xs.length c) ⟨by simp [go_sem], by simp [go_sem], by simp [go_sem], by simp [go_sem]⟩
  obtain ⟨⟨t1, t2, t3, t4⟩, t5⟩ := two_later hb1 (b := w.heap.size + 1) (u := .bool true) (v := .slice a' ys.length c') ⟨by simp [go_sem], by simp [go_sem], by simp [go_sem], by simp [go_sem]⟩
  obtain ⟨⟨r1, r2, r3, r4⟩, r5⟩ := two_later hb1 (b := w.heap.size + 1 + 1) (u := .bool false) (v := .slice none 0 0) ⟨by simp [go_sem], by simp [go_sem], by simp [go_sem], by simp [go_sem]⟩
  have x1 := bthen (B := w.heap.size) (w := w) (by go_grown) (by go_size) hb1
  have z1 := x1.size
  have D1' := hid (D1.out.later x1)
  have K1' := hid (K1.out.later x1)
  clear hb1
  go_wp2_with fail
  refine (subs_any D1'.out K1'.out d2 k2 (by omega) (len_le_of_val k2 d2 k3 hvv.out) hvv.out).mono ?_
  rintro e w2 ⟨v, zs, rfl, q1, q2, q3, q4, q5, hb2⟩
  obtain ⟨b', c1, rfl⟩ := q1.form
  have HV : Hid (val zs = ab (x + y)) := by rw [Hid, q5, D5.out, K5.out, e0.out]
  clear q5
  have hlz : zs = [] := (canon_zero q2 q3).1 (by rw [HV.out, HXY.out]; rfl)
  obtain ⟨⟨a1, a2, a3, a4⟩, a5⟩ := two_later hb2 (b := w.heap.size) (u := .bool false) (v := .slice a xs.length c) ⟨by simp [go_sem, *], by simp [go_sem, *], by simp [go_sem, *], by simp [go_sem, *]⟩
  obtain ⟨⟨b1, b2, b3, b4⟩, b5⟩ := two_later hb2 (b := w.heap.size + 1 + 1) (u := .bool false) (v := .slice none 0 0) ⟨by simp [go_sem, *], by simp [go_sem, *], by simp [go_sem, *], by simp [go_sem, *]⟩
  have x2 := bthen (B := w.heap.size) (w := w) (by go_grown) (by go_size) hb2
  have z2 := x2.size
  have TW := hid (show Two w2 (w.heap.size + 1 + 1) (.bool false) (.slice none 0 0) from ⟨b1, b2, b3, b4⟩)
  have Q1 := hid q1
  clear q1 hb2 p1 p2 p3 p4 p5 t1 t2 t3 t4 t5 r1 r2 r3 r4 r5
  have LZ := hid hlz
  have hl0 : zs.length = 0 := by rw [hlz]; rfl
  have Q0 : Hid (Digs w2 (.slice b' 0 c1) zs) := by have h := Q1.out; rw [hl0] at h; exact h
  clear hlz
  go_wp2_with fail
  refine bodyPost_ret (v := .agg #[.bool false, .slice b' 0 c1]) (by simp [results, Try.results33, go_sem, *]) rfl ⟨_, _, _, by rw [s3], ?_, by go_grown⟩
  exact BigIs.put ⟨zs, Q0.out, q2, q3, by omega, HV.out⟩ TW.out (noInt_bool _) (noInt_slice _ _ _) _ _
set_option maxRecDepth 100000 in
set_option maxHeartbeats 1000000 in
theorem badd_pn_lt {n m : Nat} {a a' : Option Addr} {l l' c c' : Nat} {x y : Int} {w : World} (ha : BigIs n w (.slice a l c) x) (hb : BigIs m w (.slice a' l' c') y) (hn : n ≤ 10000000) (hm : m ≤ 10000000) (g1 : 0 ≤ x) (g2 : y < 0) (g3 : ab x < ab y) :
    Calls Try.prog 33 #[.agg #[.bool (sg x), .slice a l c], .agg #[.bool (sg y), .slice a' l' c']] w fun e w' =>
      ∃ b k d, e = .returned (.agg #[.bool (sg (x + y)), .slice b k d]) ∧ BigIs (max n m + 1) w' (.slice b k d) (x + y) ∧ Below w.heap.size w w' := by
  obtain ⟨xs, d1, d2, d3, d4, d5, rfl⟩ := ha.open
  obtain ⟨ys, k1, k2, k3, k4, k5, rfl⟩ := hb.open
  clear ha hb
  have D1 := hid d1
  have K1 := hid k1
  clear d1 k1
  have D5 := hid d5
  have K5 := hid k5
  clear d5 k5
  have s1 := sg_pos g1
  have s2 := sg_neg g2
  have s3 := sg_neg (show x + y < 0 by rw [ab_neg g2, ab_pos (by omega)] at g3; omega)
  have hcm : cmpI (val xs) (val ys) = -1 := cmpI_lt (by rw [D5.out, K5.out]; exact g3)
  have hvv : Hid (val xs ≤ val ys) := by rw [Hid, D5.out, K5.out]; omega
  have e0 : Hid (ab (x + y) = ab y - ab x) := ab_sub2 (by omega) (by omega)
  clear g3
  go_enter Try.func33, Try.ntmps33
  go_wp2_with fail
  refine (cmps_any (D1.out.later (by go_grown)) (K1.out.later (by go_grown)) d2 k2 d3 k3 (by omega) (by omega)).mono ?_
  rintro e w1 ⟨rfl, hb1⟩
  obtain ⟨⟨p1, p2, p3, p4⟩, p5⟩ := two_later hb1 (b := w.heap.size) (u := .bool false) (v := .slice a xs.length c) ⟨by simp [go_sem], by simp [go_sem], by simp [go_sem], by simp [go_sem]⟩
  obtain ⟨⟨t1, t2, t3, t4⟩, t5⟩ := two_later hb1 (b := w.heap.size + 1) (u := .bool true) (v := .slice a' ys.length c') ⟨by simp [go_sem], by simp [go_sem], by simp [go_sem], by simp [go_sem]⟩
  obtain ⟨⟨r1, r2, r3, r4⟩, r5⟩ := two_later hb1 (b := w.heap.size + 1 + 1) (u := .bool false) (v := .slice none 0 0) ⟨by simp [go_sem], by simp [go_sem], by simp [go_sem], by simp [go_sem]⟩
  have x1 := bthen (B := w.heap.size) (w := w) (by go_grown) (by go_size) hb1
  have z1 := x1.size
  have D1' := hid (D1.out.later x1)
  have K1' := hid (K1.out.later x1)
  have TA := hid (show Two w1 w.heap.size (.bool false) (.slice a xs.length c) from ⟨p1, p2, p3, p4⟩)
  have D2 := hid ((D1'.out.put TA.out (noInt_bool _) (noInt_slice _ _ _) (.bool true) (.slice a' ys.length c')))
  have K2 := hid ((K1'.out.put TA.out (noInt_bool _) (noInt_slice _ _ _) (.bool true) (.slice a' ys.length c')))
  have TB : Hid (Two ((w1.setCell ⟨w.heap.size, 0, none⟩ (.bool true)).setCell ⟨w.heap.size, 1, none⟩ (.slice a' ys.length c')) (w.heap.size + 1) (.bool true) (.slice a' ys.length c')) := ⟨by simp [go_sem, *], by simp [go_sem, *], by simp [go_sem, *], by simp [go_sem, *]⟩
  have D3 := hid (D2.out.put TB.out (noInt_bool _) (noInt_slice _ _ _) (.bool false) (.slice a xs.length c))
  have K3 := hid (K2.out.put TB.out (noInt_bool _) (noInt_slice _ _ _) (.bool false) (.slice a xs.length c))
  clear hb1
  go_wp2_with fail
  refine (subs_any K3.out D3.out k2 d2 (by omega) (len_le_of_val d2 k2 d3 hvv.out) hvv.out).mono ?_
  rintro e w2 ⟨v, zs, rfl, q1, q2, q3, q4, q5, hb2⟩
  obtain ⟨b', c1, rfl⟩ := q1.form
  have HV : Hid (val zs = ab (x + y)) := by rw [Hid, q5, D5.out, K5.out, e0.out]
  clear q5
  have hlz : 0 < zs.length := by
    apply List.length_pos_iff.2; intro e; have h9 := HV.out; rw [e, ab_neg (show x + y < 0 by unfold sg at s3; simpa using s3)] at h9; simp only [val] at h9; have h8 : x + y < 0 := by unfold sg at s3; simpa using s3
    omega
  obtain ⟨⟨a1, a2, a3, a4⟩, a5⟩ := two_later hb2 (b := w.heap.size) (u := .bool true) (v := .slice a' ys.length c') ⟨by simp [go_sem, *], by simp [go_sem, *], by simp [go_sem, *], by simp [go_sem, *]⟩
  obtain ⟨⟨b1, b2, b3, b4⟩, b5⟩ := two_later hb2 (b := w.heap.size + 1 + 1) (u := .bool false) (v := .slice none 0 0) ⟨by simp [go_sem, *], by simp [go_sem, *], by simp [go_sem, *], by simp [go_sem, *]⟩
  have x2 := bthen (B := w.heap.size) (w := w) (by go_grown) (by go_size) hb2
  have z2 := x2.size
  have TW := hid (show Two w2 (w.heap.size + 1 + 1) (.bool false) (.slice none 0 0) from ⟨b1, b2, b3, b4⟩)
  have Q1 := hid q1
  clear q1 hb2 p1 p2 p3 p4 p5 t1 t2 t3 t4 t5 r1 r2 r3 r4 r5
  have hlz' : (0 : Int) < (zs.length : Int) := by omega
  go_wp2_with fail
  refine bodyPost_ret (v := .agg #[.bool true, .slice b' zs.length c1]) (by simp [results, Try.results33, go_sem, *]) rfl ⟨_, _, _, by rw [s3], ?_, by go_grown⟩
  exact BigIs.put ⟨zs, Q1.out, q2, q3, by omega, HV.out⟩ TW.out (noInt_bool _) (noInt_slice _ _ _) _ _
theorem badd_any {n m : Nat} {a a' : Option Addr} {l l' c c' : Nat} {x y : Int} {w : World} (ha : BigIs n w (.slice a l c) x) (hb : BigIs m w (.slice a' l' c') y) (hn : n ≤ 10000000) (hm : m ≤ 10000000) :
    Calls Try.prog 33 #[.agg #[.bool (sg x), .slice a l c], .agg #[.bool (sg y), .slice a' l' c']] w fun e w' =>
      ∃ b k d, e = .returned (.agg #[.bool (sg (x + y)), .slice b k d]) ∧ BigIs (max n m + 1) w' (.slice b k d) (x + y) ∧ Below w.heap.size w w' := by
  by_cases g : sg x = sg y
  · exact badd_same ha hb hn hm g
  by_cases g1 : x < 0
  · have g2 : 0 ≤ y := by
      by_cases h : y < 0
      · exact absurd ((sg_neg g1).trans (sg_neg h).symm) g
      · omega
    by_cases g3 : ab y < ab x
    · exact badd_np_gt ha hb hn hm g1 g2 g3
    by_cases g4 : ab x = ab y
    · exact badd_np_eq ha hb hn hm g1 g2 g4
    · exact badd_np_lt ha hb hn hm g1 g2 (by omega)
  · have g2 : y < 0 := by
      by_cases h : y < 0
      · exact h
      · exact absurd ((sg_pos (z := x) (by omega)).trans (sg_pos (z := y) (by omega)).symm) g
    by_cases g3 : ab y < ab x
    · exact badd_pn_gt ha hb hn hm (by omega) g2 g3
    by_cases g4 : ab x = ab y
    · exact badd_pn_eq ha hb hn hm (by omega) g2 g4
    · exact badd_pn_lt ha hb hn hm (by omega) g2 (by omega)
end Go.Proofs.Ytlpenfganhaclaa
