/-
  The contracts of the reference numbers' Sub and Pow2, and of the laws' own helpers 'of' and 'both': a Limb as a number, two as a number. No conditions beside the memory's own.
-/
import Derived.Test.YtlpenfganhaclaaRefE
namespace Go.Proofs.Ytlpenfganhaclaa
open Go.RowKit

attribute [local go_sem ↓] Go.wp_at_zero Go.wp_at_succ
set_option maxRecDepth 100000 in
set_option maxHeartbeats 1000000 in
theorem bsub_any {n m : Nat} {a a' : Option Addr} {l l' c c' : Nat} {x y : Int} {w : World} (ha : BigIs n w (.slice a l c) x) (hb : BigIs m w (.slice a' l' c') y) (hn : n ≤ 10000000) (hm : m ≤ 10000000) :
    Calls Try.prog 14 #[.agg #[.bool (sg x), .slice a l c], .agg #[.bool (sg y), .slice a' l' c']] w fun e w' =>
      ∃ b k d, e = .returned (.agg #[.bool (sg (x - y)), .slice b k d]) ∧ BigIs (max n m + 1) w' (.slice b k d) (x - y) ∧ Below w.heap.size w w' := by
  have HA := hid ha
  have HB := hid hb
  clear ha hb
  obtain ⟨D, hD⟩ : ∃ D, Hid (D = x - y) := ⟨_, rfl⟩
  rw [← hD.out]
  have KS : Hid (∀ W1 W2 : World, Below W1.heap.size W1 W2 → (Below w.heap.size w W1 ∧ W1.cell? ⟨w.heap.size, 0, none⟩ = some (.bool (sg x)) ∧ W1.cell? ⟨w.heap.size, 1, none⟩ = some (.slice a l c) ∧ W1.cell? ⟨w.heap.size + 1, 0, none⟩ = some (.bool (sg y)) ∧ W1.cell? ⟨w.heap.size + 1, 1, none⟩ = some (.slice a' l' c')) → (Below w.heap.size w W2 ∧ W2.cell? ⟨w.heap.size, 0, none⟩ = some (.bool (sg x)) ∧ W2.cell? ⟨w.heap.size, 1, none⟩ = some (.slice a l c) ∧ W2.cell? ⟨w.heap.size + 1, 0, none⟩ = some (.bool (sg y)) ∧ W2.cell? ⟨w.heap.size + 1, 1, none⟩ = some (.slice a' l' c'))) := fun W1 W2 hb ⟨h0, h1, h2, h3, h4⟩ => ⟨bthen h0 h0.size hb, cell_later hb h1, cell_later hb h2, cell_later hb h3, cell_later hb h4⟩
  go_enter Try.func14, Try.ntmps14
  go_wp2_with fail
  go_region_held3 (fun w' => Below w.heap.size w w' ∧ w'.cell? ⟨w.heap.size, 0, none⟩ = some (.bool (sg x)) ∧ w'.cell? ⟨w.heap.size, 1, none⟩ = some (.slice a l c) ∧ w'.cell? ⟨w.heap.size + 1, 0, none⟩ = some (.bool (sg y)) ∧ w'.cell? ⟨w.heap.size + 1, 1, none⟩ = some (.slice a' l' c'))
    (first | exact KS.out _ _ hb2 (by assumption) | exact KS.out _ _ hb1 (by assumption) | exact KS.out _ _ (Below.drew (Below.refl _ _)) (by assumption) | (refine ⟨by go_grown, ?_, ?_, ?_, ?_⟩ <;> simp [go_sem, *]))
    (first
      | (go_at_call 45; refine (neg_any (HB.out.later (by go_grown))).mono ?_; rintro e w1 ⟨rfl, q1, hb1⟩; have X1 := bthen (B := w.heap.size) (w := w) (by go_grown) (by go_size) hb1; have X1s := X1.size; have R1 := hid (two_later hb1 (b := w.heap.size + 1 + 1) (u := .bool false) (v := .slice none 0 0) ⟨by simp [go_sem], by simp [go_sem], by simp [go_sem], by simp [go_sem]⟩); have Q1 := hid q1; clear q1)
      | (go_at_call 33; refine (badd_any (HA.out.later X1) Q1.out hn hm).mono ?_; rw [show x + -y = D from (hD.out.trans Int.sub_eq_add_neg).symm]; rintro e w2 ⟨b, k, d, rfl, q2, hb2⟩; have X2 := bthen X1 X1s hb2; have X2s := X2.size; have R2 := hid (two_later hb2 R1.out.1); obtain ⟨⟨r1, r2, r3, r4⟩, r5⟩ := two_later hb2 R1.out.1; have Q2 := hid q2; clear q2))
  go_wp2
  refine bodyPost_ret (v := .agg #[.bool (sg D), .slice b k d]) (by simp [results, Try.results14, go_sem, *]) rfl ⟨_, _, _, rfl, ?_, by go_grown⟩
  exact BigIs.put Q2.out R2.out.1 (noInt_bool _) (noInt_slice _ _ _) _ _

/-- 2 to a power, under a name. -/
def p2 (n : Nat) : Int := 2 ^ n
theorem p2_pos (n : Nat) : 0 < p2 n := by unfold p2; exact Int.pow_pos (by decide)
theorem p2_succ (n : Nat) : p2 (n + 1) = 2 * p2 n := by unfold p2; rw [Int.pow_succ, Int.mul_comm]
theorem pw_p2 (k : Nat) : pw k = p2 (16 * k) := by
  unfold pw p2; rw [Int.pow_mul]; rfl

theorem p2_add (i j : Nat) : p2 (i + j) = p2 i * p2 j := by unfold p2; rw [Int.pow_add]
theorem p2_small {r : Nat} (h : r < 16) : 0 < p2 r ∧ p2 r < 65536 := by
  have key : ∀ r : Fin 16, 0 < p2 r.val ∧ p2 r.val < 65536 := by decide
  exact key ⟨r, h⟩
/-- The digits of a power of 2. -/
def powDs (n : Nat) : List Int := (zeros (n / 16 + 1)).set (n / 16) (p2 (n % 16))
theorem powDs_len (n : Nat) : (powDs n).length = n / 16 + 1 := by unfold powDs; rw [List.length_set, zeros_len]
theorem powDs_ok (n : Nat) : Dig (powDs n) ∧ Canon (powDs n) ∧ val (powDs n) = p2 n := by
  obtain ⟨h0, h1⟩ := p2_small (r := n % 16) (by omega)
  refine ⟨dig_set (dig_zeros _) (by omega) h1, .inr ?_, ?_⟩
  · rw [powDs_len]
    show dg (powDs n) (n / 16 + 1 - 1) ≠ 0
    rw [Nat.add_sub_cancel]
    unfold powDs
    rw [dg_set_at (by rw [zeros_len]; omega)]; omega
  · unfold powDs
    rw [val_set (by rw [zeros_len]; omega), val_zeros, dg_zeros, pw_p2, Int.sub_zero, ← p2_add, Int.zero_add]
    congr 1; omega

set_option maxRecDepth 100000 in
set_option maxHeartbeats 1000000 in
theorem pow2_any (n : Nat) (hn : n ≤ 1000000) (w : World) :
    Calls Try.prog 34 #[.int .i64 (n : Int)] w fun e w' => ∃ a l c, e = .returned (.agg #[.bool (sg (p2 n)), .slice a l c]) ∧ BigIs (n / 16 + 1) w' (.slice a l c) (p2 n) ∧ Below w.heap.size w w' := by
  have hs := sg_pos (z := p2 n) (by have := p2_pos n; omega)
  obtain ⟨W', mk1, mk2, mk3, mk4⟩ := made (n / 16 + 1) (by omega) (w.alloc (.cells #[.bool false, .slice none 0 0] 32))
  have ec : ((n / 16 + 1 : Nat) : Int) = (n : Int) / 16 + 1 := by omega
  rw [ec] at mk1
  have z0 : (0 : Int) ≤ (n : Int) := by omega
  have z1 : (n : Int) ≤ 1000000 := by omega
  have tw := two_later mk3 (b := w.heap.size) (u := .bool false) (v := .slice none 0 0) ⟨by simp [go_sem], by simp [go_sem], by simp [go_sem], by simp [go_sem]⟩
  obtain ⟨⟨p1, p2', p3, p4⟩, p5⟩ := id tw
  have x1 := bthen (B := w.heap.size) (w := w) (by go_grown) (by go_size) mk3
  have zz1 := x1.size
  obtain ⟨c1, c2⟩ := mk2 (n / 16) (by omega)
  simp only [World.size_alloc] at c1 c2
  obtain ⟨s0, s1⟩ := p2_small (r := n % 16) (by omega)
  have hw : wrap64 (2 ^ (n % 16)) = p2 (n % 16) := IntWalk.wrap64_in _ ⟨by unfold p2 at s0; omega, by unfold p2 at s1; omega⟩
  have MK2 := hid mk2
  have TW := hid tw.1
  clear mk2 mk3 mk4 ec tw
  go_enter Try.func34, Try.ntmps34
  go_wp2_with fail
  refine bodyPost_ret (v := .agg #[.bool false, .slice (some ⟨w.heap.size + 1, 0, none⟩) (n / 16 + 1) (n / 16 + 1)]) (by simp [results, Try.results34, go_sem, *]) rfl ⟨_, _, _, by rw [hs], ?_, by go_grown⟩
  obtain ⟨o1, o2, o3⟩ := powDs_ok n
  refine BigIs.put ⟨powDs n, ⟨_, w.heap.size + 1, 0, n / 16 + 1, by rw [powDs_len], by rw [powDs_len]; omega, by unfold maxLen; omega, .inr rfl, fun j hj => ?_⟩, o1, o2, by rw [powDs_len]; omega, by rw [o3, ab_pos (by have := p2_pos n; omega)]⟩ (u0 := .bool false) (u1 := .slice none 0 0) ⟨?_, ?_, ?_, ?_⟩ (noInt_bool _) (noInt_slice _ _ _) _ _
  · rw [powDs_len] at hj
    have hc := (MK2.out j hj).1
    simp only [World.size_alloc] at hc
    rw [Nat.zero_add]
    unfold powDs
    by_cases e : j = n / 16
    · subst e; rw [World.cell?_setCell_same _ _ _ hc, dg_set_at (by rw [zeros_len]; omega)]
    · rw [World.cell?_setCell_other _ _ _ _ (fun h => e (by simpa using h.symm)), dg_set_other e, dg_zeros]; exact hc
  · simp [go_sem, *]
  · simp [go_sem, *]
  · simp [go_sem, *]
  · simp [go_sem, *]

theorem word_b (n : Int) (h0 : 0 ≤ n) (h1 : n < 18446744073709551616) (w : World) :
    Calls Try.prog 35 #[.int .u64 n] w fun e w' => ∃ a l c, e = .returned (.agg #[.bool (sg n), .slice a l c]) ∧ BigIs 4 w' (.slice a l c) n ∧ Below w.heap.size w w' := by
  rw [sg_pos h0]; exact word_any n h0 h1 w
theorem pow2_lit (n : Nat) (z : Int) (hz : (n : Int) = z) (hn : n ≤ 1000000) (w : World) :
    Calls Try.prog 34 #[.int .i64 z] w fun e w' => ∃ a l c, e = .returned (.agg #[.bool (sg (p2 n)), .slice a l c]) ∧ BigIs (n / 16 + 1) w' (.slice a l c) (p2 n) ∧ Below w.heap.size w w' := by
  subst hz; exact pow2_any n hn w

end Go.Proofs.Ytlpenfganhaclaa
