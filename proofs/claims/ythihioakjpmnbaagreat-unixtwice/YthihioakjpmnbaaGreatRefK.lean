/-
 The contract of the reference numbers' word: four digits, from a place on, as 64 bits. No conditions beside the memory's own.
-/
import Derived.Test.YthihioakjpmnbaaGreatRefI
import Derived.Test.YthihioakjpmnbaaGreatWideA
import Derived.Deep.DeepCutAuto
namespace Go.Proofs.YthihioakjpmnbaaGreat
open Go.RowKit

theorem BigIs.alloc {n : Nat} {w : World} {s : Value} {z : Int} (h : BigIs n w s z) (o : Obj) : BigIs n (w.alloc o) s z := h.later ((Below.refl _ _).alloc (Nat.le_refl _) o)
theorem Two.set {w : World} {b : Nat} {u v : Value} (h : Two w b u v) (x y : Value) : Two ((w.setCell ⟨b, 0, none⟩ x).setCell ⟨b, 1, none⟩ y) b x y := by
 obtain ⟨h1, h2, h3, h4⟩ := h
 refine ⟨?_, ?_, by rw [World.frozen?_setCell, World.frozen?_setCell]; exact h3, by rw [World.frozen?_setCell, World.frozen?_setCell]; exact h4⟩
 ·rw [World.cell?_setCell_other _ _ _ _ (by simp), World.cell?_setCell_same _ _ _ h1]
 ·rw [World.cell?_setCell_same (w := w.setCell ⟨b, 0, none⟩ x) (a := ⟨b, 1, none⟩) (u := v) (h := by rw [World.cell?_setCell_other _ _ _ _ (by simp)]; exact h2)]
theorem Two.alloc {w : World} {b : Nat} {u v : Value} (h : Two w b u v) (o : Obj) : Two (w.alloc o) b u v := (two_later ((Below.refl _ _).alloc (Nat.le_refl _) o) h).1
theorem Two.new (w : World) (u v : Value) (t : TypeId) : Two (w.alloc (.cells #[u, v] t)) w.heap.size u v := ⟨by simp [go_sem], by simp [go_sem], by simp [go_sem], by simp [go_sem]⟩
theorem Two.lt {w : World} {b : Nat} {u v : Value} (h : Two w b u v) : b < w.heap.size := World.block_lt_of_cell? _ _ h.1

section
variable {w : World} {A B : Nat} {x0 x1 y0 y1 : Value} {t : TypeId}
end
end Go.Proofs.YthihioakjpmnbaaGreat

namespace Go.Proofs.YthihioakjpmnbaaGreat
open Go.RowKit

attribute [local go_sem ↓] Go.wp_at_zero Go.wp_at_succ
set_option maxRecDepth 100000 in
set_option maxHeartbeats 1000000 in
theorem rint_any (n : Int) (h0 : -9223372036854775808 ≤ n) (h1 : n ≤ 9223372036854775807) (w : World) :
  Calls Tryz.prog 32 #[.int .i64 n] w fun e w' => ∃ a l c, e = .returned (.agg #[.bool (sg n), .slice a l c]) ∧ BigIs 5 w' (.slice a l c) n ∧ Below w.heap.size w w' := by
 by_cases g : 0 ≤ n
 ·have hw : IntKind.u64.wrap n = n := IntWalk.u64_in _ ⟨g, by omega⟩
  go_enter Tryz.func32, Tryz.ntmps32
  go_wp2_with fail
  try rw [hw]
  refine (word_b n g (by omega) _).mono ?_
  rintro e w1 ⟨a1, l1, c1, rfl, q1, hb1⟩
  have R1 := hid (two_later hb1 (b := w.heap.size) (u := .bool false) (v := .slice none 0 0) ⟨by simp [go_sem], by simp [go_sem], by simp [go_sem], by simp [go_sem]⟩)
  obtain ⟨⟨r1, r2, r3, r4⟩, r5⟩ := R1.out
  have x1 := bthen (B := w.heap.size) (w := w) (by go_grown) (by go_size) hb1
  have z1 := x1.size
  have Q1 := hid q1
  clear q1 hb1
  go_wp2_with fail
  refine bodyPost_ret (v := .agg #[.bool (sg n), .slice a1 l1 c1]) (by simp [results, Tryz.results32, go_sem, *]) rfl ⟨_, _, _, rfl, ?_, by go_grown⟩
  exact BigIs.put (Q1.out.wide (by decide)) R1.out.1 (noInt_bool _) (noInt_slice _ _ _) _ _
 ·have g' : n < 0 := by omega
  obtain ⟨m, hm⟩ : ∃ m, Hid (m = -(n + 1)) := ⟨_, rfl⟩
  go_enter Tryz.func32, Tryz.ntmps32
  go_wp2_with fail
  refine (word_b (-(n + 1)) (by omega) (by omega) _).mono ?_
  rw [← hm.out]
  rintro e w1 ⟨a1, l1, c1, rfl, q1, hb1⟩
  have R1 := hid (two_later hb1 (b := w.heap.size) (u := .bool false) (v := .slice none 0 0) ⟨by simp [go_sem], by simp [go_sem], by simp [go_sem], by simp [go_sem]⟩)
  have x1 := bthen (B := w.heap.size) (w := w) (by go_grown) (by go_size) hb1
  have z1 := x1.size
  have KS : Hid (∀ W1 W2 : World, Below W1.heap.size W1 W2 → (Below w.heap.size w W1 ∧ W1.cell? ⟨w1.heap.size, 0, none⟩ = some (.bool (sg m)) ∧ W1.cell? ⟨w1.heap.size, 1, none⟩ = some (.slice a1 l1 c1)) → (Below w.heap.size w W2 ∧ W2.cell? ⟨w1.heap.size, 0, none⟩ = some (.bool (sg m)) ∧ W2.cell? ⟨w1.heap.size, 1, none⟩ = some (.slice a1 l1 c1))) := fun W1 W2 hb ⟨h0, h1, h2⟩ => ⟨bthen h0 h0.size hb, cell_later hb h1, cell_later hb h2⟩
  go_upto_region 4 with fail
  obtain ⟨W, hW⟩ : ∃ W, W = w1.alloc (Obj.cells #[.bool (sg m), .slice a1 l1 c1] 36) := ⟨_, rfl⟩
  rw [← hW]
  have S0 : Below w.heap.size w W ∧ W.cell? ⟨w1.heap.size, 0, none⟩ = some (.bool (sg m)) ∧ W.cell? ⟨w1.heap.size, 1, none⟩ = some (.slice a1 l1 c1) := by rw [hW]; exact ⟨by go_grown, by simp [go_sem], by simp [go_sem]⟩
  have hbW : Below w1.heap.size w1 W := by rw [hW]; go_grown
  have xW := bthen x1 x1.size hbW
  have zW := xW.size
  have Q1 := hid (q1.later hbW)
  have R2 := hid (two_later hbW R1.out.1)
  have hne : ¬ w1.heap.size = w.heap.size := by have := R1.out.2; omega
  clear hW q1 hb1 hbW R1
  go_region_held3 (fun w' => Below w.heap.size w w' ∧ w'.cell? ⟨w1.heap.size, 0, none⟩ = some (.bool (sg m)) ∧ w'.cell? ⟨w1.heap.size, 1, none⟩ = some (.slice a1 l1 c1))
   (first | exact KS.out _ _ hb4 (by assumption) | exact KS.out _ _ hb3 (by assumption) | exact KS.out _ _ hb2 (by assumption) | exact KS.out _ _ (Below.drew (Below.refl _ _)) (by assumption) | (refine ⟨by go_grown, ?_, ?_⟩ <;> simp [go_sem, *]))
   (first
    | (go_at_call 46; refine (neg_any Q3.out).mono ?_; rw [show -(m + 1) = n from (by have := hm.out; omega)]; rintro e w4 ⟨rfl, q4, hb4⟩; have X4 := bthen X3 X3.size hb4; have X4s := X4.size; have R5 := hid (two_later hb4 R4.out.1); obtain ⟨⟨r1, r2, r3, r4⟩, r5⟩ := two_later hb4 R4.out.1; have Q4 := hid q4; clear q4)
    | (go_at_call 27; refine (badd_any (Q1.out.later Y2) Q2.out (by decide) (by decide)).mono ?_; rintro e w3 ⟨a3, l3, c3, rfl, q3, hb3⟩; have X3 := bthen X2 X2.size hb3; have R4 := hid (two_later hb3 R3.out.1); have Q3 := hid q3; clear q3)
    | (go_at_call 35; refine (word_b 1 (by decide) (by decide) _).mono ?_; rintro e w2 ⟨a2, l2, c2, rfl, q2, hb2⟩; have X2 := bthen (B := w.heap.size) (w := w) (by go_grown) (by go_size) hb2; have Y2 := bthen (B := W.heap.size) (w := W) (by go_grown) (by go_size) hb2; have R3 := hid (two_later Y2 R2.out.1); have Q2 := hid q2; clear q2))
  go_wp2_with fail
  refine bodyPost_ret (v := .agg #[.bool (sg n), .slice a3 l3 c3]) (by simp [results, Tryz.results32, go_sem, *]) rfl ⟨_, _, _, rfl, ?_, by go_grown⟩
  exact BigIs.put Q4.out R5.out.1 (noInt_bool _) (noInt_slice _ _ _) _ _

set_option maxRecDepth 100000 in
set_option maxHeartbeats 1000000 in
theorem rof_any {ah al a : Int} (ha : WideIs ah al a) (w : World) :
  Calls Tryz.prog 14 #[.agg #[.int .i64 ah, .int .u64 al]] w fun e w' =>
   ∃ b k d, e = .returned (.agg #[.bool (sg a), .slice b k d]) ∧ BigIs 11 w' (.slice b k d) a ∧ Below w.heap.size w w' := by
 obtain ⟨h1, h2, h3, h4, h5⟩ := ha
 have HZ : Hid (ah * p2 64 + al = a) := by rw [Hid, h5]; rfl
 clear h5
 go_enter Tryz.func14, Tryz.ntmps14
 go_wp2_with fail
 refine (rint_any ah h1 (by omega) _).mono ?_
 rintro e w1 ⟨a1, l1, c1, rfl, q1, hb1⟩
 have R1 := hid (two_later hb1 (b := w.heap.size + 1) (u := .bool false) (v := .slice none 0 0) ⟨by simp [go_sem], by simp [go_sem], by simp [go_sem], by simp [go_sem]⟩)
 have TA := hid (two_later hb1 (b := w.heap.size) (u := .int .i64 ah) (v := .int .u64 al) ⟨by simp [go_sem], by simp [go_sem], by simp [go_sem], by simp [go_sem]⟩)
 have x1 := bthen (B := w.heap.size) (w := w) (by go_grown) (by go_size) hb1
 have z1 := x1.size
 have KS : Hid (∀ W1 W2 : World, Below W1.heap.size W1 W2 → (Below w.heap.size w W1 ∧ W1.cell? ⟨w.heap.size, 0, none⟩ = some (.int .i64 ah) ∧ W1.cell? ⟨w.heap.size, 1, none⟩ = some (.int .u64 al) ∧ W1.cell? ⟨w1.heap.size, 0, none⟩ = some (.bool (sg ah)) ∧ W1.cell? ⟨w1.heap.size, 1, none⟩ = some (.slice a1 l1 c1)) → (Below w.heap.size w W2 ∧ W2.cell? ⟨w.heap.size, 0, none⟩ = some (.int .i64 ah) ∧ W2.cell? ⟨w.heap.size, 1, none⟩ = some (.int .u64 al) ∧ W2.cell? ⟨w1.heap.size, 0, none⟩ = some (.bool (sg ah)) ∧ W2.cell? ⟨w1.heap.size, 1, none⟩ = some (.slice a1 l1 c1))) := fun W1 W2 hb ⟨h0, h1, h2, h3, h4⟩ => ⟨bthen h0 h0.size hb, cell_later hb h1, cell_later hb h2, cell_later hb h3, cell_later hb h4⟩
 go_upto_region 2 with fail
 obtain ⟨W, hW⟩ : ∃ W, W = w1.alloc (Obj.cells #[.bool (sg ah), .slice a1 l1 c1] 36) := ⟨_, rfl⟩
 rw [← hW]
 have hbW : Below w1.heap.size w1 W := by rw [hW]; go_grown
 have TW := (two_later hbW TA.out.1).1
 have S0 : Below w.heap.size w W ∧ W.cell? ⟨w.heap.size, 0, none⟩ = some (.int .i64 ah) ∧ W.cell? ⟨w.heap.size, 1, none⟩ = some (.int .u64 al) ∧ W.cell? ⟨w1.heap.size, 0, none⟩ = some (.bool (sg ah)) ∧ W.cell? ⟨w1.heap.size, 1, none⟩ = some (.slice a1 l1 c1) := ⟨bthen x1 x1.size hbW, TW.1, TW.2.1, by rw [hW]; simp [go_sem], by rw [hW]; simp [go_sem]⟩
 have xW := bthen x1 x1.size hbW
 have zW := xW.size
 have Q1 := hid (q1.later hbW)
 have R2 := hid (two_later hbW R1.out.1)
 have hne : ¬ w1.heap.size = w.heap.size + 1 := by have := R1.out.2; omega
 clear hW q1 hb1 hbW R1 TW TA
 go_region_held3 (fun w' => Below w.heap.size w w' ∧ w'.cell? ⟨w.heap.size, 0, none⟩ = some (.int .i64 ah) ∧ w'.cell? ⟨w.heap.size, 1, none⟩ = some (.int .u64 al) ∧ w'.cell? ⟨w1.heap.size, 0, none⟩ = some (.bool (sg ah)) ∧ w'.cell? ⟨w1.heap.size, 1, none⟩ = some (.slice a1 l1 c1))
  (first | exact KS.out _ _ hb5 (by assumption) | exact KS.out _ _ hb4 (by assumption) | exact KS.out _ _ hb3 (by assumption) | exact KS.out _ _ hb2 (by assumption) | exact KS.out _ _ (Below.drew (Below.refl _ _)) (by assumption) | (refine ⟨by go_grown, ?_, ?_, ?_, ?_⟩ <;> simp [go_sem, *]))
  (first
   | (go_at_call 27; refine (badd_any (Q3.out.later hb4) Q4.out (by decide) (by decide)).mono ?_; rw [show ah * p2 64 + al = a from HZ.out]; rintro e w5 ⟨a5, l5, c5, rfl, q5, hb5⟩; have X5 := bthen X4 X4.size hb5; have X5s := X5.size; have R6 := hid (two_later hb5 R5.out.1); obtain ⟨⟨r1, r2, r3, r4⟩, r5⟩ := two_later hb5 R5.out.1; have Q5 := hid q5; clear q5)
   | (go_at_call 35; have dummy := Q3; clear dummy; refine (word_b _ (by assumption) (by assumption) _).mono ?_; rintro e w4 ⟨a4, l4, c4, rfl, q4, hb4⟩; have X4 := bthen X3 X3.size hb4; have R5 := hid (two_later hb4 R4.out.1); have Q4 := hid q4; clear q4)
   | (go_at_call 33; refine (bmul_any (Q1.out.later Y2) Q2.out (by decide) (by decide)).mono ?_; rintro e w3 ⟨a3, l3, c3, rfl, q3, hb3⟩; have X3 := bthen X2 X2.size hb3; have R4 := hid (two_later hb3 R3.out.1); have Q3 := hid q3; clear q3)
   | (go_at_call 34; refine (pow2_lit 64 64 rfl (by decide) _).mono ?_; rintro e w2 ⟨a2, l2, c2, rfl, q2, hb2⟩; have X2 := bthen (B := w.heap.size) (w := w) (by go_grown) (by go_size) hb2; have Y2 := bthen (B := W.heap.size) (w := W) (by go_grown) (by go_size) hb2; have R3 := hid (two_later Y2 R2.out.1); have Q2 := hid q2; clear q2))
 go_wp2_with fail
 refine bodyPost_ret (v := .agg #[.bool (sg a), .slice a5 l5 c5]) (by simp [results, Tryz.results14, go_sem, *]) rfl ⟨_, _, _, rfl, ?_, by go_grown⟩
 exact BigIs.put Q5.out R6.out.1 (noInt_bool _) (noInt_slice _ _ _) _ _
end Go.Proofs.YthihioakjpmnbaaGreat

namespace Go.Proofs.YthihioakjpmnbaaGreat
open Go.RowKit

/-- Of the four digits from a place on, those from k on. -/
def partW (ds : List Int) (at' : Nat) : Nat → Int
 | 0 => dg ds at' + 65536 * (dg ds (at' + 1) + 65536 * (dg ds (at' + 2) + 65536 * dg ds (at' + 3)))
 | 1 => dg ds (at' + 1) + 65536 * (dg ds (at' + 2) + 65536 * dg ds (at' + 3))
 | 2 => dg ds (at' + 2) + 65536 * dg ds (at' + 3)
 | 3 => dg ds (at' + 3)
 | _ => 0
theorem partW_step {ds : List Int} (hd : Dig ds) (p : Nat) {s : Nat} (hs : s < 4) : partW ds p s = partW ds p (s + 1) * 65536 + dg ds (p + s) ∧ 0 ≤ partW ds p (s + 1) ∧ partW ds p (s + 1) < 281474976710656 := by
 have h1 := dg_ok hd (p + 1)
 have h2 := dg_ok hd (p + 2)
 have h3 := dg_ok hd (p + 3)
 rcases (show s = 0 ∨ s = 1 ∨ s = 2 ∨ s = 3 by omega) with rfl | rfl | rfl | rfl <;> simp only [partW, Nat.add_zero] <;> omega
attribute [local go_sem ↓] Go.wp_at_zero Go.wp_at_succ
set_option maxRecDepth 100000 in
set_option maxHeartbeats 1000000 in
theorem rword_any {v : Value} {ds : List Int} {w : World} (h : Digs w v ds) (hd : Dig ds) (hl : ds.length ≤ 1000000) (p : Nat) (hp : p ≤ 1000) :
  Calls Tryz.prog 47 #[v, .int .i64 (p : Int)] w fun e w' => e = .returned (.int .u64 (partW ds p 0)) ∧ Below w.heap.size w w' := by
 obtain ⟨ao, b, off, cap, rfl, h2, h3, h4, h5⟩ := h
 have hlen : (ds.length : Int) ≤ 1000000 := by omega
 have hp' : (p : Int) ≤ 1000 := by omega
 have hcap : (ds.length : Int) ≤ cap := by omega
 go_enter Tryz.func47, Tryz.ntmps47
 go_wp2
 go_loop [5, 6] (fun n t => ∃ k : Nat, k ≤ 4 ∧ t = .int .i64 ((k : Int) - 1) ∧ n = .int .u64 (partW ds p k)) (fun _ t => (intOf t + 1).toNat)
 case atStart => exact ⟨4, Nat.le_refl _, rfl, rfl⟩
 case round =>
  obtain ⟨k, hk, rfl, rfl⟩ := hrel
  by_cases h0 : k = 0
  ·subst h0
   go_wp2
   go_ret
   exact ⟨rfl, Below.refl _ _⟩
  ·obtain ⟨s, rfl⟩ : ∃ s, k = s + 1 := ⟨k - 1, by omega⟩
   obtain ⟨st, s0, s1⟩ := partW_step hd p (s := s) (by omega)
   obtain ⟨g0, g1⟩ := dg_ok hd (p + s)
   have e0 : ((s + 1 : Nat) : Int) - 1 = (s : Int) := by omega
   rw [e0]
   have z0 : (0 : Int) ≤ (s : Int) := by omega
   have z1 : (s : Int) ≤ 3 := by omega
   have z2 : (0 : Int) ≤ (p : Int) := by omega
   have ST := hid st
   clear st e0
   obtain ⟨N, hN⟩ : ∃ N, Hid (N = partW ds p (s + 1)) := ⟨_, rfl⟩
   rw [← hN.out] at s0 s1 ⊢
   by_cases g : p + s < ds.length
   ·obtain rfl := some_of h4 (by omega)
    have hc := h5 (p + s) g
    have g' : (p : Int) + (s : Int) < ds.length := by omega
    have z3 : ((p : Int) + (s : Int)).toNat = p + s := by omega
    have H5 := hid h5
    clear h5 g
    obtain ⟨D, hD⟩ : ∃ D, Hid (D = dg ds (p + s)) := ⟨_, rfl⟩
    rw [← hD.out] at hc g0 g1
    go_wp2
    go_round
    case rel => exact ⟨s, by omega, by go_num, by first | rfl | (rw [ST.out, ← hN.out, ← hD.out])⟩
    case measure => simp [intOf]
   ·have hz : dg ds (p + s) = 0 := dg_end (by omega)
    have g' : (ds.length : Int) ≤ (p : Int) + (s : Int) := by omega
    go_wp2
    go_round
    case rel => exact ⟨s, by omega, by go_num, by first | rfl | (rw [ST.out, ← hN.out, hz, Int.add_zero])⟩
    case measure => simp [intOf]
theorem rword_lit {v : Value} {ds : List Int} {w : World} (h : Digs w v ds) (hd : Dig ds) (hl : ds.length ≤ 1000000) (p : Nat) (z : Int) (hz : (p : Int) = z) (hp : p ≤ 1000) :
  Calls Tryz.prog 47 #[v, .int .i64 z] w fun e w' => e = .returned (.int .u64 (partW ds p 0)) ∧ Below w.heap.size w w' := by
 subst hz; exact rword_any h hd hl p hp

/-- Up to eight digits as two words. -/
theorem words8 {ds : List Int} (hd : Dig ds) (hc : Canon ds) (h : val ds < 340282366920938463463374607431768211456) : LimbIs (partW ds 4 0) (partW ds 0 0) (val ds) := by
 have hlen : ds.length ≤ 8 := by
  by_cases g : ds = []
  ·subst g; simp
  ·have h1 := canon_low hd hc g
   by_cases h2 : ds.length ≤ 8
   ·exact h2
   ·exfalso
    have h3 : pw 8 ≤ pw (ds.length - 1) := pw_mono (by omega)
    have h4 : pw 8 = 340282366920938463463374607431768211456 := by decide
    omega
 have e : val ds = val (ds.take 8) := by rw [List.take_of_length_le hlen]
 have e2 : val (ds.take 8) = dg ds 0 + 65536 * dg ds 1 + 4294967296 * dg ds 2 + 281474976710656 * dg ds 3 + 18446744073709551616 * dg ds 4 + 1208925819614629174706176 * dg ds 5 + 79228162514264337593543950336 * dg ds 6 + 5192296858534827628530496329220096 * dg ds 7 := by
  have p0 : pw 0 = 1 := by decide
  have p1 : pw 1 = 65536 := by decide
  have p2 : pw 2 = 4294967296 := by decide
  have p3 : pw 3 = 281474976710656 := by decide
  have p4 : pw 4 = 18446744073709551616 := by decide
  have p5 : pw 5 = 1208925819614629174706176 := by decide
  have p6 : pw 6 = 79228162514264337593543950336 := by decide
  have p7 : pw 7 = 5192296858534827628530496329220096 := by decide
  rw [val_take_succ, val_take_succ, val_take_succ, val_take_succ, val_take_succ, val_take_succ, val_take_succ, val_take_succ, p0, p1, p2, p3, p4, p5, p6, p7]
  simp only [List.take_zero, val, ← dg_def]
  omega
 have d0 := dg_ok hd 0
 have d1 := dg_ok hd 1
 have d2 := dg_ok hd 2
 have d3 := dg_ok hd 3
 have d4 := dg_ok hd 4
 have d5 := dg_ok hd 5
 have d6 := dg_ok hd 6
 have d7 := dg_ok hd 7
 rw [e, e2]
 show LimbIs (dg ds 4 + 65536 * (dg ds 5 + 65536 * (dg ds 6 + 65536 * dg ds 7))) (dg ds 0 + 65536 * (dg ds 1 + 65536 * (dg ds 2 + 65536 * dg ds 3))) _
 exact ⟨by omega, by omega, by omega, by omega, by omega⟩
end Go.Proofs.YthihioakjpmnbaaGreat
