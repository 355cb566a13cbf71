/-
  The walk of the law LimbAdds: the sum and the difference of any two numbers, and which one is greater. No conditions.
-/
import Derived.Test.YtdefgplehkbpcaaLimbF
import Derived.Test.YtdefgplehkbpcaaLawF
import Derived.Deep.DeepCutAuto
namespace Go.Proofs.Ytdefgplehkbpcaa
open Go.RowKit

theorem eqI_of {x y : Int} (h : x = y) : eqI x y = true := by unfold eqI; simpa using h
theorem badd_lit {n m : Nat} {a a' : Option Addr} {l l' c c' : Nat} {x y : Int} {sx sy : Bool} {w : World} (ha : BigIs n w (.slice a l c) x) (hb : BigIs m w (.slice a' l' c') y) (hx : sg x = sx) (hy : sg y = sy) (hn : n ≤ 10000000) (hm : m ≤ 10000000) :
    Calls Try.prog 10 #[.agg #[.bool sx, .slice a l c], .agg #[.bool sy, .slice a' l' c']] w fun e w' =>
      ∃ b k d, e = .returned (.agg #[.bool (sg (x + y)), .slice b k d]) ∧ BigIs (max n m + 1) w' (.slice b k d) (x + y) ∧ Below w.heap.size w w' := by
  subst hx hy; exact badd_any ha hb hn hm
theorem same_lit {n m : Nat} {a a' : Option Addr} {l l' c c' : Nat} {x y : Int} {sx sy : Bool} {w : World} (ha : BigIs n w (.slice a l c) x) (hb : BigIs m w (.slice a' l' c') y) (hx : sg x = sx) (hy : sg y = sy) (hn : n ≤ 100000000) (hm : m ≤ 100000000) :
    Calls Try.prog 17 #[.agg #[.bool sx, .slice a l c], .agg #[.bool sy, .slice a' l' c']] w fun e w' => e = .returned (.bool (eqI x y)) ∧ Below w.heap.size w w' := by
  subst hx hy; exact same_any ha hb hn hm


theorem bsub_lit {n m : Nat} {a a' : Option Addr} {l l' c c' : Nat} {x y : Int} {sx sy : Bool} {w : World} (ha : BigIs n w (.slice a l c) x) (hb : BigIs m w (.slice a' l' c') y) (hx : sg x = sx) (hy : sg y = sy) (hn : n ≤ 10000000) (hm : m ≤ 10000000) :
    Calls Try.prog 12 #[.agg #[.bool sx, .slice a l c], .agg #[.bool sy, .slice a' l' c']] w fun e w' =>
      ∃ b k d, e = .returned (.agg #[.bool (sg (x - y)), .slice b k d]) ∧ BigIs (max n m + 1) w' (.slice b k d) (x - y) ∧ Below w.heap.size w w' := by
  subst hx hy; exact bsub_any ha hb hn hm
theorem keep_other {V : World} {b c o : Nat} {x0 x1 v : Value} (h : V.cell? ⟨c, o, none⟩ = some v) (hne : c ≠ b) : ((V.setCell ⟨b, 0, none⟩ x0).setCell ⟨b, 1, none⟩ x1).cell? ⟨c, o, none⟩ = some v := by
  rw [World.cell?_setCell_other _ _ _ _ (by intro h; injection h; omega), World.cell?_setCell_other _ _ _ _ (by intro h; injection h; omega)]; exact h
theorem lt_of_cell {V : World} {b o : Nat} {v : Value} (h : V.cell? ⟨b, o, none⟩ = some v) : b < V.heap.size := World.block_lt_of_cell? _ _ h
theorem below_put {B : Nat} {w V : World} {b : Nat} {x0 x1 : Value} (h : Below B w V) (hb : B ≤ b) : Below B w ((V.setCell ⟨b, 0, none⟩ x0).setCell ⟨b, 1, none⟩ x1) := by go_grown

attribute [local go_sem ↓] Go.wp_at_zero Go.wp_at_succ
set_option maxRecDepth 100000 in
set_option maxHeartbeats 16000000 in
theorem law_adds {ah al bh bl a b : Int} (ha : LimbIs ah al a) (hb : LimbIs bh bl b) (w : World) :
    Calls Try.prog 3 #[.agg #[.int .u64 ah, .int .u64 al], .agg #[.int .u64 bh, .int .u64 bl]] w fun e w' => e = .returned (.bool true) ∧ Below w.heap.size w w' := by
  obtain ⟨X, hX⟩ : ∃ X, Hid (X = a + b) := ⟨_, rfl⟩
  obtain ⟨Y, hY⟩ : ∃ Y, Hid (Y = a - b) := ⟨_, rfl⟩
  obtain ⟨sv, hsv⟩ : ∃ sv, Hid (sv = (a + b) % 340282366920938463463374607431768211456) := ⟨_, rfl⟩
  obtain ⟨dv, hdv⟩ : ∃ dv, Hid (dv = (a - b) % 340282366920938463463374607431768211456) := ⟨_, rfl⟩
  have ls : lessB a b = sg Y := by unfold lessB sg; rw [decide_eq_decide, hY.out]; omega
  go_enter Try.func3, Try.ntmps3
  go_wp2_with fail
  refine (add_any ha hb _).mono ?_
  rw [← hsv.out]
  rintro e w1 ⟨sh, sl, hs, rfl, hb1⟩
  obtain ⟨⟨p1, p2', p3, p4⟩, p5⟩ := two_later hb1 (b := w.heap.size) (u := .int .u64 ah) (v := .int .u64 al) ⟨by simp [go_sem], by simp [go_sem], by simp [go_sem], by simp [go_sem]⟩
  obtain ⟨⟨q1, q2, q3, q4⟩, q5⟩ := two_later hb1 (b := w.heap.size + 1) (u := .int .u64 bh) (v := .int .u64 bl) ⟨by simp [go_sem], by simp [go_sem], by simp [go_sem], by simp [go_sem]⟩
  have x1 := bthen (B := w.heap.size) (w := w) (by go_grown) (by go_size) hb1
  have z1 := x1.size
  clear hb1
  go_wp2_with fail
  refine (sub_any ha hb _).mono ?_
  rw [← hdv.out]
  rintro e w2 ⟨dh, dl, hd, rfl, hb2⟩
  obtain ⟨⟨r1, r2, r3, r4⟩, r5⟩ := two_later hb2 (b := w.heap.size) (u := .int .u64 ah) (v := .int .u64 al) ⟨by simp [go_sem, *], by simp [go_sem, *], by simp [go_sem, *], by simp [go_sem, *]⟩
  obtain ⟨⟨s1, s2, s3, s4⟩, s5⟩ := two_later hb2 (b := w.heap.size + 1) (u := .int .u64 bh) (v := .int .u64 bl) ⟨by simp [go_sem, *], by simp [go_sem, *], by simp [go_sem, *], by simp [go_sem, *]⟩
  obtain ⟨⟨t1, t2, t3, t4⟩, t5⟩ := two_later hb2 (b := w1.heap.size) (u := .int .u64 sh) (v := .int .u64 sl) ⟨by simp [go_sem, *], by simp [go_sem, *], by simp [go_sem, *], by simp [go_sem, *]⟩
  have x2 := bthen (B := w.heap.size) (w := w) (by go_grown) (by go_size) hb2
  have z2 := x2.size
  clear hb2 p1 p2' p3 p4 p5 q1 q2 q3 q4 q5
  go_upto_region 3 with fail
  obtain ⟨W, hW⟩ : ∃ W, W = w2.alloc (Obj.cells #[Value.int IntKind.u64 dh, Value.int IntKind.u64 dl] 24) := ⟨_, rfl⟩
  rw [← hW]
  have S0 := hid (show Below w.heap.size w W ∧ W.cell? ⟨w.heap.size, 0, none⟩ = some (.int .u64 ah) ∧ W.cell? ⟨w.heap.size, 1, none⟩ = some (.int .u64 al) ∧ W.cell? ⟨w.heap.size + 1, 0, none⟩ = some (.int .u64 bh) ∧ W.cell? ⟨w.heap.size + 1, 1, none⟩ = some (.int .u64 bl) ∧ W.cell? ⟨w1.heap.size, 0, none⟩ = some (.int .u64 sh) ∧ W.cell? ⟨w1.heap.size, 1, none⟩ = some (.int .u64 sl) ∧ W.cell? ⟨w2.heap.size, 0, none⟩ = some (.int .u64 dh) ∧ W.cell? ⟨w2.heap.size, 1, none⟩ = some (.int .u64 dl) by
    rw [hW]
    exact ⟨by go_grown, by simp [go_sem, *], by simp [go_sem, *], by simp [go_sem, *], by simp [go_sem, *], by simp [go_sem, *], by simp [go_sem, *], by simp [go_sem, *], by simp [go_sem, *]⟩)
  clear hW r1 r2 r3 r4 r5 s1 s2 s3 s4 s5 t1 t2 t3 t4 t5 x1 x2 z1 z2
  have KS : Hid (∀ W2 : World, Below W.heap.size W W2 → (Below W.heap.size W W2 ∧ W2.cell? ⟨w.heap.size, 0, none⟩ = some (.int .u64 ah) ∧ W2.cell? ⟨w.heap.size, 1, none⟩ = some (.int .u64 al) ∧ W2.cell? ⟨w.heap.size + 1, 0, none⟩ = some (.int .u64 bh) ∧ W2.cell? ⟨w.heap.size + 1, 1, none⟩ = some (.int .u64 bl))) := fun W2 hb => ⟨hb, cell_later hb S0.out.2.1, cell_later hb S0.out.2.2.1, cell_later hb S0.out.2.2.2.1, cell_later hb S0.out.2.2.2.2.1⟩
  go_cut [9, 10] (fun p q wc => ∃ (b9 b10 lx cx ly cy : Nat) (ax ay : Option Addr), p = .pointer (some ⟨b9, 0, none⟩) ∧ q = .pointer (some ⟨b10, 0, none⟩) ∧ Hid (Two wc b9 (.bool (sg X)) (.slice ax lx cx) ∧ Two wc b10 (.bool (sg Y)) (.slice ay ly cy) ∧ W.heap.size ≤ b9 ∧ W.heap.size ≤ b10 ∧ b9 ≠ b10 ∧ BigIs 11 wc (.slice ax lx cx) X ∧ BigIs 11 wc (.slice ay ly cy) Y ∧ Below W.heap.size W wc))
  case first =>
    go_region_held3 (fun w' => Below W.heap.size W w' ∧ w'.cell? ⟨w.heap.size, 0, none⟩ = some (.int .u64 ah) ∧ w'.cell? ⟨w.heap.size, 1, none⟩ = some (.int .u64 al) ∧ w'.cell? ⟨w.heap.size + 1, 0, none⟩ = some (.int .u64 bh) ∧ w'.cell? ⟨w.heap.size + 1, 1, none⟩ = some (.int .u64 bl))
      (exact KS.out _ (by first | (go_grown; done) | fail))
      (first
        | (go_at_call 12; refine (bsub_any ((Q6.out.later (bthen (by go_grown) (by go_size) hb7)).later (by go_grown)) (Q7.out.later (by go_grown)) (by decide) (by decide)).mono ?_; rw [← hY.out]; rintro e w8 ⟨a8, l8, c8, rfl, o8, hb8⟩; have X8 := bthen (B := W.heap.size) (w := W) (by go_grown) (by go_size) hb8; have X8s := X8.size; have Z8 := bthen (B := w7.heap.size) (w := w7) (by go_grown) (by go_size) hb8; have Z8s := Z8.size; (try have n3a := (two_later Z8 n3a).1); (try have n3b := (two_later Z8 n3b).1); (try have n4a := (two_later Z8 n4a).1); (try have n4b := (two_later Z8 n4b).1); (try have n5a := (two_later Z8 n5a).1); (try have n5b := (two_later Z8 n5b).1); (try have n6a := (two_later Z8 n6a).1); (try have n6b := (two_later Z8 n6b).1); (try have n7a := (two_later Z8 n7a).1); (try have n7b := (two_later Z8 n7b).1); (try have n8a := (two_later hb8 (b := w7.heap.size) (u := .bool false) (v := .slice none 0 0) ⟨by first | (simp [go_sem]; done) | fail, by first | (simp [go_sem]; done) | fail, by first | (simp [go_sem]; done) | fail, by first | (simp [go_sem]; done) | fail⟩).1); (try have q8a := Two.lt n8a); (try have n8b := (two_later hb8 (b := w7.heap.size + 1) (u := .bool false) (v := .slice none 0 0) ⟨by first | (simp [go_sem]; done) | fail, by first | (simp [go_sem]; done) | fail, by first | (simp [go_sem]; done) | fail, by first | (simp [go_sem]; done) | fail⟩).1); (try have q8b := Two.lt n8b); (try have p3a := Two.lt n3a); (try obtain ⟨o3a1, o3a2, o3a3, o3a4⟩ := id n3a); (try have p3b := Two.lt n3b); (try obtain ⟨o3b1, o3b2, o3b3, o3b4⟩ := id n3b); (try have p4a := Two.lt n4a); (try obtain ⟨o4a1, o4a2, o4a3, o4a4⟩ := id n4a); (try have p4b := Two.lt n4b); (try obtain ⟨o4b1, o4b2, o4b3, o4b4⟩ := id n4b); (try have p5a := Two.lt n5a); (try obtain ⟨o5a1, o5a2, o5a3, o5a4⟩ := id n5a); (try have p5b := Two.lt n5b); (try obtain ⟨o5b1, o5b2, o5b3, o5b4⟩ := id n5b); (try have p6a := Two.lt n6a); (try obtain ⟨o6a1, o6a2, o6a3, o6a4⟩ := id n6a); (try have p6b := Two.lt n6b); (try obtain ⟨o6b1, o6b2, o6b3, o6b4⟩ := id n6b); (try have p7a := Two.lt n7a); (try obtain ⟨o7a1, o7a2, o7a3, o7a4⟩ := id n7a); (try have p7b := Two.lt n7b); (try obtain ⟨o7b1, o7b2, o7b3, o7b4⟩ := id n7b); (try have p8a := Two.lt n8a); (try obtain ⟨o8a1, o8a2, o8a3, o8a4⟩ := id n8a); (try have p8b := Two.lt n8b); (try obtain ⟨o8b1, o8b2, o8b3, o8b4⟩ := id n8b); have V5 := hid (((Q5.out.later Z6).later Z7).later Z8); have Q8 := hid o8; clear o8)
        | (go_at_call 11; have dummy := Q6; clear dummy; refine (of_any (by assumption) _).mono ?_; rintro e w7 ⟨a7, l7, c7, rfl, o7, hb7⟩; have X7 := bthen (B := W.heap.size) (w := W) (by go_grown) (by go_size) hb7; have X7s := X7.size; have Z7 := bthen (B := w6.heap.size) (w := w6) (by go_grown) (by go_size) hb7; have Z7s := Z7.size; (try have n3a := (two_later Z7 n3a).1); (try have n3b := (two_later Z7 n3b).1); (try have n4a := (two_later Z7 n4a).1); (try have n4b := (two_later Z7 n4b).1); (try have n5a := (two_later Z7 n5a).1); (try have n5b := (two_later Z7 n5b).1); (try have n6a := (two_later Z7 n6a).1); (try have n6b := (two_later Z7 n6b).1); (try have n7a := (two_later hb7 (b := w6.heap.size) (u := .bool false) (v := .slice none 0 0) ⟨by first | (simp [go_sem]; done) | fail, by first | (simp [go_sem]; done) | fail, by first | (simp [go_sem]; done) | fail, by first | (simp [go_sem]; done) | fail⟩).1); (try have q7a := Two.lt n7a); (try have n7b := (two_later hb7 (b := w6.heap.size + 1) (u := .bool false) (v := .slice none 0 0) ⟨by first | (simp [go_sem]; done) | fail, by first | (simp [go_sem]; done) | fail, by first | (simp [go_sem]; done) | fail, by first | (simp [go_sem]; done) | fail⟩).1); (try have q7b := Two.lt n7b); have Q7 := hid o7; clear o7)
        | (go_at_call 11; have dummy := Q5; clear dummy; refine (of_any (by assumption) _).mono ?_; rintro e w6 ⟨a6, l6, c6, rfl, o6, hb6⟩; have X6 := bthen (B := W.heap.size) (w := W) (by go_grown) (by go_size) hb6; have X6s := X6.size; have Z6 := bthen (B := w5.heap.size) (w := w5) (by go_grown) (by go_size) hb6; have Z6s := Z6.size; (try have n3a := (two_later Z6 n3a).1); (try have n3b := (two_later Z6 n3b).1); (try have n4a := (two_later Z6 n4a).1); (try have n4b := (two_later Z6 n4b).1); (try have n5a := (two_later Z6 n5a).1); (try have n5b := (two_later Z6 n5b).1); (try have n6a := (two_later hb6 (b := w5.heap.size) (u := .bool false) (v := .slice none 0 0) ⟨by first | (simp [go_sem]; done) | fail, by first | (simp [go_sem]; done) | fail, by first | (simp [go_sem]; done) | fail, by first | (simp [go_sem]; done) | fail⟩).1); (try have q6a := Two.lt n6a); (try have n6b := (two_later hb6 (b := w5.heap.size + 1) (u := .bool false) (v := .slice none 0 0) ⟨by first | (simp [go_sem]; done) | fail, by first | (simp [go_sem]; done) | fail, by first | (simp [go_sem]; done) | fail, by first | (simp [go_sem]; done) | fail⟩).1); (try have q6b := Two.lt n6b); have Q6 := hid o6; clear o6)
        | (go_at_call 10; refine (badd_any ((Q3.out.later (bthen (by go_grown) (by go_size) hb4)).later (by go_grown)) (Q4.out.later (by go_grown)) (by decide) (by decide)).mono ?_; rw [← hX.out]; rintro e w5 ⟨a5, l5, c5, rfl, o5, hb5⟩; have X5 := bthen (B := W.heap.size) (w := W) (by go_grown) (by go_size) hb5; have X5s := X5.size; have Z5 := bthen (B := w4.heap.size) (w := w4) (by go_grown) (by go_size) hb5; have Z5s := Z5.size; (try have n3a := (two_later Z5 n3a).1); (try have n3b := (two_later Z5 n3b).1); (try have n4a := (two_later Z5 n4a).1); (try have n4b := (two_later Z5 n4b).1); (try have n5a := (two_later hb5 (b := w4.heap.size) (u := .bool false) (v := .slice none 0 0) ⟨by first | (simp [go_sem]; done) | fail, by first | (simp [go_sem]; done) | fail, by first | (simp [go_sem]; done) | fail, by first | (simp [go_sem]; done) | fail⟩).1); (try have q5a := Two.lt n5a); (try have n5b := (two_later hb5 (b := w4.heap.size + 1) (u := .bool false) (v := .slice none 0 0) ⟨by first | (simp [go_sem]; done) | fail, by first | (simp [go_sem]; done) | fail, by first | (simp [go_sem]; done) | fail, by first | (simp [go_sem]; done) | fail⟩).1); (try have q5b := Two.lt n5b); have Q5 := hid o5; clear o5)
        | (go_at_call 11; have dummy := Q3; clear dummy; refine (of_any (by assumption) _).mono ?_; rintro e w4 ⟨a4, l4, c4, rfl, o4, hb4⟩; have X4 := bthen (B := W.heap.size) (w := W) (by go_grown) (by go_size) hb4; have X4s := X4.size; have Z4 := bthen (B := w3.heap.size) (w := w3) (by go_grown) (by go_size) hb4; have Z4s := Z4.size; (try have n3a := (two_later Z4 n3a).1); (try have n3b := (two_later Z4 n3b).1); (try have n4a := (two_later hb4 (b := w3.heap.size) (u := .bool false) (v := .slice none 0 0) ⟨by first | (simp [go_sem]; done) | fail, by first | (simp [go_sem]; done) | fail, by first | (simp [go_sem]; done) | fail, by first | (simp [go_sem]; done) | fail⟩).1); (try have q4a := Two.lt n4a); (try have n4b := (two_later hb4 (b := w3.heap.size + 1) (u := .bool false) (v := .slice none 0 0) ⟨by first | (simp [go_sem]; done) | fail, by first | (simp [go_sem]; done) | fail, by first | (simp [go_sem]; done) | fail, by first | (simp [go_sem]; done) | fail⟩).1); (try have q4b := Two.lt n4b); have Q4 := hid o4; clear o4)
        | (go_at_call 11; refine (of_any (by assumption) _).mono ?_; rintro e w3 ⟨a3, l3, c3, rfl, o3, hb3⟩; have X3 := bthen (B := W.heap.size) (w := W) (by go_grown) (by go_size) hb3; have X3s := X3.size; have Z3 := bthen (B := W.heap.size) (w := W) (by go_grown) (by go_size) hb3; have Z3s := Z3.size; (try have n3a := (two_later hb3 (b := W.heap.size) (u := .bool false) (v := .slice none 0 0) ⟨by first | (simp [go_sem]; done) | fail, by first | (simp [go_sem]; done) | fail, by first | (simp [go_sem]; done) | fail, by first | (simp [go_sem]; done) | fail⟩).1); (try have q3a := Two.lt n3a); (try have n3b := (two_later hb3 (b := W.heap.size + 1) (u := .bool false) (v := .slice none 0 0) ⟨by first | (simp [go_sem]; done) | fail, by first | (simp [go_sem]; done) | fail, by first | (simp [go_sem]; done) | fail, by first | (simp [go_sem]; done) | fail⟩).1); (try have q3b := Two.lt n3b); have Q3 := hid o3; clear o3))
    all_goals
      go_wp2_with fail
      go_meet
      refine ⟨_, _, l5, c5, l8, c8, a5, a8, rfl, rfl, ?_⟩
      refine Fin2.meets (w := w8) ?_ V5 Q8 ?_ ?_ ?_ ?_
      · first | (with_reducible exact fin_aa) | (with_reducible exact fin_aa') | (with_reducible exact fin_ab (by assumption)) | (with_reducible exact fin_ba (by assumption)) | (with_reducible exact fin_bb (by assumption) (by assumption) (by omega))
      · go_grown
      · omega
      · omega
      · omega
  case rest =>
    obtain ⟨b9, b10, lx, cx, ly, cy, ax, ay, rfl, rfl, ⟨t1, t2, f1, f2⟩, ⟨t3, t4, f3, f4⟩, g9, g10, hne, bx, by', hbc⟩ := hcut
    have F := hid (And.intro f1 (And.intro f2 (And.intro f3 (And.intro f4 (And.intro g9 (And.intro g10 hne))))))
    have BX := hid bx
    have BY := hid by'
    clear bx by' f1 f2 f3 f4 g9 g10 hne
    have X0 : 0 ≤ X := by rw [hX.out]; have := ha.range; have := hb.range; omega
    cases HO : overB a b
    · have hc : cmpI X (p2 128) = -1 := by
        have h1 : p2 128 = 340282366920938463463374607431768211456 := by decide
        unfold overB at HO; rw [h1, hX.out]
        exact cmpI_lt (by simpa using HO)
      replace HO := hid HO
      cases HU : sg Y
      · rw [HU] at t3
        replace HU := hid HU
        have S5 := hid (show Below wc.heap.size wc wc ∧ wc.cell? ⟨w.heap.size, 0, none⟩ = some (.int .u64 ah) ∧ wc.cell? ⟨w.heap.size, 1, none⟩ = some (.int .u64 al) ∧ wc.cell? ⟨w.heap.size + 1, 0, none⟩ = some (.int .u64 bh) ∧ wc.cell? ⟨w.heap.size + 1, 1, none⟩ = some (.int .u64 bl) ∧ wc.cell? ⟨w1.heap.size, 0, none⟩ = some (.int .u64 sh) ∧ wc.cell? ⟨w1.heap.size, 1, none⟩ = some (.int .u64 sl) ∧ wc.cell? ⟨w2.heap.size, 0, none⟩ = some (.int .u64 dh) ∧ wc.cell? ⟨w2.heap.size, 1, none⟩ = some (.int .u64 dl) ∧ wc.cell? ⟨b9, 0, none⟩ = some (.bool (sg X)) ∧ wc.cell? ⟨b9, 1, none⟩ = some (.slice ax lx cx) ∧ wc.cell? ⟨b10, 0, none⟩ = some (.bool false) ∧ wc.cell? ⟨b10, 1, none⟩ = some (.slice ay ly cy) from ⟨Below.refl _ _, cell_later hbc S0.out.2.1, cell_later hbc S0.out.2.2.1, cell_later hbc S0.out.2.2.2.1, cell_later hbc S0.out.2.2.2.2.1, cell_later hbc S0.out.2.2.2.2.2.1, cell_later hbc S0.out.2.2.2.2.2.2.1, cell_later hbc S0.out.2.2.2.2.2.2.2.1, cell_later hbc S0.out.2.2.2.2.2.2.2.2, t1, t2, t3, t4⟩)
        have KS5 : Hid (∀ W2 : World, Below wc.heap.size wc W2 → (Below wc.heap.size wc W2 ∧ W2.cell? ⟨w.heap.size, 0, none⟩ = some (.int .u64 ah) ∧ W2.cell? ⟨w.heap.size, 1, none⟩ = some (.int .u64 al) ∧ W2.cell? ⟨w.heap.size + 1, 0, none⟩ = some (.int .u64 bh) ∧ W2.cell? ⟨w.heap.size + 1, 1, none⟩ = some (.int .u64 bl) ∧ W2.cell? ⟨w1.heap.size, 0, none⟩ = some (.int .u64 sh) ∧ W2.cell? ⟨w1.heap.size, 1, none⟩ = some (.int .u64 sl) ∧ W2.cell? ⟨w2.heap.size, 0, none⟩ = some (.int .u64 dh) ∧ W2.cell? ⟨w2.heap.size, 1, none⟩ = some (.int .u64 dl) ∧ W2.cell? ⟨b9, 0, none⟩ = some (.bool (sg X)) ∧ W2.cell? ⟨b9, 1, none⟩ = some (.slice ax lx cx) ∧ W2.cell? ⟨b10, 0, none⟩ = some (.bool false) ∧ W2.cell? ⟨b10, 1, none⟩ = some (.slice ay ly cy))) := fun W2 hb => ⟨hb, cell_later hb S5.out.2.1, cell_later hb S5.out.2.2.1, cell_later hb S5.out.2.2.2.1, cell_later hb S5.out.2.2.2.2.1, cell_later hb S5.out.2.2.2.2.2.1, cell_later hb S5.out.2.2.2.2.2.2.1, cell_later hb S5.out.2.2.2.2.2.2.2.1, cell_later hb S5.out.2.2.2.2.2.2.2.2.1, cell_later hb S5.out.2.2.2.2.2.2.2.2.2.1, cell_later hb S5.out.2.2.2.2.2.2.2.2.2.2.1, cell_later hb S5.out.2.2.2.2.2.2.2.2.2.2.2.1, cell_later hb S5.out.2.2.2.2.2.2.2.2.2.2.2.2⟩
        clear KS t1 t2 t3 t4
        go_wp2_with fail
        go_region_held3 (fun w' => Below wc.heap.size wc w' ∧ w'.cell? ⟨w.heap.size, 0, none⟩ = some (.int .u64 ah) ∧ w'.cell? ⟨w.heap.size, 1, none⟩ = some (.int .u64 al) ∧ w'.cell? ⟨w.heap.size + 1, 0, none⟩ = some (.int .u64 bh) ∧ w'.cell? ⟨w.heap.size + 1, 1, none⟩ = some (.int .u64 bl) ∧ w'.cell? ⟨w1.heap.size, 0, none⟩ = some (.int .u64 sh) ∧ w'.cell? ⟨w1.heap.size, 1, none⟩ = some (.int .u64 sl) ∧ w'.cell? ⟨w2.heap.size, 0, none⟩ = some (.int .u64 dh) ∧ w'.cell? ⟨w2.heap.size, 1, none⟩ = some (.int .u64 dl) ∧ w'.cell? ⟨b9, 0, none⟩ = some (.bool (sg X)) ∧ w'.cell? ⟨b9, 1, none⟩ = some (.slice ax lx cx) ∧ w'.cell? ⟨b10, 0, none⟩ = some (.bool false) ∧ w'.cell? ⟨b10, 1, none⟩ = some (.slice ay ly cy))
          (exact KS5.out _ (by first | (go_grown; done) | fail))
          (first
            | (go_at_call 13; have dummy := Q14; clear dummy; refine (bcmp_any (Q14.out.later hb15) Q15.out (by decide) (by decide)).mono ?_; rintro e w16 ⟨rfl, hb16⟩; have X16 := bthen X15 X15.size hb16)
            | (go_at_call 11; have dummy := Q14; clear dummy; refine (of_any (by assumption) _).mono ?_; rintro e w15 ⟨a15, l15, c15, rfl, o15, hb15⟩; have X15 := bthen X14 X14.size hb15; have Q15 := hid o15; clear o15)
            | (go_at_call 11; refine (of_any (by assumption) _).mono ?_; rintro e w14 ⟨a14, l14, c14, rfl, o14, hb14⟩; have X14 := bthen X13 X13.size hb14; have Q14 := hid o14; clear o14)
            | (go_at_call 15; refine (cmp_any ha hb _).mono ?_; rintro e w13 ⟨rfl, hb13⟩; have X13 := bthen X12 X12.size hb13)
            | (go_at_call 13; refine (bcmp_any (BX.out.later X11) Q11.out (by decide) (by decide)).mono ?_; rintro e w12 ⟨rfl, hb12⟩; have X12 := bthen X11 X11.size hb12)
            | (go_at_call 14; refine (pow2_lit 128 128 rfl (by decide) _).mono ?_; rintro e w11 ⟨a11, l11, c11, rfl, o11, hb11⟩; have X11 := bthen (B := wc.heap.size) (w := wc) (by go_grown) (by go_size) hb11; have Q11 := hid o11; clear o11))
        have xw := bthen S0.out.1 S0.out.1.size hbc
        have xc := bthen xw xw.size X16
        have T9 := hid (two_later X16 (b := b9) (u := .bool (sg X)) (v := .slice ax lx cx) ⟨S5.out.2.2.2.2.2.2.2.2.2.1, S5.out.2.2.2.2.2.2.2.2.2.2.1, F.out.1, F.out.2.1⟩).1
        have T10 := hid (two_later X16 (b := b10) (u := .bool false) (v := .slice ay ly cy) ⟨S5.out.2.2.2.2.2.2.2.2.2.2.2.1, S5.out.2.2.2.2.2.2.2.2.2.2.2.2, F.out.2.2.1, F.out.2.2.2.1⟩).1
        replace BX := hid (BX.out.later X16)
        replace BY := hid (BY.out.later X16)
        have SD := hid (show w16.cell? ⟨w1.heap.size, 0, none⟩ = some (.int .u64 sh) ∧ w16.cell? ⟨w1.heap.size, 1, none⟩ = some (.int .u64 sl) ∧ w16.cell? ⟨w2.heap.size, 0, none⟩ = some (.int .u64 dh) ∧ w16.cell? ⟨w2.heap.size, 1, none⟩ = some (.int .u64 dl) from ⟨cell_later X16 S5.out.2.2.2.2.2.1, cell_later X16 S5.out.2.2.2.2.2.2.1, cell_later X16 S5.out.2.2.2.2.2.2.2.1, cell_later X16 S5.out.2.2.2.2.2.2.2.2.1⟩)
        have LT := hid (And.intro (lt_of_cell S0.out.2.2.2.2.2.1) (lt_of_cell S0.out.2.2.2.2.2.2.2.1))
        have GE : Hid (w.heap.size ≤ b9 ∧ w.heap.size ≤ b10) := ⟨Nat.le_trans S0.out.1.size F.out.2.2.2.2.1, Nat.le_trans S0.out.1.size F.out.2.2.2.2.2.1⟩
        have NE : Hid (w1.heap.size ≠ b9 ∧ w2.heap.size ≠ b9 ∧ w1.heap.size ≠ b10 ∧ w2.heap.size ≠ b10 ∧ b9 ≠ b10) := by have h1 := LT.out; have h2 := F.out.2.2.2.2; exact ⟨by omega, by omega, by omega, by omega, by omega⟩
        clear hb11 X11 Q11 hb12 X12 hb13 X13 hb14 X14 Q14 hb15 X15 Q15 hb16 X16 KS5 S5 S0 hbc hc xw F LT
        go_upto_region 10 with fail
        have ex : eqI sv (X) = true := by
          refine eqI_of ?_
          rw [hsv.out, hX.out]
          have h1 : p2 128 = 340282366920938463463374607431768211456 := by decide
          have h2 := ha.range
          have h3 := hb.range
          have h4 := HO.out
          unfold overB at h4
          simp only [decide_eq_false_iff_not] at h4
          omega
        have ey : eqI dv (Y) = true := by
          refine eqI_of ?_
          rw [hdv.out, hY.out]
          have h1 : p2 128 = 340282366920938463463374607431768211456 := by decide
          have h2 := ha.range
          have h3 := hb.range
          have h4 := HU.out
          unfold sg at h4
          rw [hY.out] at h4
          simp only [decide_eq_false_iff_not] at h4
          omega
        have KS : Hid (∀ W2 : World, Below w16.heap.size w16 W2 → (Below w16.heap.size w16 W2 ∧ W2.cell? ⟨w1.heap.size, 0, none⟩ = some (.int .u64 sh) ∧ W2.cell? ⟨w1.heap.size, 1, none⟩ = some (.int .u64 sl) ∧ W2.cell? ⟨w2.heap.size, 0, none⟩ = some (.int .u64 dh) ∧ W2.cell? ⟨w2.heap.size, 1, none⟩ = some (.int .u64 dl) ∧ W2.cell? ⟨b9, 0, none⟩ = some (.bool (sg X)) ∧ W2.cell? ⟨b9, 1, none⟩ = some (.slice ax lx cx) ∧ W2.cell? ⟨b10, 0, none⟩ = some (.bool false) ∧ W2.cell? ⟨b10, 1, none⟩ = some (.slice ay ly cy))) := fun W2 hb => ⟨hb, cell_later hb SD.out.1, cell_later hb SD.out.2.1, cell_later hb SD.out.2.2.1, cell_later hb SD.out.2.2.2, cell_later hb T9.out.1, cell_later hb T9.out.2.1, cell_later hb T10.out.1, cell_later hb T10.out.2.1⟩
        go_region_held3 (fun w' => Below w16.heap.size w16 w' ∧ w'.cell? ⟨w1.heap.size, 0, none⟩ = some (.int .u64 sh) ∧ w'.cell? ⟨w1.heap.size, 1, none⟩ = some (.int .u64 sl) ∧ w'.cell? ⟨w2.heap.size, 0, none⟩ = some (.int .u64 dh) ∧ w'.cell? ⟨w2.heap.size, 1, none⟩ = some (.int .u64 dl) ∧ w'.cell? ⟨b9, 0, none⟩ = some (.bool (sg X)) ∧ w'.cell? ⟨b9, 1, none⟩ = some (.slice ax lx cx) ∧ w'.cell? ⟨b10, 0, none⟩ = some (.bool false) ∧ w'.cell? ⟨b10, 1, none⟩ = some (.slice ay ly cy))
          (exact KS.out _ (by first | (go_grown; done) | fail))
          (first
            | (go_at_call 17; have dummy := Q24; clear dummy; refine (same_lit Q24.out (BY.out.later X24) rfl (by first | rfl | exact HU.out) (by decide) (by decide)).mono ?_; rintro e w25 ⟨rfl, hb25⟩; have X25 := bthen X24 X24.size hb25)
            | (go_at_call 11; have dummy := X23; clear dummy; refine (of_any hd _).mono ?_; rintro e w24 ⟨a24, l24, c24, rfl, o24, hb24⟩; have X24 := bthen X23 X23.size hb24; have Q24 := hid o24; clear o24)
            | (go_at_call 17; refine (same_lit Q22.out (BX.out.later X22) rfl rfl (by decide) (by decide)).mono ?_; rintro e w23 ⟨rfl, hb23⟩; have X23 := bthen X22 X22.size hb23)
            | (go_at_call 11; refine (of_any hs _).mono ?_; rintro e w22 ⟨a22, l22, c22, rfl, o22, hb22⟩; have X22 := bthen X21 X21.size hb22; have Q22 := hid o22; clear o22)
            | (go_at_call 16; refine (answers_any _).mono ?_; rintro e w21 ⟨rfl, hb21⟩; have X21 := bthen (B := w16.heap.size) (w := w16) (by go_grown) (by go_size) hb21))
        go_wp2
        go_ret
        exact ⟨rfl, bthen xc xc.size X25⟩
      · rw [HU] at t3
        replace HU := hid HU
        have S5 := hid (show Below wc.heap.size wc wc ∧ wc.cell? ⟨w.heap.size, 0, none⟩ = some (.int .u64 ah) ∧ wc.cell? ⟨w.heap.size, 1, none⟩ = some (.int .u64 al) ∧ wc.cell? ⟨w.heap.size + 1, 0, none⟩ = some (.int .u64 bh) ∧ wc.cell? ⟨w.heap.size + 1, 1, none⟩ = some (.int .u64 bl) ∧ wc.cell? ⟨w1.heap.size, 0, none⟩ = some (.int .u64 sh) ∧ wc.cell? ⟨w1.heap.size, 1, none⟩ = some (.int .u64 sl) ∧ wc.cell? ⟨w2.heap.size, 0, none⟩ = some (.int .u64 dh) ∧ wc.cell? ⟨w2.heap.size, 1, none⟩ = some (.int .u64 dl) ∧ wc.cell? ⟨b9, 0, none⟩ = some (.bool (sg X)) ∧ wc.cell? ⟨b9, 1, none⟩ = some (.slice ax lx cx) ∧ wc.cell? ⟨b10, 0, none⟩ = some (.bool true) ∧ wc.cell? ⟨b10, 1, none⟩ = some (.slice ay ly cy) from ⟨Below.refl _ _, cell_later hbc S0.out.2.1, cell_later hbc S0.out.2.2.1, cell_later hbc S0.out.2.2.2.1, cell_later hbc S0.out.2.2.2.2.1, cell_later hbc S0.out.2.2.2.2.2.1, cell_later hbc S0.out.2.2.2.2.2.2.1, cell_later hbc S0.out.2.2.2.2.2.2.2.1, cell_later hbc S0.out.2.2.2.2.2.2.2.2, t1, t2, t3, t4⟩)
        have KS5 : Hid (∀ W2 : World, Below wc.heap.size wc W2 → (Below wc.heap.size wc W2 ∧ W2.cell? ⟨w.heap.size, 0, none⟩ = some (.int .u64 ah) ∧ W2.cell? ⟨w.heap.size, 1, none⟩ = some (.int .u64 al) ∧ W2.cell? ⟨w.heap.size + 1, 0, none⟩ = some (.int .u64 bh) ∧ W2.cell? ⟨w.heap.size + 1, 1, none⟩ = some (.int .u64 bl) ∧ W2.cell? ⟨w1.heap.size, 0, none⟩ = some (.int .u64 sh) ∧ W2.cell? ⟨w1.heap.size, 1, none⟩ = some (.int .u64 sl) ∧ W2.cell? ⟨w2.heap.size, 0, none⟩ = some (.int .u64 dh) ∧ W2.cell? ⟨w2.heap.size, 1, none⟩ = some (.int .u64 dl) ∧ W2.cell? ⟨b9, 0, none⟩ = some (.bool (sg X)) ∧ W2.cell? ⟨b9, 1, none⟩ = some (.slice ax lx cx) ∧ W2.cell? ⟨b10, 0, none⟩ = some (.bool true) ∧ W2.cell? ⟨b10, 1, none⟩ = some (.slice ay ly cy))) := fun W2 hb => ⟨hb, cell_later hb S5.out.2.1, cell_later hb S5.out.2.2.1, cell_later hb S5.out.2.2.2.1, cell_later hb S5.out.2.2.2.2.1, cell_later hb S5.out.2.2.2.2.2.1, cell_later hb S5.out.2.2.2.2.2.2.1, cell_later hb S5.out.2.2.2.2.2.2.2.1, cell_later hb S5.out.2.2.2.2.2.2.2.2.1, cell_later hb S5.out.2.2.2.2.2.2.2.2.2.1, cell_later hb S5.out.2.2.2.2.2.2.2.2.2.2.1, cell_later hb S5.out.2.2.2.2.2.2.2.2.2.2.2.1, cell_later hb S5.out.2.2.2.2.2.2.2.2.2.2.2.2⟩
        clear KS t1 t2 t3 t4
        go_wp2_with fail
        go_region_held3 (fun w' => Below wc.heap.size wc w' ∧ w'.cell? ⟨w.heap.size, 0, none⟩ = some (.int .u64 ah) ∧ w'.cell? ⟨w.heap.size, 1, none⟩ = some (.int .u64 al) ∧ w'.cell? ⟨w.heap.size + 1, 0, none⟩ = some (.int .u64 bh) ∧ w'.cell? ⟨w.heap.size + 1, 1, none⟩ = some (.int .u64 bl) ∧ w'.cell? ⟨w1.heap.size, 0, none⟩ = some (.int .u64 sh) ∧ w'.cell? ⟨w1.heap.size, 1, none⟩ = some (.int .u64 sl) ∧ w'.cell? ⟨w2.heap.size, 0, none⟩ = some (.int .u64 dh) ∧ w'.cell? ⟨w2.heap.size, 1, none⟩ = some (.int .u64 dl) ∧ w'.cell? ⟨b9, 0, none⟩ = some (.bool (sg X)) ∧ w'.cell? ⟨b9, 1, none⟩ = some (.slice ax lx cx) ∧ w'.cell? ⟨b10, 0, none⟩ = some (.bool true) ∧ w'.cell? ⟨b10, 1, none⟩ = some (.slice ay ly cy))
          (exact KS5.out _ (by first | (go_grown; done) | fail))
          (first
            | (go_at_call 13; have dummy := Q14; clear dummy; refine (bcmp_any (Q14.out.later hb15) Q15.out (by decide) (by decide)).mono ?_; rintro e w16 ⟨rfl, hb16⟩; have X16 := bthen X15 X15.size hb16)
            | (go_at_call 11; have dummy := Q14; clear dummy; refine (of_any (by assumption) _).mono ?_; rintro e w15 ⟨a15, l15, c15, rfl, o15, hb15⟩; have X15 := bthen X14 X14.size hb15; have Q15 := hid o15; clear o15)
            | (go_at_call 11; refine (of_any (by assumption) _).mono ?_; rintro e w14 ⟨a14, l14, c14, rfl, o14, hb14⟩; have X14 := bthen X13 X13.size hb14; have Q14 := hid o14; clear o14)
            | (go_at_call 15; refine (cmp_any ha hb _).mono ?_; rintro e w13 ⟨rfl, hb13⟩; have X13 := bthen X12 X12.size hb13)
            | (go_at_call 13; refine (bcmp_any (BX.out.later X11) Q11.out (by decide) (by decide)).mono ?_; rintro e w12 ⟨rfl, hb12⟩; have X12 := bthen X11 X11.size hb12)
            | (go_at_call 14; refine (pow2_lit 128 128 rfl (by decide) _).mono ?_; rintro e w11 ⟨a11, l11, c11, rfl, o11, hb11⟩; have X11 := bthen (B := wc.heap.size) (w := wc) (by go_grown) (by go_size) hb11; have Q11 := hid o11; clear o11))
        have xw := bthen S0.out.1 S0.out.1.size hbc
        have xc := bthen xw xw.size X16
        have T9 := hid (two_later X16 (b := b9) (u := .bool (sg X)) (v := .slice ax lx cx) ⟨S5.out.2.2.2.2.2.2.2.2.2.1, S5.out.2.2.2.2.2.2.2.2.2.2.1, F.out.1, F.out.2.1⟩).1
        have T10 := hid (two_later X16 (b := b10) (u := .bool true) (v := .slice ay ly cy) ⟨S5.out.2.2.2.2.2.2.2.2.2.2.2.1, S5.out.2.2.2.2.2.2.2.2.2.2.2.2, F.out.2.2.1, F.out.2.2.2.1⟩).1
        replace BX := hid (BX.out.later X16)
        replace BY := hid (BY.out.later X16)
        have SD := hid (show w16.cell? ⟨w1.heap.size, 0, none⟩ = some (.int .u64 sh) ∧ w16.cell? ⟨w1.heap.size, 1, none⟩ = some (.int .u64 sl) ∧ w16.cell? ⟨w2.heap.size, 0, none⟩ = some (.int .u64 dh) ∧ w16.cell? ⟨w2.heap.size, 1, none⟩ = some (.int .u64 dl) from ⟨cell_later X16 S5.out.2.2.2.2.2.1, cell_later X16 S5.out.2.2.2.2.2.2.1, cell_later X16 S5.out.2.2.2.2.2.2.2.1, cell_later X16 S5.out.2.2.2.2.2.2.2.2.1⟩)
        have LT := hid (And.intro (lt_of_cell S0.out.2.2.2.2.2.1) (lt_of_cell S0.out.2.2.2.2.2.2.2.1))
        have GE : Hid (w.heap.size ≤ b9 ∧ w.heap.size ≤ b10) := ⟨Nat.le_trans S0.out.1.size F.out.2.2.2.2.1, Nat.le_trans S0.out.1.size F.out.2.2.2.2.2.1⟩
        have NE : Hid (w1.heap.size ≠ b9 ∧ w2.heap.size ≠ b9 ∧ w1.heap.size ≠ b10 ∧ w2.heap.size ≠ b10 ∧ b9 ≠ b10) := by have h1 := LT.out; have h2 := F.out.2.2.2.2; exact ⟨by omega, by omega, by omega, by omega, by omega⟩
        clear hb11 X11 Q11 hb12 X12 hb13 X13 hb14 X14 Q14 hb15 X15 Q15 hb16 X16 KS5 S5 S0 hbc hc xw F LT
        go_upto_region 9 with fail
        obtain ⟨z1, z2, z3, z4⟩ := id T10.out
        have ge := GE.out.2
        go_region_with
          (first
            | (go_at_call 10; refine (badd_lit (BY.out.later X19) Q19.out (by first | rfl | exact HU.out) rfl (by decide) (by decide)).mono ?_; rintro e w20 ⟨a20, l20, c20, rfl, o20, hb20⟩; have X20 := bthen X19 X19.size hb20; have x20 := bthen xc xc.size X20; have Q20 := hid o20; clear o20; obtain ⟨⟨k1, k2, k3, k4⟩, k5⟩ := two_later X20 T10.out)
            | (go_at_call 14; refine (pow2_lit 128 128 rfl (by decide) _).mono ?_; rintro e w19 ⟨a19, l19, c19, rfl, o19, hb19⟩; have X19 := bthen (B := w16.heap.size) (w := w16) (by go_grown) (by go_size) hb19; have x19 := bthen xc xc.size X19; have Q19 := hid o19; clear o19; obtain ⟨⟨j1, j2, j3, j4⟩, j5⟩ := two_later X19 T10.out))
        all_goals
          go_upto_region 10 with fail
          clear k1 k2 k3 k4 k5 j1 j2 j3 j4 j5 z1 z2 z3 z4 ge
          obtain ⟨V9, hV⟩ : ∃ V, Hid (V = ((w20.setCell ⟨b10, 0, none⟩ (.bool (sg (Y + p2 128)))).setCell ⟨b10, 1, none⟩ (.slice a20 l20 c20))) := ⟨_, rfl⟩
          rw [← hV.out]
          replace xc : Below w.heap.size w V9 := by rw [hV.out]; exact below_put (bthen xc xc.size X20) GE.out.2
          replace BX := hid (show BigIs 11 V9 (.slice ax lx cx) (X) by rw [hV.out]; exact BigIs.put (BX.out.later X20) (two_later X20 T10.out).1 (noInt_bool _) (noInt_slice _ _ _) _ _)
          replace BY := hid (show BigIs 12 V9 (.slice a20 l20 c20) (Y + p2 128) by rw [hV.out]; exact BigIs.put Q20.out (two_later X20 T10.out).1 (noInt_bool _) (noInt_slice _ _ _) _ _)
          replace T9 := hid (show Two V9 b9 (.bool (sg X)) (.slice ax lx cx) by rw [hV.out]; obtain ⟨h1, h2, h3, h4⟩ := (two_later X20 T9.out).1; exact ⟨keep_other h1 NE.out.2.2.2.2, keep_other h2 NE.out.2.2.2.2, by rw [World.frozen?_setCell, World.frozen?_setCell]; exact h3, by rw [World.frozen?_setCell, World.frozen?_setCell]; exact h4⟩)
          replace T10 := hid (show Two V9 b10 (.bool (sg (Y + p2 128))) (.slice a20 l20 c20) by rw [hV.out]; exact (two_later X20 T10.out).1.set _ _)
          replace SD := hid (show V9.cell? ⟨w1.heap.size, 0, none⟩ = some (.int .u64 sh) ∧ V9.cell? ⟨w1.heap.size, 1, none⟩ = some (.int .u64 sl) ∧ V9.cell? ⟨w2.heap.size, 0, none⟩ = some (.int .u64 dh) ∧ V9.cell? ⟨w2.heap.size, 1, none⟩ = some (.int .u64 dl) by rw [hV.out]; exact ⟨keep_other (cell_later X20 SD.out.1) NE.out.2.2.1, keep_other (cell_later X20 SD.out.2.1) NE.out.2.2.1, keep_other (cell_later X20 SD.out.2.2.1) NE.out.2.2.2.1, keep_other (cell_later X20 SD.out.2.2.2) NE.out.2.2.2.1⟩)
          clear hV hb19 hb20 X19 X20 x19 x20 Q19 Q20
          have ex : eqI sv (X) = true := by
            refine eqI_of ?_
            rw [hsv.out, hX.out]
            have h1 : p2 128 = 340282366920938463463374607431768211456 := by decide
            have h2 := ha.range
            have h3 := hb.range
            have h4 := HO.out
            unfold overB at h4
            simp only [decide_eq_false_iff_not] at h4
            omega
          have ey : eqI dv (Y + p2 128) = true := by
            refine eqI_of ?_
            rw [hdv.out, hY.out]
            have h1 : p2 128 = 340282366920938463463374607431768211456 := by decide
            have h2 := ha.range
            have h3 := hb.range
            have h4 := HU.out
            unfold sg at h4
            rw [hY.out] at h4
            simp only [decide_eq_true_eq] at h4
            omega
          have KS : Hid (∀ W2 : World, Below V9.heap.size V9 W2 → (Below V9.heap.size V9 W2 ∧ W2.cell? ⟨w1.heap.size, 0, none⟩ = some (.int .u64 sh) ∧ W2.cell? ⟨w1.heap.size, 1, none⟩ = some (.int .u64 sl) ∧ W2.cell? ⟨w2.heap.size, 0, none⟩ = some (.int .u64 dh) ∧ W2.cell? ⟨w2.heap.size, 1, none⟩ = some (.int .u64 dl) ∧ W2.cell? ⟨b9, 0, none⟩ = some (.bool (sg X)) ∧ W2.cell? ⟨b9, 1, none⟩ = some (.slice ax lx cx) ∧ W2.cell? ⟨b10, 0, none⟩ = some (.bool (sg (Y + p2 128))) ∧ W2.cell? ⟨b10, 1, none⟩ = some (.slice a20 l20 c20))) := fun W2 hb => ⟨hb, cell_later hb SD.out.1, cell_later hb SD.out.2.1, cell_later hb SD.out.2.2.1, cell_later hb SD.out.2.2.2, cell_later hb T9.out.1, cell_later hb T9.out.2.1, cell_later hb T10.out.1, cell_later hb T10.out.2.1⟩
          go_region_held3 (fun w' => Below V9.heap.size V9 w' ∧ w'.cell? ⟨w1.heap.size, 0, none⟩ = some (.int .u64 sh) ∧ w'.cell? ⟨w1.heap.size, 1, none⟩ = some (.int .u64 sl) ∧ w'.cell? ⟨w2.heap.size, 0, none⟩ = some (.int .u64 dh) ∧ w'.cell? ⟨w2.heap.size, 1, none⟩ = some (.int .u64 dl) ∧ w'.cell? ⟨b9, 0, none⟩ = some (.bool (sg X)) ∧ w'.cell? ⟨b9, 1, none⟩ = some (.slice ax lx cx) ∧ w'.cell? ⟨b10, 0, none⟩ = some (.bool (sg (Y + p2 128))) ∧ w'.cell? ⟨b10, 1, none⟩ = some (.slice a20 l20 c20))
            (exact KS.out _ (by first | (go_grown; done) | fail))
            (first
              | (go_at_call 17; have dummy := Q24; clear dummy; refine (same_lit Q24.out (BY.out.later X24) rfl (by first | rfl | exact HU.out) (by decide) (by decide)).mono ?_; rintro e w25 ⟨rfl, hb25⟩; have X25 := bthen X24 X24.size hb25)
              | (go_at_call 11; have dummy := X23; clear dummy; refine (of_any hd _).mono ?_; rintro e w24 ⟨a24, l24, c24, rfl, o24, hb24⟩; have X24 := bthen X23 X23.size hb24; have Q24 := hid o24; clear o24)
              | (go_at_call 17; refine (same_lit Q22.out (BX.out.later X22) rfl rfl (by decide) (by decide)).mono ?_; rintro e w23 ⟨rfl, hb23⟩; have X23 := bthen X22 X22.size hb23)
              | (go_at_call 11; refine (of_any hs _).mono ?_; rintro e w22 ⟨a22, l22, c22, rfl, o22, hb22⟩; have X22 := bthen X21 X21.size hb22; have Q22 := hid o22; clear o22)
              | (go_at_call 16; refine (answers_any _).mono ?_; rintro e w21 ⟨rfl, hb21⟩; have X21 := bthen (B := V9.heap.size) (w := V9) (by go_grown) (by go_size) hb21))
          go_wp2
          go_ret
          exact ⟨rfl, bthen xc xc.size X25⟩
    · have hc : 0 ≤ cmpI X (p2 128) := by
        have h1 : p2 128 = 340282366920938463463374607431768211456 := by decide
        unfold overB at HO; rw [h1, hX.out]
        unfold cmpI; rw [if_neg (by simpa using HO)]; split <;> omega
      replace HO := hid HO
      cases HU : sg Y
      · rw [HU] at t3
        replace HU := hid HU
        have S5 := hid (show Below wc.heap.size wc wc ∧ wc.cell? ⟨w.heap.size, 0, none⟩ = some (.int .u64 ah) ∧ wc.cell? ⟨w.heap.size, 1, none⟩ = some (.int .u64 al) ∧ wc.cell? ⟨w.heap.size + 1, 0, none⟩ = some (.int .u64 bh) ∧ wc.cell? ⟨w.heap.size + 1, 1, none⟩ = some (.int .u64 bl) ∧ wc.cell? ⟨w1.heap.size, 0, none⟩ = some (.int .u64 sh) ∧ wc.cell? ⟨w1.heap.size, 1, none⟩ = some (.int .u64 sl) ∧ wc.cell? ⟨w2.heap.size, 0, none⟩ = some (.int .u64 dh) ∧ wc.cell? ⟨w2.heap.size, 1, none⟩ = some (.int .u64 dl) ∧ wc.cell? ⟨b9, 0, none⟩ = some (.bool (sg X)) ∧ wc.cell? ⟨b9, 1, none⟩ = some (.slice ax lx cx) ∧ wc.cell? ⟨b10, 0, none⟩ = some (.bool false) ∧ wc.cell? ⟨b10, 1, none⟩ = some (.slice ay ly cy) from ⟨Below.refl _ _, cell_later hbc S0.out.2.1, cell_later hbc S0.out.2.2.1, cell_later hbc S0.out.2.2.2.1, cell_later hbc S0.out.2.2.2.2.1, cell_later hbc S0.out.2.2.2.2.2.1, cell_later hbc S0.out.2.2.2.2.2.2.1, cell_later hbc S0.out.2.2.2.2.2.2.2.1, cell_later hbc S0.out.2.2.2.2.2.2.2.2, t1, t2, t3, t4⟩)
        have KS5 : Hid (∀ W2 : World, Below wc.heap.size wc W2 → (Below wc.heap.size wc W2 ∧ W2.cell? ⟨w.heap.size, 0, none⟩ = some (.int .u64 ah) ∧ W2.cell? ⟨w.heap.size, 1, none⟩ = some (.int .u64 al) ∧ W2.cell? ⟨w.heap.size + 1, 0, none⟩ = some (.int .u64 bh) ∧ W2.cell? ⟨w.heap.size + 1, 1, none⟩ = some (.int .u64 bl) ∧ W2.cell? ⟨w1.heap.size, 0, none⟩ = some (.int .u64 sh) ∧ W2.cell? ⟨w1.heap.size, 1, none⟩ = some (.int .u64 sl) ∧ W2.cell? ⟨w2.heap.size, 0, none⟩ = some (.int .u64 dh) ∧ W2.cell? ⟨w2.heap.size, 1, none⟩ = some (.int .u64 dl) ∧ W2.cell? ⟨b9, 0, none⟩ = some (.bool (sg X)) ∧ W2.cell? ⟨b9, 1, none⟩ = some (.slice ax lx cx) ∧ W2.cell? ⟨b10, 0, none⟩ = some (.bool false) ∧ W2.cell? ⟨b10, 1, none⟩ = some (.slice ay ly cy))) := fun W2 hb => ⟨hb, cell_later hb S5.out.2.1, cell_later hb S5.out.2.2.1, cell_later hb S5.out.2.2.2.1, cell_later hb S5.out.2.2.2.2.1, cell_later hb S5.out.2.2.2.2.2.1, cell_later hb S5.out.2.2.2.2.2.2.1, cell_later hb S5.out.2.2.2.2.2.2.2.1, cell_later hb S5.out.2.2.2.2.2.2.2.2.1, cell_later hb S5.out.2.2.2.2.2.2.2.2.2.1, cell_later hb S5.out.2.2.2.2.2.2.2.2.2.2.1, cell_later hb S5.out.2.2.2.2.2.2.2.2.2.2.2.1, cell_later hb S5.out.2.2.2.2.2.2.2.2.2.2.2.2⟩
        clear KS t1 t2 t3 t4
        go_wp2_with fail
        go_region_held3 (fun w' => Below wc.heap.size wc w' ∧ w'.cell? ⟨w.heap.size, 0, none⟩ = some (.int .u64 ah) ∧ w'.cell? ⟨w.heap.size, 1, none⟩ = some (.int .u64 al) ∧ w'.cell? ⟨w.heap.size + 1, 0, none⟩ = some (.int .u64 bh) ∧ w'.cell? ⟨w.heap.size + 1, 1, none⟩ = some (.int .u64 bl) ∧ w'.cell? ⟨w1.heap.size, 0, none⟩ = some (.int .u64 sh) ∧ w'.cell? ⟨w1.heap.size, 1, none⟩ = some (.int .u64 sl) ∧ w'.cell? ⟨w2.heap.size, 0, none⟩ = some (.int .u64 dh) ∧ w'.cell? ⟨w2.heap.size, 1, none⟩ = some (.int .u64 dl) ∧ w'.cell? ⟨b9, 0, none⟩ = some (.bool (sg X)) ∧ w'.cell? ⟨b9, 1, none⟩ = some (.slice ax lx cx) ∧ w'.cell? ⟨b10, 0, none⟩ = some (.bool false) ∧ w'.cell? ⟨b10, 1, none⟩ = some (.slice ay ly cy))
          (exact KS5.out _ (by first | (go_grown; done) | fail))
          (first
            | (go_at_call 13; have dummy := Q14; clear dummy; refine (bcmp_any (Q14.out.later hb15) Q15.out (by decide) (by decide)).mono ?_; rintro e w16 ⟨rfl, hb16⟩; have X16 := bthen X15 X15.size hb16)
            | (go_at_call 11; have dummy := Q14; clear dummy; refine (of_any (by assumption) _).mono ?_; rintro e w15 ⟨a15, l15, c15, rfl, o15, hb15⟩; have X15 := bthen X14 X14.size hb15; have Q15 := hid o15; clear o15)
            | (go_at_call 11; refine (of_any (by assumption) _).mono ?_; rintro e w14 ⟨a14, l14, c14, rfl, o14, hb14⟩; have X14 := bthen X13 X13.size hb14; have Q14 := hid o14; clear o14)
            | (go_at_call 15; refine (cmp_any ha hb _).mono ?_; rintro e w13 ⟨rfl, hb13⟩; have X13 := bthen X12 X12.size hb13)
            | (go_at_call 13; refine (bcmp_any (BX.out.later X11) Q11.out (by decide) (by decide)).mono ?_; rintro e w12 ⟨rfl, hb12⟩; have X12 := bthen X11 X11.size hb12)
            | (go_at_call 14; refine (pow2_lit 128 128 rfl (by decide) _).mono ?_; rintro e w11 ⟨a11, l11, c11, rfl, o11, hb11⟩; have X11 := bthen (B := wc.heap.size) (w := wc) (by go_grown) (by go_size) hb11; have Q11 := hid o11; clear o11))
        have xw := bthen S0.out.1 S0.out.1.size hbc
        have xc := bthen xw xw.size X16
        have T9 := hid (two_later X16 (b := b9) (u := .bool (sg X)) (v := .slice ax lx cx) ⟨S5.out.2.2.2.2.2.2.2.2.2.1, S5.out.2.2.2.2.2.2.2.2.2.2.1, F.out.1, F.out.2.1⟩).1
        have T10 := hid (two_later X16 (b := b10) (u := .bool false) (v := .slice ay ly cy) ⟨S5.out.2.2.2.2.2.2.2.2.2.2.2.1, S5.out.2.2.2.2.2.2.2.2.2.2.2.2, F.out.2.2.1, F.out.2.2.2.1⟩).1
        replace BX := hid (BX.out.later X16)
        replace BY := hid (BY.out.later X16)
        have SD := hid (show w16.cell? ⟨w1.heap.size, 0, none⟩ = some (.int .u64 sh) ∧ w16.cell? ⟨w1.heap.size, 1, none⟩ = some (.int .u64 sl) ∧ w16.cell? ⟨w2.heap.size, 0, none⟩ = some (.int .u64 dh) ∧ w16.cell? ⟨w2.heap.size, 1, none⟩ = some (.int .u64 dl) from ⟨cell_later X16 S5.out.2.2.2.2.2.1, cell_later X16 S5.out.2.2.2.2.2.2.1, cell_later X16 S5.out.2.2.2.2.2.2.2.1, cell_later X16 S5.out.2.2.2.2.2.2.2.2.1⟩)
        have LT := hid (And.intro (lt_of_cell S0.out.2.2.2.2.2.1) (lt_of_cell S0.out.2.2.2.2.2.2.2.1))
        have GE : Hid (w.heap.size ≤ b9 ∧ w.heap.size ≤ b10) := ⟨Nat.le_trans S0.out.1.size F.out.2.2.2.2.1, Nat.le_trans S0.out.1.size F.out.2.2.2.2.2.1⟩
        have NE : Hid (w1.heap.size ≠ b9 ∧ w2.heap.size ≠ b9 ∧ w1.heap.size ≠ b10 ∧ w2.heap.size ≠ b10 ∧ b9 ≠ b10) := by have h1 := LT.out; have h2 := F.out.2.2.2.2; exact ⟨by omega, by omega, by omega, by omega, by omega⟩
        clear hb11 X11 Q11 hb12 X12 hb13 X13 hb14 X14 Q14 hb15 X15 Q15 hb16 X16 KS5 S5 S0 hbc hc xw F LT
        go_upto_region 7 with fail
        obtain ⟨z1, z2, z3, z4⟩ := id T9.out
        have ge := GE.out.1
        go_region_with
          (first
            | (go_at_call 12; refine (bsub_lit (BX.out.later X17) Q17.out (by first | rfl | exact HU.out) rfl (by decide) (by decide)).mono ?_; rintro e w18 ⟨a18, l18, c18, rfl, o18, hb18⟩; have X18 := bthen X17 X17.size hb18; have x18 := bthen xc xc.size X18; have Q18 := hid o18; clear o18; obtain ⟨⟨k1, k2, k3, k4⟩, k5⟩ := two_later X18 T9.out)
            | (go_at_call 14; refine (pow2_lit 128 128 rfl (by decide) _).mono ?_; rintro e w17 ⟨a17, l17, c17, rfl, o17, hb17⟩; have X17 := bthen (B := w16.heap.size) (w := w16) (by go_grown) (by go_size) hb17; have x17 := bthen xc xc.size X17; have Q17 := hid o17; clear o17; obtain ⟨⟨j1, j2, j3, j4⟩, j5⟩ := two_later X17 T9.out))
        all_goals
          go_upto_region 10 with fail
          clear k1 k2 k3 k4 k5 j1 j2 j3 j4 j5 z1 z2 z3 z4 ge
          obtain ⟨V7, hV⟩ : ∃ V, Hid (V = ((w18.setCell ⟨b9, 0, none⟩ (.bool (sg (X - p2 128)))).setCell ⟨b9, 1, none⟩ (.slice a18 l18 c18))) := ⟨_, rfl⟩
          rw [← hV.out]
          replace xc : Below w.heap.size w V7 := by rw [hV.out]; exact below_put (bthen xc xc.size X18) GE.out.1
          replace BY := hid (show BigIs 11 V7 (.slice ay ly cy) Y by rw [hV.out]; exact BigIs.put (BY.out.later X18) (two_later X18 T9.out).1 (noInt_bool _) (noInt_slice _ _ _) _ _)
          replace BX := hid (show BigIs 12 V7 (.slice a18 l18 c18) (X - p2 128) by rw [hV.out]; exact BigIs.put Q18.out (two_later X18 T9.out).1 (noInt_bool _) (noInt_slice _ _ _) _ _)
          replace T10 := hid (show Two V7 b10 (.bool false) (.slice ay ly cy) by rw [hV.out]; obtain ⟨h1, h2, h3, h4⟩ := (two_later X18 T10.out).1; exact ⟨keep_other h1 (Ne.symm NE.out.2.2.2.2), keep_other h2 (Ne.symm NE.out.2.2.2.2), by rw [World.frozen?_setCell, World.frozen?_setCell]; exact h3, by rw [World.frozen?_setCell, World.frozen?_setCell]; exact h4⟩)
          replace T9 := hid (show Two V7 b9 (.bool (sg (X - p2 128))) (.slice a18 l18 c18) by rw [hV.out]; exact (two_later X18 T9.out).1.set _ _)
          replace SD := hid (show V7.cell? ⟨w1.heap.size, 0, none⟩ = some (.int .u64 sh) ∧ V7.cell? ⟨w1.heap.size, 1, none⟩ = some (.int .u64 sl) ∧ V7.cell? ⟨w2.heap.size, 0, none⟩ = some (.int .u64 dh) ∧ V7.cell? ⟨w2.heap.size, 1, none⟩ = some (.int .u64 dl) by rw [hV.out]; exact ⟨keep_other (cell_later X18 SD.out.1) NE.out.1, keep_other (cell_later X18 SD.out.2.1) NE.out.1, keep_other (cell_later X18 SD.out.2.2.1) NE.out.2.1, keep_other (cell_later X18 SD.out.2.2.2) NE.out.2.1⟩)
          clear hV hb17 hb18 X17 X18 x17 x18 Q17 Q18
          have ex : eqI sv (X - p2 128) = true := by
            refine eqI_of ?_
            rw [hsv.out, hX.out]
            have h1 : p2 128 = 340282366920938463463374607431768211456 := by decide
            have h2 := ha.range
            have h3 := hb.range
            have h4 := HO.out
            unfold overB at h4
            simp only [decide_eq_true_eq] at h4
            omega
          have ey : eqI dv (Y) = true := by
            refine eqI_of ?_
            rw [hdv.out, hY.out]
            have h1 : p2 128 = 340282366920938463463374607431768211456 := by decide
            have h2 := ha.range
            have h3 := hb.range
            have h4 := HU.out
            unfold sg at h4
            rw [hY.out] at h4
            simp only [decide_eq_false_iff_not] at h4
            omega
          have KS : Hid (∀ W2 : World, Below V7.heap.size V7 W2 → (Below V7.heap.size V7 W2 ∧ W2.cell? ⟨w1.heap.size, 0, none⟩ = some (.int .u64 sh) ∧ W2.cell? ⟨w1.heap.size, 1, none⟩ = some (.int .u64 sl) ∧ W2.cell? ⟨w2.heap.size, 0, none⟩ = some (.int .u64 dh) ∧ W2.cell? ⟨w2.heap.size, 1, none⟩ = some (.int .u64 dl) ∧ W2.cell? ⟨b9, 0, none⟩ = some (.bool (sg (X - p2 128))) ∧ W2.cell? ⟨b9, 1, none⟩ = some (.slice a18 l18 c18) ∧ W2.cell? ⟨b10, 0, none⟩ = some (.bool false) ∧ W2.cell? ⟨b10, 1, none⟩ = some (.slice ay ly cy))) := fun W2 hb => ⟨hb, cell_later hb SD.out.1, cell_later hb SD.out.2.1, cell_later hb SD.out.2.2.1, cell_later hb SD.out.2.2.2, cell_later hb T9.out.1, cell_later hb T9.out.2.1, cell_later hb T10.out.1, cell_later hb T10.out.2.1⟩
          go_region_held3 (fun w' => Below V7.heap.size V7 w' ∧ w'.cell? ⟨w1.heap.size, 0, none⟩ = some (.int .u64 sh) ∧ w'.cell? ⟨w1.heap.size, 1, none⟩ = some (.int .u64 sl) ∧ w'.cell? ⟨w2.heap.size, 0, none⟩ = some (.int .u64 dh) ∧ w'.cell? ⟨w2.heap.size, 1, none⟩ = some (.int .u64 dl) ∧ w'.cell? ⟨b9, 0, none⟩ = some (.bool (sg (X - p2 128))) ∧ w'.cell? ⟨b9, 1, none⟩ = some (.slice a18 l18 c18) ∧ w'.cell? ⟨b10, 0, none⟩ = some (.bool false) ∧ w'.cell? ⟨b10, 1, none⟩ = some (.slice ay ly cy))
            (exact KS.out _ (by first | (go_grown; done) | fail))
            (first
              | (go_at_call 17; have dummy := Q24; clear dummy; refine (same_lit Q24.out (BY.out.later X24) rfl (by first | rfl | exact HU.out) (by decide) (by decide)).mono ?_; rintro e w25 ⟨rfl, hb25⟩; have X25 := bthen X24 X24.size hb25)
              | (go_at_call 11; have dummy := X23; clear dummy; refine (of_any hd _).mono ?_; rintro e w24 ⟨a24, l24, c24, rfl, o24, hb24⟩; have X24 := bthen X23 X23.size hb24; have Q24 := hid o24; clear o24)
              | (go_at_call 17; refine (same_lit Q22.out (BX.out.later X22) rfl rfl (by decide) (by decide)).mono ?_; rintro e w23 ⟨rfl, hb23⟩; have X23 := bthen X22 X22.size hb23)
              | (go_at_call 11; refine (of_any hs _).mono ?_; rintro e w22 ⟨a22, l22, c22, rfl, o22, hb22⟩; have X22 := bthen X21 X21.size hb22; have Q22 := hid o22; clear o22)
              | (go_at_call 16; refine (answers_any _).mono ?_; rintro e w21 ⟨rfl, hb21⟩; have X21 := bthen (B := V7.heap.size) (w := V7) (by go_grown) (by go_size) hb21))
          go_wp2
          go_ret
          exact ⟨rfl, bthen xc xc.size X25⟩
      · rw [HU] at t3
        replace HU := hid HU
        have S5 := hid (show Below wc.heap.size wc wc ∧ wc.cell? ⟨w.heap.size, 0, none⟩ = some (.int .u64 ah) ∧ wc.cell? ⟨w.heap.size, 1, none⟩ = some (.int .u64 al) ∧ wc.cell? ⟨w.heap.size + 1, 0, none⟩ = some (.int .u64 bh) ∧ wc.cell? ⟨w.heap.size + 1, 1, none⟩ = some (.int .u64 bl) ∧ wc.cell? ⟨w1.heap.size, 0, none⟩ = some (.int .u64 sh) ∧ wc.cell? ⟨w1.heap.size, 1, none⟩ = some (.int .u64 sl) ∧ wc.cell? ⟨w2.heap.size, 0, none⟩ = some (.int .u64 dh) ∧ wc.cell? ⟨w2.heap.size, 1, none⟩ = some (.int .u64 dl) ∧ wc.cell? ⟨b9, 0, none⟩ = some (.bool (sg X)) ∧ wc.cell? ⟨b9, 1, none⟩ = some (.slice ax lx cx) ∧ wc.cell? ⟨b10, 0, none⟩ = some (.bool true) ∧ wc.cell? ⟨b10, 1, none⟩ = some (.slice ay ly cy) from ⟨Below.refl _ _, cell_later hbc S0.out.2.1, cell_later hbc S0.out.2.2.1, cell_later hbc S0.out.2.2.2.1, cell_later hbc S0.out.2.2.2.2.1, cell_later hbc S0.out.2.2.2.2.2.1, cell_later hbc S0.out.2.2.2.2.2.2.1, cell_later hbc S0.out.2.2.2.2.2.2.2.1, cell_later hbc S0.out.2.2.2.2.2.2.2.2, t1, t2, t3, t4⟩)
        have KS5 : Hid (∀ W2 : World, Below wc.heap.size wc W2 → (Below wc.heap.size wc W2 ∧ W2.cell? ⟨w.heap.size, 0, none⟩ = some (.int .u64 ah) ∧ W2.cell? ⟨w.heap.size, 1, none⟩ = some (.int .u64 al) ∧ W2.cell? ⟨w.heap.size + 1, 0, none⟩ = some (.int .u64 bh) ∧ W2.cell? ⟨w.heap.size + 1, 1, none⟩ = some (.int .u64 bl) ∧ W2.cell? ⟨w1.heap.size, 0, none⟩ = some (.int .u64 sh) ∧ W2.cell? ⟨w1.heap.size, 1, none⟩ = some (.int .u64 sl) ∧ W2.cell? ⟨w2.heap.size, 0, none⟩ = some (.int .u64 dh) ∧ W2.cell? ⟨w2.heap.size, 1, none⟩ = some (.int .u64 dl) ∧ W2.cell? ⟨b9, 0, none⟩ = some (.bool (sg X)) ∧ W2.cell? ⟨b9, 1, none⟩ = some (.slice ax lx cx) ∧ W2.cell? ⟨b10, 0, none⟩ = some (.bool true) ∧ W2.cell? ⟨b10, 1, none⟩ = some (.slice ay ly cy))) := fun W2 hb => ⟨hb, cell_later hb S5.out.2.1, cell_later hb S5.out.2.2.1, cell_later hb S5.out.2.2.2.1, cell_later hb S5.out.2.2.2.2.1, cell_later hb S5.out.2.2.2.2.2.1, cell_later hb S5.out.2.2.2.2.2.2.1, cell_later hb S5.out.2.2.2.2.2.2.2.1, cell_later hb S5.out.2.2.2.2.2.2.2.2.1, cell_later hb S5.out.2.2.2.2.2.2.2.2.2.1, cell_later hb S5.out.2.2.2.2.2.2.2.2.2.2.1, cell_later hb S5.out.2.2.2.2.2.2.2.2.2.2.2.1, cell_later hb S5.out.2.2.2.2.2.2.2.2.2.2.2.2⟩
        clear KS t1 t2 t3 t4
        go_wp2_with fail
        go_region_held3 (fun w' => Below wc.heap.size wc w' ∧ w'.cell? ⟨w.heap.size, 0, none⟩ = some (.int .u64 ah) ∧ w'.cell? ⟨w.heap.size, 1, none⟩ = some (.int .u64 al) ∧ w'.cell? ⟨w.heap.size + 1, 0, none⟩ = some (.int .u64 bh) ∧ w'.cell? ⟨w.heap.size + 1, 1, none⟩ = some (.int .u64 bl) ∧ w'.cell? ⟨w1.heap.size, 0, none⟩ = some (.int .u64 sh) ∧ w'.cell? ⟨w1.heap.size, 1, none⟩ = some (.int .u64 sl) ∧ w'.cell? ⟨w2.heap.size, 0, none⟩ = some (.int .u64 dh) ∧ w'.cell? ⟨w2.heap.size, 1, none⟩ = some (.int .u64 dl) ∧ w'.cell? ⟨b9, 0, none⟩ = some (.bool (sg X)) ∧ w'.cell? ⟨b9, 1, none⟩ = some (.slice ax lx cx) ∧ w'.cell? ⟨b10, 0, none⟩ = some (.bool true) ∧ w'.cell? ⟨b10, 1, none⟩ = some (.slice ay ly cy))
          (exact KS5.out _ (by first | (go_grown; done) | fail))
          (first
            | (go_at_call 13; have dummy := Q14; clear dummy; refine (bcmp_any (Q14.out.later hb15) Q15.out (by decide) (by decide)).mono ?_; rintro e w16 ⟨rfl, hb16⟩; have X16 := bthen X15 X15.size hb16)
            | (go_at_call 11; have dummy := Q14; clear dummy; refine (of_any (by assumption) _).mono ?_; rintro e w15 ⟨a15, l15, c15, rfl, o15, hb15⟩; have X15 := bthen X14 X14.size hb15; have Q15 := hid o15; clear o15)
            | (go_at_call 11; refine (of_any (by assumption) _).mono ?_; rintro e w14 ⟨a14, l14, c14, rfl, o14, hb14⟩; have X14 := bthen X13 X13.size hb14; have Q14 := hid o14; clear o14)
            | (go_at_call 15; refine (cmp_any ha hb _).mono ?_; rintro e w13 ⟨rfl, hb13⟩; have X13 := bthen X12 X12.size hb13)
            | (go_at_call 13; refine (bcmp_any (BX.out.later X11) Q11.out (by decide) (by decide)).mono ?_; rintro e w12 ⟨rfl, hb12⟩; have X12 := bthen X11 X11.size hb12)
            | (go_at_call 14; refine (pow2_lit 128 128 rfl (by decide) _).mono ?_; rintro e w11 ⟨a11, l11, c11, rfl, o11, hb11⟩; have X11 := bthen (B := wc.heap.size) (w := wc) (by go_grown) (by go_size) hb11; have Q11 := hid o11; clear o11))
        have xw := bthen S0.out.1 S0.out.1.size hbc
        have xc := bthen xw xw.size X16
        have T9 := hid (two_later X16 (b := b9) (u := .bool (sg X)) (v := .slice ax lx cx) ⟨S5.out.2.2.2.2.2.2.2.2.2.1, S5.out.2.2.2.2.2.2.2.2.2.2.1, F.out.1, F.out.2.1⟩).1
        have T10 := hid (two_later X16 (b := b10) (u := .bool true) (v := .slice ay ly cy) ⟨S5.out.2.2.2.2.2.2.2.2.2.2.2.1, S5.out.2.2.2.2.2.2.2.2.2.2.2.2, F.out.2.2.1, F.out.2.2.2.1⟩).1
        replace BX := hid (BX.out.later X16)
        replace BY := hid (BY.out.later X16)
        have SD := hid (show w16.cell? ⟨w1.heap.size, 0, none⟩ = some (.int .u64 sh) ∧ w16.cell? ⟨w1.heap.size, 1, none⟩ = some (.int .u64 sl) ∧ w16.cell? ⟨w2.heap.size, 0, none⟩ = some (.int .u64 dh) ∧ w16.cell? ⟨w2.heap.size, 1, none⟩ = some (.int .u64 dl) from ⟨cell_later X16 S5.out.2.2.2.2.2.1, cell_later X16 S5.out.2.2.2.2.2.2.1, cell_later X16 S5.out.2.2.2.2.2.2.2.1, cell_later X16 S5.out.2.2.2.2.2.2.2.2.1⟩)
        have LT := hid (And.intro (lt_of_cell S0.out.2.2.2.2.2.1) (lt_of_cell S0.out.2.2.2.2.2.2.2.1))
        have GE : Hid (w.heap.size ≤ b9 ∧ w.heap.size ≤ b10) := ⟨Nat.le_trans S0.out.1.size F.out.2.2.2.2.1, Nat.le_trans S0.out.1.size F.out.2.2.2.2.2.1⟩
        have NE : Hid (w1.heap.size ≠ b9 ∧ w2.heap.size ≠ b9 ∧ w1.heap.size ≠ b10 ∧ w2.heap.size ≠ b10 ∧ b9 ≠ b10) := by have h1 := LT.out; have h2 := F.out.2.2.2.2; exact ⟨by omega, by omega, by omega, by omega, by omega⟩
        clear hb11 X11 Q11 hb12 X12 hb13 X13 hb14 X14 Q14 hb15 X15 Q15 hb16 X16 KS5 S5 S0 hbc hc xw F LT
        go_upto_region 7 with fail
        obtain ⟨z1, z2, z3, z4⟩ := id T9.out
        have ge := GE.out.1
        go_region_with
          (first
            | (go_at_call 12; refine (bsub_lit (BX.out.later X17) Q17.out (by first | rfl | exact HU.out) rfl (by decide) (by decide)).mono ?_; rintro e w18 ⟨a18, l18, c18, rfl, o18, hb18⟩; have X18 := bthen X17 X17.size hb18; have x18 := bthen xc xc.size X18; have Q18 := hid o18; clear o18; obtain ⟨⟨k1, k2, k3, k4⟩, k5⟩ := two_later X18 T9.out)
            | (go_at_call 14; refine (pow2_lit 128 128 rfl (by decide) _).mono ?_; rintro e w17 ⟨a17, l17, c17, rfl, o17, hb17⟩; have X17 := bthen (B := w16.heap.size) (w := w16) (by go_grown) (by go_size) hb17; have x17 := bthen xc xc.size X17; have Q17 := hid o17; clear o17; obtain ⟨⟨j1, j2, j3, j4⟩, j5⟩ := two_later X17 T9.out))
        all_goals
          go_upto_region 9 with fail
          clear k1 k2 k3 k4 k5 j1 j2 j3 j4 j5 z1 z2 z3 z4 ge
          obtain ⟨V7, hV⟩ : ∃ V, Hid (V = ((w18.setCell ⟨b9, 0, none⟩ (.bool (sg (X - p2 128)))).setCell ⟨b9, 1, none⟩ (.slice a18 l18 c18))) := ⟨_, rfl⟩
          rw [← hV.out]
          replace xc : Below w.heap.size w V7 := by rw [hV.out]; exact below_put (bthen xc xc.size X18) GE.out.1
          replace BY := hid (show BigIs 11 V7 (.slice ay ly cy) Y by rw [hV.out]; exact BigIs.put (BY.out.later X18) (two_later X18 T9.out).1 (noInt_bool _) (noInt_slice _ _ _) _ _)
          replace BX := hid (show BigIs 12 V7 (.slice a18 l18 c18) (X - p2 128) by rw [hV.out]; exact BigIs.put Q18.out (two_later X18 T9.out).1 (noInt_bool _) (noInt_slice _ _ _) _ _)
          replace T10 := hid (show Two V7 b10 (.bool true) (.slice ay ly cy) by rw [hV.out]; obtain ⟨h1, h2, h3, h4⟩ := (two_later X18 T10.out).1; exact ⟨keep_other h1 (Ne.symm NE.out.2.2.2.2), keep_other h2 (Ne.symm NE.out.2.2.2.2), by rw [World.frozen?_setCell, World.frozen?_setCell]; exact h3, by rw [World.frozen?_setCell, World.frozen?_setCell]; exact h4⟩)
          replace T9 := hid (show Two V7 b9 (.bool (sg (X - p2 128))) (.slice a18 l18 c18) by rw [hV.out]; exact (two_later X18 T9.out).1.set _ _)
          replace SD := hid (show V7.cell? ⟨w1.heap.size, 0, none⟩ = some (.int .u64 sh) ∧ V7.cell? ⟨w1.heap.size, 1, none⟩ = some (.int .u64 sl) ∧ V7.cell? ⟨w2.heap.size, 0, none⟩ = some (.int .u64 dh) ∧ V7.cell? ⟨w2.heap.size, 1, none⟩ = some (.int .u64 dl) by rw [hV.out]; exact ⟨keep_other (cell_later X18 SD.out.1) NE.out.1, keep_other (cell_later X18 SD.out.2.1) NE.out.1, keep_other (cell_later X18 SD.out.2.2.1) NE.out.2.1, keep_other (cell_later X18 SD.out.2.2.2) NE.out.2.1⟩)
          clear hV hb17 hb18 X17 X18 x17 x18 Q17 Q18
          go_upto_region 9 with fail
          obtain ⟨z1, z2, z3, z4⟩ := id T10.out
          have ge := GE.out.2
          go_region_with
            (first
              | (go_at_call 10; refine (badd_lit (BY.out.later X19) Q19.out (by first | rfl | exact HU.out) rfl (by decide) (by decide)).mono ?_; rintro e w20 ⟨a20, l20, c20, rfl, o20, hb20⟩; have X20 := bthen X19 X19.size hb20; have x20 := bthen xc xc.size X20; have Q20 := hid o20; clear o20; obtain ⟨⟨k1, k2, k3, k4⟩, k5⟩ := two_later X20 T10.out)
              | (go_at_call 14; refine (pow2_lit 128 128 rfl (by decide) _).mono ?_; rintro e w19 ⟨a19, l19, c19, rfl, o19, hb19⟩; have X19 := bthen (B := V7.heap.size) (w := V7) (by go_grown) (by go_size) hb19; have x19 := bthen xc xc.size X19; have Q19 := hid o19; clear o19; obtain ⟨⟨j1, j2, j3, j4⟩, j5⟩ := two_later X19 T10.out))
          all_goals
            go_upto_region 10 with fail
            clear k1 k2 k3 k4 k5 j1 j2 j3 j4 j5 z1 z2 z3 z4 ge
            obtain ⟨V9, hV⟩ : ∃ V, Hid (V = ((w20.setCell ⟨b10, 0, none⟩ (.bool (sg (Y + p2 128)))).setCell ⟨b10, 1, none⟩ (.slice a20 l20 c20))) := ⟨_, rfl⟩
            rw [← hV.out]
            replace xc : Below w.heap.size w V9 := by rw [hV.out]; exact below_put (bthen xc xc.size X20) GE.out.2
            replace BX := hid (show BigIs 12 V9 (.slice a18 l18 c18) (X - p2 128) by rw [hV.out]; exact BigIs.put (BX.out.later X20) (two_later X20 T10.out).1 (noInt_bool _) (noInt_slice _ _ _) _ _)
            replace BY := hid (show BigIs 12 V9 (.slice a20 l20 c20) (Y + p2 128) by rw [hV.out]; exact BigIs.put Q20.out (two_later X20 T10.out).1 (noInt_bool _) (noInt_slice _ _ _) _ _)
            replace T9 := hid (show Two V9 b9 (.bool (sg (X - p2 128))) (.slice a18 l18 c18) by rw [hV.out]; obtain ⟨h1, h2, h3, h4⟩ := (two_later X20 T9.out).1; exact ⟨keep_other h1 NE.out.2.2.2.2, keep_other h2 NE.out.2.2.2.2, by rw [World.frozen?_setCell, World.frozen?_setCell]; exact h3, by rw [World.frozen?_setCell, World.frozen?_setCell]; exact h4⟩)
            replace T10 := hid (show Two V9 b10 (.bool (sg (Y + p2 128))) (.slice a20 l20 c20) by rw [hV.out]; exact (two_later X20 T10.out).1.set _ _)
            replace SD := hid (show V9.cell? ⟨w1.heap.size, 0, none⟩ = some (.int .u64 sh) ∧ V9.cell? ⟨w1.heap.size, 1, none⟩ = some (.int .u64 sl) ∧ V9.cell? ⟨w2.heap.size, 0, none⟩ = some (.int .u64 dh) ∧ V9.cell? ⟨w2.heap.size, 1, none⟩ = some (.int .u64 dl) by rw [hV.out]; exact ⟨keep_other (cell_later X20 SD.out.1) NE.out.2.2.1, keep_other (cell_later X20 SD.out.2.1) NE.out.2.2.1, keep_other (cell_later X20 SD.out.2.2.1) NE.out.2.2.2.1, keep_other (cell_later X20 SD.out.2.2.2) NE.out.2.2.2.1⟩)
            clear hV hb19 hb20 X19 X20 x19 x20 Q19 Q20
            have ex : eqI sv (X - p2 128) = true := by
              refine eqI_of ?_
              rw [hsv.out, hX.out]
              have h1 : p2 128 = 340282366920938463463374607431768211456 := by decide
              have h2 := ha.range
              have h3 := hb.range
              have h4 := HO.out
              unfold overB at h4
              simp only [decide_eq_true_eq] at h4
              omega
            have ey : eqI dv (Y + p2 128) = true := by
              refine eqI_of ?_
              rw [hdv.out, hY.out]
              have h1 : p2 128 = 340282366920938463463374607431768211456 := by decide
              have h2 := ha.range
              have h3 := hb.range
              have h4 := HU.out
              unfold sg at h4
              rw [hY.out] at h4
              simp only [decide_eq_true_eq] at h4
              omega
            have KS : Hid (∀ W2 : World, Below V9.heap.size V9 W2 → (Below V9.heap.size V9 W2 ∧ W2.cell? ⟨w1.heap.size, 0, none⟩ = some (.int .u64 sh) ∧ W2.cell? ⟨w1.heap.size, 1, none⟩ = some (.int .u64 sl) ∧ W2.cell? ⟨w2.heap.size, 0, none⟩ = some (.int .u64 dh) ∧ W2.cell? ⟨w2.heap.size, 1, none⟩ = some (.int .u64 dl) ∧ W2.cell? ⟨b9, 0, none⟩ = some (.bool (sg (X - p2 128))) ∧ W2.cell? ⟨b9, 1, none⟩ = some (.slice a18 l18 c18) ∧ W2.cell? ⟨b10, 0, none⟩ = some (.bool (sg (Y + p2 128))) ∧ W2.cell? ⟨b10, 1, none⟩ = some (.slice a20 l20 c20))) := fun W2 hb => ⟨hb, cell_later hb SD.out.1, cell_later hb SD.out.2.1, cell_later hb SD.out.2.2.1, cell_later hb SD.out.2.2.2, cell_later hb T9.out.1, cell_later hb T9.out.2.1, cell_later hb T10.out.1, cell_later hb T10.out.2.1⟩
            go_region_held3 (fun w' => Below V9.heap.size V9 w' ∧ w'.cell? ⟨w1.heap.size, 0, none⟩ = some (.int .u64 sh) ∧ w'.cell? ⟨w1.heap.size, 1, none⟩ = some (.int .u64 sl) ∧ w'.cell? ⟨w2.heap.size, 0, none⟩ = some (.int .u64 dh) ∧ w'.cell? ⟨w2.heap.size, 1, none⟩ = some (.int .u64 dl) ∧ w'.cell? ⟨b9, 0, none⟩ = some (.bool (sg (X - p2 128))) ∧ w'.cell? ⟨b9, 1, none⟩ = some (.slice a18 l18 c18) ∧ w'.cell? ⟨b10, 0, none⟩ = some (.bool (sg (Y + p2 128))) ∧ w'.cell? ⟨b10, 1, none⟩ = some (.slice a20 l20 c20))
              (exact KS.out _ (by first | (go_grown; done) | fail))
              (first
                | (go_at_call 17; have dummy := Q24; clear dummy; refine (same_lit Q24.out (BY.out.later X24) rfl (by first | rfl | exact HU.out) (by decide) (by decide)).mono ?_; rintro e w25 ⟨rfl, hb25⟩; have X25 := bthen X24 X24.size hb25)
                | (go_at_call 11; have dummy := X23; clear dummy; refine (of_any hd _).mono ?_; rintro e w24 ⟨a24, l24, c24, rfl, o24, hb24⟩; have X24 := bthen X23 X23.size hb24; have Q24 := hid o24; clear o24)
                | (go_at_call 17; refine (same_lit Q22.out (BX.out.later X22) rfl rfl (by decide) (by decide)).mono ?_; rintro e w23 ⟨rfl, hb23⟩; have X23 := bthen X22 X22.size hb23)
                | (go_at_call 11; refine (of_any hs _).mono ?_; rintro e w22 ⟨a22, l22, c22, rfl, o22, hb22⟩; have X22 := bthen X21 X21.size hb22; have Q22 := hid o22; clear o22)
                | (go_at_call 16; refine (answers_any _).mono ?_; rintro e w21 ⟨rfl, hb21⟩; have X21 := bthen (B := V9.heap.size) (w := V9) (by go_grown) (by go_size) hb21))
            go_wp2
            go_ret
            exact ⟨rfl, bthen xc xc.size X25⟩
end Go.Proofs.Ytdefgplehkbpcaa
