/-
  The contracts of wide.MulDiv and wide.Div: a product by a number above 0, rounded down, and what is left, or why there is none (P2.3, P2.4). No conditions.
-/
import Derived.Test.YtklankodjjkhiaaWideF0
import Derived.Deep.DeepCutAuto
namespace Go.Proofs.Ytklankodjjkhiaa
open Go.RowKit

attribute [local go_sem ↓] Go.wp_at_zero Go.wp_at_succ
set_option maxRecDepth 100000 in
set_option maxHeartbeats 16000000 in
theorem wmuldiv_no {ah al bh bl dh dl a b d : Int} (ha : WideIs ah al a) (hb : WideIs bh bl b) (hd : WideIs dh dl d) (h0 : 0 < d) (g0 : d ≤ ab a * ab b / 340282366920938463463374607431768211456) (w : World) :
    Calls Try.prog 43 #[.agg #[.int .i64 ah, .int .u64 al], .agg #[.int .i64 bh, .int .u64 bl], .agg #[.int .i64 dh, .int .u64 dl]] w fun e w' => ∃ qh ql rh rl : Int, WideIs qh ql (fitV (a * b / d)) ∧ WideIs rh rl (fitR (a * b / d) (a * b % d)) ∧ e = .returned (.tuple #[.agg #[.int .i64 qh, .int .u64 ql], .agg #[.int .i64 rh, .int .u64 rl], .int .i64 (fitE (a * b / d))]) ∧ Below w.heap.size w w' := by
  have G0 := hid g0
  clear g0
  have hc : cmpI d 0 = 1 := cmpI_gt h0
  obtain ⟨P, hP⟩ : ∃ P, Hid (P = ab a * ab b) := ⟨_, rfl⟩
  have P0 : Hid (0 ≤ P) := by rw [Hid, hP.out]; exact Int.mul_nonneg (ab_nonneg a) (ab_nonneg b)
  have ED : Hid (d % 340282366920938463463374607431768211456 = d) := by rw [Hid]; have := hd.range; omega
  have EQ : Hid ((P / 340282366920938463463374607431768211456 * 340282366920938463463374607431768211456 + P % 340282366920938463463374607431768211456) / d = P / d) := by rw [Hid]; congr 1; omega
  have ER : Hid ((P / 340282366920938463463374607431768211456 * 340282366920938463463374607431768211456 + P % 340282366920938463463374607431768211456) % d = P % d) := by rw [Hid]; congr 1; omega
  go_enter Try.func43, Try.ntmps43
  go_wp2_with fail
  refine (wcmp_any hd wide_0 _).mono ?_
  rintro e W ⟨rfl, hb0⟩
  have tA := (two_later hb0 (b := w.heap.size) (u := .int .i64 ah) (v := .int .u64 al) ⟨by simp [go_sem, *], by simp [go_sem, *], by simp [go_sem, *], by simp [go_sem, *]⟩).1
  have tB := (two_later hb0 (b := w.heap.size + 1) (u := .int .i64 bh) (v := .int .u64 bl) ⟨by simp [go_sem, *], by simp [go_sem, *], by simp [go_sem, *], by simp [go_sem, *]⟩).1
  have tD := (two_later hb0 (b := w.heap.size + 1 + 1) (u := .int .i64 dh) (v := .int .u64 dl) ⟨by simp [go_sem, *], by simp [go_sem, *], by simp [go_sem, *], by simp [go_sem, *]⟩).1
  have tQ := (two_later hb0 (b := w.heap.size + 1 + 1 + 1) (u := .int .i64 0) (v := .int .u64 0) ⟨by simp [go_sem, *], by simp [go_sem, *], by simp [go_sem, *], by simp [go_sem, *]⟩).1
  have tR := (two_later hb0 (b := w.heap.size + 1 + 1 + 1 + 1) (u := .int .i64 0) (v := .int .u64 0) ⟨by simp [go_sem, *], by simp [go_sem, *], by simp [go_sem, *], by simp [go_sem, *]⟩).1
  have hbW := hid (bthen (B := w.heap.size) (w := w) (by go_grown) (by go_size) hb0)
  have KS : Hid (∀ W2 : World, Below W.heap.size W W2 → (Below W.heap.size W W2 ∧ W2.cell? ⟨w.heap.size, 0, none⟩ = some (.int .i64 ah) ∧ W2.cell? ⟨w.heap.size, 1, none⟩ = some (.int .u64 al) ∧ W2.cell? ⟨w.heap.size + 1, 0, none⟩ = some (.int .i64 bh) ∧ W2.cell? ⟨w.heap.size + 1, 1, none⟩ = some (.int .u64 bl) ∧ W2.cell? ⟨w.heap.size + 1 + 1, 0, none⟩ = some (.int .i64 dh) ∧ W2.cell? ⟨w.heap.size + 1 + 1, 1, none⟩ = some (.int .u64 dl))) := fun W2 hb => ⟨hb, cell_later hb tA.1, cell_later hb tA.2.1, cell_later hb tB.1, cell_later hb tB.2.1, cell_later hb tD.1, cell_later hb tD.2.1⟩
  have TA := hid tA
  have TB := hid tB
  have TD := hid tD
  have TQ := hid tQ
  have TR := hid tR
  clear tA tB tD tQ tR hb0
  go_upto_region 3 with fail
  clear hc
  go_cut [9, 10] (fun p q wc => ∃ (c9 c10 : Nat) (hh hl lh ll : Int), p = .pointer (some ⟨c9, 0, none⟩) ∧ q = .pointer (some ⟨c10, 0, none⟩) ∧ Hid (LimbIs hh hl (P / 340282366920938463463374607431768211456)) ∧ Hid (LimbIs lh ll (P % 340282366920938463463374607431768211456)) ∧ Hid (Pair wc c9 c10 (.int .u64 hh) (.int .u64 hl) (.int .u64 lh) (.int .u64 ll)) ∧ Hid (W.heap.size ≤ c9 ∧ W.heap.size ≤ c10 ∧ c9 ≠ c10) ∧ Hid (Below W.heap.size W wc))
  case first =>
    go_region_held3 (fun w' => Below W.heap.size W w' ∧ w'.cell? ⟨w.heap.size, 0, none⟩ = some (.int .i64 ah) ∧ w'.cell? ⟨w.heap.size, 1, none⟩ = some (.int .u64 al) ∧ w'.cell? ⟨w.heap.size + 1, 0, none⟩ = some (.int .i64 bh) ∧ w'.cell? ⟨w.heap.size + 1, 1, none⟩ = some (.int .u64 bl) ∧ w'.cell? ⟨w.heap.size + 1 + 1, 0, none⟩ = some (.int .i64 dh) ∧ w'.cell? ⟨w.heap.size + 1 + 1, 1, none⟩ = some (.int .u64 dl))
      (exact KS.out _ (by first | (go_grown; done) | fail))
      (first
        | (go_at_call 38; refine (mul_any A1.out A2.out _).mono ?_; rw [← hP.out]; rintro e w3 ⟨hh, hl, lh, ll, i3, i4, rfl, hb3⟩; have X3 := bthen (B := W.heap.size) (w := W) (by go_grown) (by go_size) hb3; have X3s := X3.size; have Y3 := bthen (B := w2.heap.size) (w := w2) (by go_grown) (by go_size) hb3; have Y3s := Y3.size; (try have n1a := (two_later Y3 n1a).1); (try have n1b := (two_later Y3 n1b).1); (try have n2a := (two_later Y3 n2a).1); (try have n2b := (two_later Y3 n2b).1); (try with_reducible have n3a := (two_later hb3 (Two.new w2 (.int .u64 0) (.int .u64 0) _)).1); (try with_reducible have n3a := (two_later hb3 ((Two.new w2 (.int .u64 0) (.int .u64 0) _).alloc _)).1); (try with_reducible have n3b := (two_later hb3 (Two.new2 w2 _ (.int .u64 0) (.int .u64 0) _)).1); (try have q3a := Two.lt n3a); (try have q3b := Two.lt n3b); (try have p1a := Two.lt n1a); (try obtain ⟨o1a1, o1a2, o1a3, o1a4⟩ := id n1a); (try have p1b := Two.lt n1b); (try obtain ⟨o1b1, o1b2, o1b3, o1b4⟩ := id n1b); (try have p2a := Two.lt n2a); (try obtain ⟨o2a1, o2a2, o2a3, o2a4⟩ := id n2a); (try have p2b := Two.lt n2b); (try obtain ⟨o2b1, o2b2, o2b3, o2b4⟩ := id n2b); (try have p3a := Two.lt n3a); (try obtain ⟨o3a1, o3a2, o3a3, o3a4⟩ := id n3a); (try have p3b := Two.lt n3b); (try obtain ⟨o3b1, o3b2, o3b3, o3b4⟩ := id n3b); have A3 := hid i3; clear i3; have A4 := hid i4; clear i4)
        | (go_at_call 52; have dummy := A1; clear dummy; refine (size_any hb _).mono ?_; rintro e w2 ⟨h2, l2, i2, rfl, hb2⟩; have X2 := bthen (B := W.heap.size) (w := W) (by go_grown) (by go_size) hb2; have X2s := X2.size; have Y2 := bthen (B := w1.heap.size) (w := w1) (by go_grown) (by go_size) hb2; have Y2s := Y2.size; (try have n1a := (two_later Y2 n1a).1); (try have n1b := (two_later Y2 n1b).1); (try with_reducible have n2a := (two_later hb2 (Two.new w1 (.int .u64 0) (.int .u64 0) _)).1); (try with_reducible have n2a := (two_later hb2 ((Two.new w1 (.int .u64 0) (.int .u64 0) _).alloc _)).1); (try with_reducible have n2b := (two_later hb2 (Two.new2 w1 _ (.int .u64 0) (.int .u64 0) _)).1); (try have q2a := Two.lt n2a); (try have q2b := Two.lt n2b); have A2 := hid i2; clear i2)
        | (go_at_call 52; refine (size_any ha _).mono ?_; rintro e w1 ⟨h1, l1, i1, rfl, hb1⟩; have X1 := bthen (B := W.heap.size) (w := W) (by go_grown) (by go_size) hb1; have X1s := X1.size; have Y1 := bthen (B := W.heap.size) (w := W) (by go_grown) (by go_size) hb1; have Y1s := Y1.size; (try with_reducible have n1a := (two_later hb1 (Two.new W (.int .u64 0) (.int .u64 0) _)).1); (try with_reducible have n1a := (two_later hb1 (Two.new W (.int .u64 0) (.int .u64 0) _).drew).1); (try with_reducible have n1a := (two_later hb1 ((Two.new W (.int .u64 0) (.int .u64 0) _).alloc _)).1); (try with_reducible have n1b := (two_later hb1 (Two.new2 W _ (.int .u64 0) (.int .u64 0) _)).1); (try with_reducible have n1a := (two_later hb1 ((Two.new W (.int .u64 0) (.int .u64 0) _).alloc _).drew).1); (try with_reducible have n1b := (two_later hb1 (Two.new2 W _ (.int .u64 0) (.int .u64 0) _).drew).1); (try have q1a := Two.lt n1a); (try have q1b := Two.lt n1b); have A1 := hid i1; clear i1))
    all_goals
      go_wp2_with fail
      go_meet
      refine ⟨_, _, hh, hl, lh, ll, rfl, rfl, A3, A4, hid ?_, hid ⟨?_, ?_, ?_⟩, hid ?_⟩
      · first | (with_reducible exact pair_aa) | (with_reducible exact pair_aa') | (with_reducible exact pair_ab (by assumption)) | (with_reducible exact pair_ba (by assumption)) | (with_reducible exact pair_bb (by assumption) (by assumption) (by omega))
      · omega
      · omega
      · omega
      · go_grown
  case rest =>
    obtain ⟨c9, c10, hh, hl, lh, ll, rfl, rfl, i9, i10, pr, cs, hbc⟩ := hcut
    have TA1 := hid (two_later hbc.out TA.out).1
    have TB1 := hid (two_later hbc.out TB.out).1
    have TD1 := hid (two_later hbc.out TD.out).1
    have TQ1 := hid (two_later hbc.out TQ.out).1
    have TR1 := hid (two_later hbc.out TR.out).1
    have hbw := hid (bthen hbW.out hbW.out.size hbc.out)
    have zc := hbw.out.size
    have e9 : c9 < wc.heap.size := Two.lt pr.out.1
    have e10 : c10 < wc.heap.size := Two.lt pr.out.2
    have cQ := Two.lt TQ.out
    have cR := Two.lt TR.out
    have e11 := hbc.out.size
    obtain ⟨U, hU⟩ : ∃ U : World, U = wc := ⟨_, rfl⟩
    subst hU
    clear KS TA TB TD TQ TR hbW
    have KS : Hid (∀ W2 : World, Below U.heap.size U W2 → (Below U.heap.size U W2 ∧ W2.cell? ⟨c9, 0, none⟩ = some (.int .u64 hh) ∧ W2.cell? ⟨c9, 1, none⟩ = some (.int .u64 hl) ∧ W2.cell? ⟨c10, 0, none⟩ = some (.int .u64 lh) ∧ W2.cell? ⟨c10, 1, none⟩ = some (.int .u64 ll) ∧ W2.cell? ⟨w.heap.size + 1 + 1, 0, none⟩ = some (.int .i64 dh) ∧ W2.cell? ⟨w.heap.size + 1 + 1, 1, none⟩ = some (.int .u64 dl))) := fun W2 hb => ⟨hb, cell_later hb pr.out.1.1, cell_later hb pr.out.1.2.1, cell_later hb pr.out.2.1, cell_later hb pr.out.2.2.1, cell_later hb TD1.out.1, cell_later hb TD1.out.2.1⟩
    go_upto_region 4 with fail
    by_cases hlt : P / 340282366920938463463374607431768211456 < d
    · exfalso; have h1 := G0.out; rw [← hP.out] at h1; omega
    · have HLT : Hid (d ≤ P / 340282366920938463463374607431768211456) := by rw [Hid]; omega
      clear hlt
      go_cut [13] (fun r wc => r = .bool false ∧ Hid (Below U.heap.size U wc))
      case first =>
        go_region_held3 (fun w' => Below U.heap.size U w' ∧ w'.cell? ⟨c9, 0, none⟩ = some (.int .u64 hh) ∧ w'.cell? ⟨c9, 1, none⟩ = some (.int .u64 hl) ∧ w'.cell? ⟨c10, 0, none⟩ = some (.int .u64 lh) ∧ w'.cell? ⟨c10, 1, none⟩ = some (.int .u64 ll) ∧ w'.cell? ⟨w.heap.size + 1 + 1, 0, none⟩ = some (.int .i64 dh) ∧ w'.cell? ⟨w.heap.size + 1 + 1, 1, none⟩ = some (.int .u64 dl))
          (exact KS.out _ (by first | (go_grown; done) | fail))
          (first
            | (go_at_call 53; refine (div_no i9.out i10.out A1.out HLT.out _).mono ?_; rintro e w2 ⟨rfl, hb2⟩; have X2 := bthen (B := U.heap.size) (w := U) (by go_grown) (by go_size) hb2; have X2s := X2.size; have Y2 := bthen (B := w1.heap.size) (w := w1) (by go_grown) (by go_size) hb2; have Y2s := Y2.size; (try have n1a := (two_later Y2 n1a).1); (try have n1b := (two_later Y2 n1b).1); (try with_reducible have n2a := (two_later hb2 (Two.new w1 (.int .u64 0) (.int .u64 0) _)).1); (try with_reducible have n2a := (two_later hb2 ((Two.new w1 (.int .u64 0) (.int .u64 0) _).alloc _)).1); (try with_reducible have n2b := (two_later hb2 (Two.new2 w1 _ (.int .u64 0) (.int .u64 0) _)).1); (try have q2a := Two.lt n2a); (try have q2b := Two.lt n2b); (try have p1a := Two.lt n1a); (try obtain ⟨o1a1, o1a2, o1a3, o1a4⟩ := id n1a); (try have p1b := Two.lt n1b); (try obtain ⟨o1b1, o1b2, o1b3, o1b4⟩ := id n1b); (try have p2a := Two.lt n2a); (try obtain ⟨o2a1, o2a2, o2a3, o2a4⟩ := id n2a); (try have p2b := Two.lt n2b); (try obtain ⟨o2b1, o2b2, o2b3, o2b4⟩ := id n2b))
            | (go_at_call 46; refine (bitsOf_any hd _).mono ?_; rw [ED.out]; rintro e w1 ⟨h1, i1, rfl, hb1⟩; have X1 := bthen (B := U.heap.size) (w := U) (by go_grown) (by go_size) hb1; have X1s := X1.size; have Y1 := bthen (B := U.heap.size) (w := U) (by go_grown) (by go_size) hb1; have Y1s := Y1.size; (try with_reducible have n1a := (two_later hb1 (Two.new U (.int .u64 0) (.int .u64 0) _)).1); (try with_reducible have n1a := (two_later hb1 (Two.new U (.int .u64 0) (.int .u64 0) _).drew).1); (try with_reducible have n1a := (two_later hb1 ((Two.new U (.int .u64 0) (.int .u64 0) _).alloc _)).1); (try with_reducible have n1b := (two_later hb1 (Two.new2 U _ (.int .u64 0) (.int .u64 0) _)).1); (try with_reducible have n1a := (two_later hb1 ((Two.new U (.int .u64 0) (.int .u64 0) _).alloc _).drew).1); (try with_reducible have n1b := (two_later hb1 (Two.new2 U _ (.int .u64 0) (.int .u64 0) _).drew).1); (try have q1a := Two.lt n1a); (try have q1b := Two.lt n1b); have A1 := hid i1; clear i1))
        all_goals
          go_wp2_with fail
          go_meet
          refine ⟨rfl, hid ?_⟩
          · go_grown
      case rest =>
        obtain ⟨rfl, hbc2⟩ := hcut
        obtain ⟨⟨q1, q2, q3, q4⟩, q5⟩ := two_later hbc2.out TQ1.out
        obtain ⟨⟨r1, r2, r3, r4⟩, r5⟩ := two_later hbc2.out TR1.out
        have xc := bthen hbw.out hbw.out.size hbc2.out
        obtain ⟨fi, fv, fe⟩ := over_both h0 (mul_ab a b) (by rw [← hP.out]; exact over_hi h0 HLT.out)
        have FR := hid (fitR_no (y := a * b % d) fi)
        have FV := hid fv
        have FE := hid fe
        clear KS fi fv fe
        go_wp2_with fail
        suffices hFin : (results Try.f43 _).run Try.prog _ = .ok (.tuple #[.agg #[.int .i64 0, .int .u64 0], .agg #[.int .i64 0, .int .u64 0], .int .i64 2]) _ ∧ _ from bodyPost_ret hFin.1 rfl hFin.2
        exact ⟨by simp [results, Try.results43, go_sem, *], ⟨_, _, _, _, wide_0.eq FV.out.symm, wide_0.eq FR.out.symm, by rw [FE.out], by go_grown⟩⟩
end Go.Proofs.Ytklankodjjkhiaa
