/-
  The contracts of wide.MulDiv and wide.Div: a product by a number above 0, rounded down, and what is left, or why there is none (P2.3, P2.4). No conditions.
-/
import Derived.Test.YtklankodjjkhiaaWideF0
import Derived.Deep.DeepCutAuto
namespace Go.Proofs.Ytklankodjjkhiaa
open Go.RowKit

attribute [local go_sem ↓] Go.wp_at_zero Go.wp_at_succ
set_option maxRecDepth 100000 in
set_option maxHeartbeats 16000000 in
theorem wmuldiv_even {ah al bh bl dh dl a b d : Int} (ha : WideIs ah al a) (hb : WideIs bh bl b) (hd : WideIs dh dl d) (h0 : 0 < d) (g0 : ab a * ab b / 340282366920938463463374607431768211456 < d) (hs : ¬ sg a = sg b) (hr0 : ab a * ab b % d = 0) (w : World) :
    Calls Try.prog 43 #[.agg #[.int .i64 ah, .int .u64 al], .agg #[.int .i64 bh, .int .u64 bl], .agg #[.int .i64 dh, .int .u64 dl]] w fun e w' => ∃ qh ql rh rl : Int, WideIs qh ql (fitV (a * b / d)) ∧ WideIs rh rl (fitR (a * b / d) (a * b % d)) ∧ e = .returned (.tuple #[.agg #[.int .i64 qh, .int .u64 ql], .agg #[.int .i64 rh, .int .u64 rl], .int .i64 (fitE (a * b / d))]) ∧ Below w.heap.size w w' := by
  have G0 := hid g0
  have HS := hid hs
  have HR := hid hr0
  clear g0 hs hr0
  have hc : cmpI d 0 = 1 := cmpI_gt h0
  obtain ⟨P, hP⟩ : ∃ P, Hid (P = ab a * ab b) := ⟨_, rfl⟩
  have P0 : Hid (0 ≤ P) := by rw [Hid, hP.out]; exact Int.mul_nonneg (ab_nonneg a) (ab_nonneg b)
  have ED : Hid (d % 340282366920938463463374607431768211456 = d) := by rw [Hid]; have := hd.range; omega
  have EQ : Hid ((P / 340282366920938463463374607431768211456 * 340282366920938463463374607431768211456 + P % 340282366920938463463374607431768211456) / d = P / d) := by rw [Hid]; congr 1; omega
  have ER : Hid ((P / 340282366920938463463374607431768211456 * 340282366920938463463374607431768211456 + P % 340282366920938463463374607431768211456) % d = P % d) := by rw [Hid]; congr 1; omega
  go_enter Try.func43, Try.ntmps43
  go_wp2_with fail
  refine (wcmp_any hd wide_0 _).mono ?_
  rintro e W ⟨rfl, hb0⟩
  have tA := (two_later hb0 (b := w.heap.size) (u := .int .i64 ah) (v := .int .u64 al) ⟨by simp [go_sem, *], by simp [go_sem, *], by simp [go_sem, *], by simp [go_sem, *]⟩).1
  have tB := (two_later hb0 (b := w.heap.size + 1) (u := .int .i64 bh) (v := .int .u64 bl) ⟨by simp [go_sem, *], by simp [go_sem, *], by simp [go_sem, *], by simp [go_sem, *]⟩).1
  have tD := (two_later hb0 (b := w.heap.size + 1 + 1) (u := .int .i64 dh) (v := .int .u64 dl) ⟨by simp [go_sem, *], by simp [go_sem, *], by simp [go_sem, *], by simp [go_sem, *]⟩).1
  have tQ := (two_later hb0 (b := w.heap.size + 1 + 1 + 1) (u := .int .i64 0) (v := .int .u64 0) ⟨by simp [go_sem, *], by simp [go_sem, *], by simp [go_sem, *], by simp [go_sem, *]⟩).1
  have tR := (two_later hb0 (b := w.heap.size + 1 + 1 + 1 + 1) (u := .int .i64 0) (v := .int .u64 0) ⟨by simp [go_sem, *], by simp [go_sem, *], by simp [go_sem, *], by simp [go_sem, *]⟩).1
  have hbW := hid (bthen (B := w.heap.size) (w := w) (by go_grown) (by go_size) hb0)
  have KS : Hid (∀ W2 : World, Below W.heap.size W W2 → (Below W.heap.size W W2 ∧ W2.cell? ⟨w.heap.size, 0, none⟩ = some (.int .i64 ah) ∧ W2.cell? ⟨w.heap.size, 1, none⟩ = some (.int .u64 al) ∧ W2.cell? ⟨w.heap.size + 1, 0, none⟩ = some (.int .i64 bh) ∧ W2.cell? ⟨w.heap.size + 1, 1, none⟩ = some (.int .u64 bl) ∧ W2.cell? ⟨w.heap.size + 1 + 1, 0, none⟩ = some (.int .i64 dh) ∧ W2.cell? ⟨w.heap.size + 1 + 1, 1, none⟩ = some (.int .u64 dl))) := fun W2 hb => ⟨hb, cell_later hb tA.1, cell_later hb tA.2.1, cell_later hb tB.1, cell_later hb tB.2.1, cell_later hb tD.1, cell_later hb tD.2.1⟩
  have TA := hid tA
  have TB := hid tB
  have TD := hid tD
  have TQ := hid tQ
  have TR := hid tR
  clear tA tB tD tQ tR hb0
  go_upto_region 3 with fail
  clear hc
  go_cut [9, 10] (fun p q wc => ∃ (c9 c10 : Nat) (hh hl lh ll : Int), p = .pointer (some ⟨c9, 0, none⟩) ∧ q = .pointer (some ⟨c10, 0, none⟩) ∧ Hid (LimbIs hh hl (P / 340282366920938463463374607431768211456)) ∧ Hid (LimbIs lh ll (P % 340282366920938463463374607431768211456)) ∧ Hid (Pair wc c9 c10 (.int .u64 hh) (.int .u64 hl) (.int .u64 lh) (.int .u64 ll)) ∧ Hid (W.heap.size ≤ c9 ∧ W.heap.size ≤ c10 ∧ c9 ≠ c10) ∧ Hid (Below W.heap.size W wc))
  case first =>
    go_region_held3 (fun w' => Below W.heap.size W w' ∧ w'.cell? ⟨w.heap.size, 0, none⟩ = some (.int .i64 ah) ∧ w'.cell? ⟨w.heap.size, 1, none⟩ = some (.int .u64 al) ∧ w'.cell? ⟨w.heap.size + 1, 0, none⟩ = some (.int .i64 bh) ∧ w'.cell? ⟨w.heap.size + 1, 1, none⟩ = some (.int .u64 bl) ∧ w'.cell? ⟨w.heap.size + 1 + 1, 0, none⟩ = some (.int .i64 dh) ∧ w'.cell? ⟨w.heap.size + 1 + 1, 1, none⟩ = some (.int .u64 dl))
      (exact KS.out _ (by first | (go_grown; done) | fail))
      (first
        | (go_at_call 38; refine (mul_any A1.out A2.out _).mono ?_; rw [← hP.out]; rintro e w3 ⟨hh, hl, lh, ll, i3, i4, rfl, hb3⟩; have X3 := bthen (B := W.heap.size) (w := W) (by go_grown) (by go_size) hb3; have X3s := X3.size; have Y3 := bthen (B := w2.heap.size) (w := w2) (by go_grown) (by go_size) hb3; have Y3s := Y3.size; (try have n1a := (two_later Y3 n1a).1); (try have n1b := (two_later Y3 n1b).1); (try have n2a := (two_later Y3 n2a).1); (try have n2b := (two_later Y3 n2b).1); (try with_reducible have n3a := (two_later hb3 (Two.new w2 (.int .u64 0) (.int .u64 0) _)).1); (try with_reducible have n3a := (two_later hb3 ((Two.new w2 (.int .u64 0) (.int .u64 0) _).alloc _)).1); (try with_reducible have n3b := (two_later hb3 (Two.new2 w2 _ (.int .u64 0) (.int .u64 0) _)).1); (try have q3a := Two.lt n3a); (try have q3b := Two.lt n3b); (try have p1a := Two.lt n1a); (try obtain ⟨o1a1, o1a2, o1a3, o1a4⟩ := id n1a); (try have p1b := Two.lt n1b); (try obtain ⟨o1b1, o1b2, o1b3, o1b4⟩ := id n1b); (try have p2a := Two.lt n2a); (try obtain ⟨o2a1, o2a2, o2a3, o2a4⟩ := id n2a); (try have p2b := Two.lt n2b); (try obtain ⟨o2b1, o2b2, o2b3, o2b4⟩ := id n2b); (try have p3a := Two.lt n3a); (try obtain ⟨o3a1, o3a2, o3a3, o3a4⟩ := id n3a); (try have p3b := Two.lt n3b); (try obtain ⟨o3b1, o3b2, o3b3, o3b4⟩ := id n3b); have A3 := hid i3; clear i3; have A4 := hid i4; clear i4)
        | (go_at_call 52; have dummy := A1; clear dummy; refine (size_any hb _).mono ?_; rintro e w2 ⟨h2, l2, i2, rfl, hb2⟩; have X2 := bthen (B := W.heap.size) (w := W) (by go_grown) (by go_size) hb2; have X2s := X2.size; have Y2 := bthen (B := w1.heap.size) (w := w1) (by go_grown) (by go_size) hb2; have Y2s := Y2.size; (try have n1a := (two_later Y2 n1a).1); (try have n1b := (two_later Y2 n1b).1); (try with_reducible have n2a := (two_later hb2 (Two.new w1 (.int .u64 0) (.int .u64 0) _)).1); (try with_reducible have n2a := (two_later hb2 ((Two.new w1 (.int .u64 0) (.int .u64 0) _).alloc _)).1); (try with_reducible have n2b := (two_later hb2 (Two.new2 w1 _ (.int .u64 0) (.int .u64 0) _)).1); (try have q2a := Two.lt n2a); (try have q2b := Two.lt n2b); have A2 := hid i2; clear i2)
        | (go_at_call 52; refine (size_any ha _).mono ?_; rintro e w1 ⟨h1, l1, i1, rfl, hb1⟩; have X1 := bthen (B := W.heap.size) (w := W) (by go_grown) (by go_size) hb1; have X1s := X1.size; have Y1 := bthen (B := W.heap.size) (w := W) (by go_grown) (by go_size) hb1; have Y1s := Y1.size; (try with_reducible have n1a := (two_later hb1 (Two.new W (.int .u64 0) (.int .u64 0) _)).1); (try with_reducible have n1a := (two_later hb1 (Two.new W (.int .u64 0) (.int .u64 0) _).drew).1); (try with_reducible have n1a := (two_later hb1 ((Two.new W (.int .u64 0) (.int .u64 0) _).alloc _)).1); (try with_reducible have n1b := (two_later hb1 (Two.new2 W _ (.int .u64 0) (.int .u64 0) _)).1); (try with_reducible have n1a := (two_later hb1 ((Two.new W (.int .u64 0) (.int .u64 0) _).alloc _).drew).1); (try with_reducible have n1b := (two_later hb1 (Two.new2 W _ (.int .u64 0) (.int .u64 0) _).drew).1); (try have q1a := Two.lt n1a); (try have q1b := Two.lt n1b); have A1 := hid i1; clear i1))
    all_goals
      go_wp2_with fail
      go_meet
      refine ⟨_, _, hh, hl, lh, ll, rfl, rfl, A3, A4, hid ?_, hid ⟨?_, ?_, ?_⟩, hid ?_⟩
      · first | (with_reducible exact pair_aa) | (with_reducible exact pair_aa') | (with_reducible exact pair_ab (by assumption)) | (with_reducible exact pair_ba (by assumption)) | (with_reducible exact pair_bb (by assumption) (by assumption) (by omega))
      · omega
      · omega
      · omega
      · go_grown
  case rest =>
    obtain ⟨c9, c10, hh, hl, lh, ll, rfl, rfl, i9, i10, pr, cs, hbc⟩ := hcut
    have TA1 := hid (two_later hbc.out TA.out).1
    have TB1 := hid (two_later hbc.out TB.out).1
    have TD1 := hid (two_later hbc.out TD.out).1
    have TQ1 := hid (two_later hbc.out TQ.out).1
    have TR1 := hid (two_later hbc.out TR.out).1
    have hbw := hid (bthen hbW.out hbW.out.size hbc.out)
    have zc := hbw.out.size
    have e9 : c9 < wc.heap.size := Two.lt pr.out.1
    have e10 : c10 < wc.heap.size := Two.lt pr.out.2
    have cQ := Two.lt TQ.out
    have cR := Two.lt TR.out
    have e11 := hbc.out.size
    obtain ⟨U, hU⟩ : ∃ U : World, U = wc := ⟨_, rfl⟩
    subst hU
    clear KS TA TB TD TQ TR hbW
    have KS : Hid (∀ W2 : World, Below U.heap.size U W2 → (Below U.heap.size U W2 ∧ W2.cell? ⟨c9, 0, none⟩ = some (.int .u64 hh) ∧ W2.cell? ⟨c9, 1, none⟩ = some (.int .u64 hl) ∧ W2.cell? ⟨c10, 0, none⟩ = some (.int .u64 lh) ∧ W2.cell? ⟨c10, 1, none⟩ = some (.int .u64 ll) ∧ W2.cell? ⟨w.heap.size + 1 + 1, 0, none⟩ = some (.int .i64 dh) ∧ W2.cell? ⟨w.heap.size + 1 + 1, 1, none⟩ = some (.int .u64 dl))) := fun W2 hb => ⟨hb, cell_later hb pr.out.1.1, cell_later hb pr.out.1.2.1, cell_later hb pr.out.2.1, cell_later hb pr.out.2.2.1, cell_later hb TD1.out.1, cell_later hb TD1.out.2.1⟩
    go_upto_region 4 with fail
    by_cases hlt : P / 340282366920938463463374607431768211456 < d
    · have HLT := hid hlt
      clear hlt
      go_cut [11, 12, 13] (fun p q r wc => ∃ (c11 c12 : Nat) (qh ql rh rl : Int), p = .pointer (some ⟨c11, 0, none⟩) ∧ q = .pointer (some ⟨c12, 0, none⟩) ∧ r = .bool true ∧ Hid (LimbIs qh ql (P / d)) ∧ Hid (LimbIs rh rl (P % d)) ∧ Hid (Pair wc c11 c12 (.int .u64 qh) (.int .u64 ql) (.int .u64 rh) (.int .u64 rl)) ∧ Hid (U.heap.size ≤ c11 ∧ U.heap.size ≤ c12 ∧ c11 ≠ c12) ∧ Hid (Below U.heap.size U wc))
      case first =>
        go_region_held3 (fun w' => Below U.heap.size U w' ∧ w'.cell? ⟨c9, 0, none⟩ = some (.int .u64 hh) ∧ w'.cell? ⟨c9, 1, none⟩ = some (.int .u64 hl) ∧ w'.cell? ⟨c10, 0, none⟩ = some (.int .u64 lh) ∧ w'.cell? ⟨c10, 1, none⟩ = some (.int .u64 ll) ∧ w'.cell? ⟨w.heap.size + 1 + 1, 0, none⟩ = some (.int .i64 dh) ∧ w'.cell? ⟨w.heap.size + 1 + 1, 1, none⟩ = some (.int .u64 dl))
          (exact KS.out _ (by first | (go_grown; done) | fail))
          (first
            | (go_at_call 53; refine (div_yes i9.out i10.out A1.out HLT.out _).mono ?_; rw [EQ.out, ER.out]; rintro e w2 ⟨qh, ql, rh, rl, i3, i4, rfl, hb2⟩; have X2 := bthen (B := U.heap.size) (w := U) (by go_grown) (by go_size) hb2; have X2s := X2.size; have Y2 := bthen (B := w1.heap.size) (w := w1) (by go_grown) (by go_size) hb2; have Y2s := Y2.size; (try have n1a := (two_later Y2 n1a).1); (try have n1b := (two_later Y2 n1b).1); (try with_reducible have n2a := (two_later hb2 (Two.new w1 (.int .u64 0) (.int .u64 0) _)).1); (try with_reducible have n2a := (two_later hb2 ((Two.new w1 (.int .u64 0) (.int .u64 0) _).alloc _)).1); (try with_reducible have n2b := (two_later hb2 (Two.new2 w1 _ (.int .u64 0) (.int .u64 0) _)).1); (try have q2a := Two.lt n2a); (try have q2b := Two.lt n2b); (try have p1a := Two.lt n1a); (try obtain ⟨o1a1, o1a2, o1a3, o1a4⟩ := id n1a); (try have p1b := Two.lt n1b); (try obtain ⟨o1b1, o1b2, o1b3, o1b4⟩ := id n1b); (try have p2a := Two.lt n2a); (try obtain ⟨o2a1, o2a2, o2a3, o2a4⟩ := id n2a); (try have p2b := Two.lt n2b); (try obtain ⟨o2b1, o2b2, o2b3, o2b4⟩ := id n2b); have A3 := hid i3; clear i3; have A4 := hid i4; clear i4)
            | (go_at_call 46; refine (bitsOf_any hd _).mono ?_; rw [ED.out]; rintro e w1 ⟨h1, i1, rfl, hb1⟩; have X1 := bthen (B := U.heap.size) (w := U) (by go_grown) (by go_size) hb1; have X1s := X1.size; have Y1 := bthen (B := U.heap.size) (w := U) (by go_grown) (by go_size) hb1; have Y1s := Y1.size; (try with_reducible have n1a := (two_later hb1 (Two.new U (.int .u64 0) (.int .u64 0) _)).1); (try with_reducible have n1a := (two_later hb1 (Two.new U (.int .u64 0) (.int .u64 0) _).drew).1); (try with_reducible have n1a := (two_later hb1 ((Two.new U (.int .u64 0) (.int .u64 0) _).alloc _)).1); (try with_reducible have n1b := (two_later hb1 (Two.new2 U _ (.int .u64 0) (.int .u64 0) _)).1); (try with_reducible have n1a := (two_later hb1 ((Two.new U (.int .u64 0) (.int .u64 0) _).alloc _).drew).1); (try with_reducible have n1b := (two_later hb1 (Two.new2 U _ (.int .u64 0) (.int .u64 0) _).drew).1); (try have q1a := Two.lt n1a); (try have q1b := Two.lt n1b); have A1 := hid i1; clear i1))
        all_goals
          go_wp2_with fail
          go_meet
          refine ⟨_, _, qh, ql, rh, rl, rfl, rfl, rfl, A3, A4, hid ?_, hid ⟨?_, ?_, ?_⟩, hid ?_⟩
          · first | (with_reducible exact pair_aa) | (with_reducible exact pair_aa') | (with_reducible exact pair_ab (by assumption)) | (with_reducible exact pair_ba (by assumption)) | (with_reducible exact pair_bb (by assumption) (by assumption) (by omega))
          · omega
          · omega
          · omega
          · go_grown
      case rest =>
        obtain ⟨c11, c12, qh, ql, rh, rl, rfl, rfl, rfl, i11, i12, pr2, cs2, hbc2⟩ := hcut
        have TA2 := hid (two_later hbc2.out TA1.out).1
        have TB2 := hid (two_later hbc2.out TB1.out).1
        have TD2 := hid (two_later hbc2.out TD1.out).1
        have TQ2 := hid (two_later hbc2.out TQ1.out).1
        have TR2 := hid (two_later hbc2.out TR1.out).1
        have hbw2 := hid (bthen hbw.out hbw.out.size hbc2.out)
        have NE : Hid (c11 ≠ w.heap.size + 1 + 1 + 1 ∧ c11 ≠ w.heap.size + 1 + 1 + 1 + 1 ∧ c12 ≠ w.heap.size + 1 + 1 + 1 ∧ c12 ≠ w.heap.size + 1 + 1 + 1 + 1 ∧ c11 ≠ c12 ∧ w.heap.size ≤ c11 ∧ w.heap.size ≤ c12) := by
          have h1 := cs2.out; have h2 := hbw.out.size
          rw [Hid]; omega
        obtain ⟨U2, hU2⟩ : ∃ U2 : World, U2 = wc := ⟨_, rfl⟩
        subst hU2
        clear KS TA1 TB1 TD1 TQ1 TR1 hbw pr hbc cs cs2 hbc2 zc e9 e10 e11 cQ cR i9 i10
        have KS : Hid (∀ W2 : World, Below U2.heap.size U2 W2 → (Below U2.heap.size U2 W2 ∧ W2.cell? ⟨w.heap.size, 0, none⟩ = some (.int .i64 ah) ∧ W2.cell? ⟨w.heap.size, 1, none⟩ = some (.int .u64 al) ∧ W2.cell? ⟨w.heap.size + 1, 0, none⟩ = some (.int .i64 bh) ∧ W2.cell? ⟨w.heap.size + 1, 1, none⟩ = some (.int .u64 bl))) := fun W2 hb => ⟨hb, cell_later hb TA2.out.1, cell_later hb TA2.out.2.1, cell_later hb TB2.out.1, cell_later hb TB2.out.2.1⟩
        obtain ⟨mi, hmi⟩ : ∃ mi : Bool, Hid (mi = (sg a != sg b)) := ⟨_, rfl⟩
        go_upto_region 7 with fail
        go_cut [14] (fun m wc => m = .bool mi ∧ Hid (Below U2.heap.size U2 wc))
        case first =>
          by_cases C00 : sg a = false ∧ sg b = false
          · obtain ⟨HA, HB⟩ := C00
            obtain rfl : mi = false := by rw [hmi.out, HA, HB]; rfl
            have HAA := hid HA
            have HBB := hid HB
            clear HA HB hmi
            go_region_held3 (fun w' => Below U2.heap.size U2 w' ∧ w'.cell? ⟨w.heap.size, 0, none⟩ = some (.int .i64 ah) ∧ w'.cell? ⟨w.heap.size, 1, none⟩ = some (.int .u64 al) ∧ w'.cell? ⟨w.heap.size + 1, 0, none⟩ = some (.int .i64 bh) ∧ w'.cell? ⟨w.heap.size + 1, 1, none⟩ = some (.int .u64 bl))
              (exact KS.out _ (by first | (go_grown; done) | fail))
              (first
                | (go_at_call 48; refine (below_lit ha HAA.out _).mono ?_; rintro e w5 ⟨rfl, hb5⟩; have X5 := bthen (B := U2.heap.size) (w := U2) (by go_grown) (by go_size) hb5; have X5s := X5.size)
                | (go_at_call 48; refine (below_lit hb HBB.out _).mono ?_; rintro e w5 ⟨rfl, hb5⟩; have X5 := bthen (B := U2.heap.size) (w := U2) (by go_grown) (by go_size) hb5; have X5s := X5.size))
            all_goals
              go_wp2_with fail
              go_meet
              refine ⟨rfl, hid ?_⟩
              go_grown
          by_cases C01 : sg a = false ∧ sg b = true
          · obtain ⟨HA, HB⟩ := C01
            obtain rfl : mi = true := by rw [hmi.out, HA, HB]; rfl
            have HAA := hid HA
            have HBB := hid HB
            clear HA HB hmi
            go_region_held3 (fun w' => Below U2.heap.size U2 w' ∧ w'.cell? ⟨w.heap.size, 0, none⟩ = some (.int .i64 ah) ∧ w'.cell? ⟨w.heap.size, 1, none⟩ = some (.int .u64 al) ∧ w'.cell? ⟨w.heap.size + 1, 0, none⟩ = some (.int .i64 bh) ∧ w'.cell? ⟨w.heap.size + 1, 1, none⟩ = some (.int .u64 bl))
              (exact KS.out _ (by first | (go_grown; done) | fail))
              (first
                | (go_at_call 48; refine (below_lit ha HAA.out _).mono ?_; rintro e w5 ⟨rfl, hb5⟩; have X5 := bthen (B := U2.heap.size) (w := U2) (by go_grown) (by go_size) hb5; have X5s := X5.size)
                | (go_at_call 48; refine (below_lit hb HBB.out _).mono ?_; rintro e w5 ⟨rfl, hb5⟩; have X5 := bthen (B := U2.heap.size) (w := U2) (by go_grown) (by go_size) hb5; have X5s := X5.size))
            all_goals
              go_wp2_with fail
              go_meet
              refine ⟨rfl, hid ?_⟩
              go_grown
          by_cases C10 : sg a = true ∧ sg b = false
          · obtain ⟨HA, HB⟩ := C10
            obtain rfl : mi = true := by rw [hmi.out, HA, HB]; rfl
            have HAA := hid HA
            have HBB := hid HB
            clear HA HB hmi
            go_region_held3 (fun w' => Below U2.heap.size U2 w' ∧ w'.cell? ⟨w.heap.size, 0, none⟩ = some (.int .i64 ah) ∧ w'.cell? ⟨w.heap.size, 1, none⟩ = some (.int .u64 al) ∧ w'.cell? ⟨w.heap.size + 1, 0, none⟩ = some (.int .i64 bh) ∧ w'.cell? ⟨w.heap.size + 1, 1, none⟩ = some (.int .u64 bl))
              (exact KS.out _ (by first | (go_grown; done) | fail))
              (first
                | (go_at_call 48; refine (below_lit ha HAA.out _).mono ?_; rintro e w5 ⟨rfl, hb5⟩; have X5 := bthen (B := U2.heap.size) (w := U2) (by go_grown) (by go_size) hb5; have X5s := X5.size)
                | (go_at_call 48; refine (below_lit hb HBB.out _).mono ?_; rintro e w5 ⟨rfl, hb5⟩; have X5 := bthen (B := U2.heap.size) (w := U2) (by go_grown) (by go_size) hb5; have X5s := X5.size))
            all_goals
              go_wp2_with fail
              go_meet
              refine ⟨rfl, hid ?_⟩
              go_grown
          by_cases C11 : sg a = true ∧ sg b = true
          · obtain ⟨HA, HB⟩ := C11
            obtain rfl : mi = false := by rw [hmi.out, HA, HB]; rfl
            have HAA := hid HA
            have HBB := hid HB
            clear HA HB hmi
            go_region_held3 (fun w' => Below U2.heap.size U2 w' ∧ w'.cell? ⟨w.heap.size, 0, none⟩ = some (.int .i64 ah) ∧ w'.cell? ⟨w.heap.size, 1, none⟩ = some (.int .u64 al) ∧ w'.cell? ⟨w.heap.size + 1, 0, none⟩ = some (.int .i64 bh) ∧ w'.cell? ⟨w.heap.size + 1, 1, none⟩ = some (.int .u64 bl))
              (exact KS.out _ (by first | (go_grown; done) | fail))
              (first
                | (go_at_call 48; refine (below_lit ha HAA.out _).mono ?_; rintro e w5 ⟨rfl, hb5⟩; have X5 := bthen (B := U2.heap.size) (w := U2) (by go_grown) (by go_size) hb5; have X5s := X5.size)
                | (go_at_call 48; refine (below_lit hb HBB.out _).mono ?_; rintro e w5 ⟨rfl, hb5⟩; have X5 := bthen (B := U2.heap.size) (w := U2) (by go_grown) (by go_size) hb5; have X5s := X5.size))
            all_goals
              go_wp2_with fail
              go_meet
              refine ⟨rfl, hid ?_⟩
              go_grown
          exfalso
          cases HA : sg a
          · cases HB : sg b
            · exact C00 ⟨HA, HB⟩
            · exact C01 ⟨HA, HB⟩
          · cases HB : sg b
            · exact C10 ⟨HA, HB⟩
            · exact C11 ⟨HA, HB⟩
        case rest =>
          obtain ⟨rfl, hbc3⟩ := hcut
          have TD3 := hid (two_later hbc3.out TD2.out).1
          have TQ3 := hid (two_later hbc3.out TQ2.out).1
          have TR3 := hid (two_later hbc3.out TR2.out).1
          have T113 := hid (two_later hbc3.out pr2.out.1).1
          have T123 := hid (two_later hbc3.out pr2.out.2).1
          have hbw3 := hid (bthen hbw2.out hbw2.out.size hbc3.out)
          obtain ⟨U3, hU3⟩ : ∃ U3 : World, U3 = wc := ⟨_, rfl⟩
          subst hU3
          clear KS TA2 TB2 TD2 TQ2 TR2 pr2 hbw2 hbc3
          have qe := run_neq_limb
          have LR : Hid (0 ≤ P % d ∧ P % d < d) := ⟨Int.emod_nonneg _ (by omega), Int.emod_lt_of_pos _ h0⟩
          cases mi
          · exfalso; have h1 := hmi.out; exact HS.out (by simpa using h1)
          · have EP : a * b = -P := by rw [hP.out]; exact mul_unlike (by have := hmi.out; intro h; rw [h] at this; simp at this)
            by_cases hr : P % d = 0
            · obtain ⟨ex, ey⟩ := floor_even h0 rfl hr
              have EX : Hid (a * b / d = -(P / d)) := by rw [Hid, EP]; exact ex
              have EY : Hid (a * b % d = P % d) := by rw [Hid, EP, hr]; exact ey
              have hq := eqL_same i12.out (limb_0.eq hr.symm)
              have iT := i11
              have iL := i12
              have t11 := T113
              have t12 := T123
              have tq := TQ3
              have tr := TR3
              have hbU := hbw3
              clear i11 i12 T113 T123 TQ3 TR3 hbw3 EP hmi hr ex ey
              obtain ⟨a1, a2, a3, a4⟩ := t11.out
              obtain ⟨b1, b2, b3, b4⟩ := t12.out
              obtain ⟨q1, q2, q3, q4⟩ := tq.out
              obtain ⟨r1, r2, r3, r4⟩ := tr.out
              have ne := NE.out
              obtain ⟨ne1, ne2, ne3, ne4, ne5, ne6, ne7⟩ := ne
              go_wp2_with fail
              refine (signed_m iT.out _).mono ?_
              rintro e w8 ⟨fh, fl, i8, rfl, hb8⟩
              obtain ⟨⟨c1, c2, c3, c4⟩, c5⟩ := two_later hb8 t12.out
              obtain ⟨⟨d1, d2, d3, d4⟩, d5⟩ := two_later hb8 tq.out
              obtain ⟨⟨e1, e2, e3, e4⟩, e5⟩ := two_later hb8 tr.out
              have x8 := bthen hbU.out hbU.out.size hb8
              have z8 := x8.size
              clear a1 a2 a3 a4 b1 b2 b3 b4 q1 q2 q3 q4 r1 r2 r3 r4 hb8
              have I8 := hid i8
              clear i8
              go_upto_region 13 with fail
              obtain ⟨V8, hV8⟩ : ∃ V8, V8 = (w8.setCell ⟨w.heap.size + 1 + 1 + 1, 0, none⟩ (.int .i64 fh)).setCell ⟨w.heap.size + 1 + 1 + 1, 1, none⟩ (.int .u64 fl) := ⟨_, rfl⟩
              rw [← hV8]
              have tq8 : Hid (Two V8 (w.heap.size + 1 + 1 + 1) (.int .i64 fh) (.int .u64 fl)) := by rw [hV8]; exact Two.set ⟨d1, d2, d3, d4⟩ _ _
              have tr8 : Hid (Two V8 (w.heap.size + 1 + 1 + 1 + 1) (.int .i64 0) (.int .u64 0)) := by rw [hV8]; exact (Two.other ⟨e1, e2, e3, e4⟩ (by omega)).other (by omega)
              have tl8 : Hid (Two V8 c12 (.int .u64 rh) (.int .u64 rl)) := by rw [hV8]; exact (Two.other ⟨c1, c2, c3, c4⟩ (by omega)).other (by omega)
              have x9 : Below w.heap.size w V8 := by rw [hV8]; go_grown
              have z9 := x9.size
              obtain ⟨k1, k2, k3, k4⟩ := tq8.out
              obtain ⟨l1, l2, l3, l4⟩ := tr8.out
              obtain ⟨m1, m2, m3, m4⟩ := tl8.out
              clear hV8 c1 c2 c3 c4 c5 d1 d2 d3 d4 d5 e1 e2 e3 e4 e5 x8 z8
              cases fi : inW (-(P / d))
              · have fe : fitE (-(P / d)) = 2 := by unfold fitE; rw [if_neg (by rw [fi]; decide)]
                have FV : Hid (fitV (a * b / d) = 0) := by rw [Hid, EX.out]; unfold fitV; rw [if_neg (by rw [fi]; decide)]
                have FE : Hid (fitE (a * b / d) = 2) := by rw [Hid, EX.out]; exact fe
                have FR : Hid (fitR (a * b / d) (a * b % d) = 0) := fitR_no (by rw [EX.out]; exact fi)
                clear fi
                go_wp2_with fail
                suffices hFin : (results Try.f43 _).run Try.prog _ = .ok (.tuple #[.agg #[.int .i64 0, .int .u64 0], .agg #[.int .i64 0, .int .u64 0], .int .i64 2]) _ ∧ _ from bodyPost_ret hFin.1 rfl hFin.2
                exact ⟨by simp [results, Try.results43, go_sem, *], ⟨_, _, _, _, wide_0.eq FV.out.symm, wide_0.eq FR.out.symm, by rw [FE.out], by go_grown⟩⟩
              · have fe : fitE (-(P / d)) = 0 := by unfold fitE; rw [if_pos fi]
                have FV : Hid (fitV (-(P / d)) = fitV (a * b / d)) := by rw [Hid, EX.out]
                have FE : Hid (fitE (a * b / d) = 0) := by rw [Hid, EX.out]; exact fe
                have FR : Hid (fitR (a * b / d) (a * b % d) = sgn (P % d)) := by rw [Hid, fitR_yes (by rw [EX.out]; exact fi), EY.out]; have h1 := LR.out; have h2 := hd.range; unfold sgn; rw [if_pos (by omega)]
                clear fi
                go_upto_region 15 with fail
                clear fe
                go_region_with (first | (go_at_call 47; refine (ofBits_any iL.out _).mono ?_; rintro e w9 ⟨gh, i9, rfl, hb9⟩; have I9 := hid i9; clear i9; obtain ⟨⟨k1, k2, k3, k4⟩, k5⟩ := two_later (bthen (B := V8.heap.size) (w := V8) (by go_grown) (by go_size) hb9) tq8.out; obtain ⟨⟨l1, l2, l3, l4⟩, l5⟩ := two_later (bthen (B := V8.heap.size) (w := V8) (by go_grown) (by go_size) hb9) tr8.out; have x10 := bthen (B := w.heap.size) (w := w) (by go_grown) (by go_size) hb9; have z10 := x10.size))
                all_goals
                  go_wp2_with fail
                  suffices hFin : (results Try.f43 _).run Try.prog _ = .ok (.tuple #[.agg #[.int .i64 fh, .int .u64 fl], .agg #[.int .i64 gh, .int .u64 rl], .int .i64 0]) _ ∧ _ from bodyPost_ret hFin.1 rfl hFin.2
                  exact ⟨by simp [results, Try.results43, go_sem, *], ⟨_, _, _, _, I8.out.eq FV.out, I9.out.eq FR.out.symm, by rw [FE.out], by go_grown⟩⟩

            · exact absurd (by rw [hP.out]; exact HR.out) hr
    · exfalso; have h1 := G0.out; rw [← hP.out] at h1; omega
end Go.Proofs.Ytklankodjjkhiaa
