/-
  The contract of wide.Add: the sum, or ErrOver where it does not fit (P2.2). No conditions.
-/
import Derived.Test.YtklankodjjkhiaaWideA
import Derived.Test.YtklankodjjkhiaaLawF
import Derived.Deep.DeepCutAuto
namespace Go.Proofs.Ytklankodjjkhiaa
open Go.RowKit

theorem below_lit {h l z : Int} {s : Bool} (k : WideIs h l z) (hs : sg z = s) (w : World) :
    Calls Try.prog 48 #[.agg #[.int .i64 h, .int .u64 l]] w fun e w' => e = .returned (.bool s) ∧ Below w.heap.size w w' := hs ▸ below_any k w
theorem sg_true {z : Int} (h : sg z = true) : z < 0 := by unfold sg at h; simpa using h
theorem sg_false {z : Int} (h : sg z = false) : 0 ≤ z := by unfold sg at h; simpa using h
/-- The sum's bits, as a number with a sign, are the sum, or it does not fit. -/
theorem sum_bits {a b : Int} (a0 : -170141183460469231731687303715884105728 ≤ a) (a1 : a < 170141183460469231731687303715884105728) (b0 : -170141183460469231731687303715884105728 ≤ b) (b1 : b < 170141183460469231731687303715884105728) :
    (-170141183460469231731687303715884105728 ≤ a + b ∧ a + b < 170141183460469231731687303715884105728 → sgn ((a % 340282366920938463463374607431768211456 + b % 340282366920938463463374607431768211456) % 340282366920938463463374607431768211456) = a + b) ∧
    (a + b < -170141183460469231731687303715884105728 → sgn ((a % 340282366920938463463374607431768211456 + b % 340282366920938463463374607431768211456) % 340282366920938463463374607431768211456) = a + b + 340282366920938463463374607431768211456) ∧
    (170141183460469231731687303715884105728 ≤ a + b → sgn ((a % 340282366920938463463374607431768211456 + b % 340282366920938463463374607431768211456) % 340282366920938463463374607431768211456) = a + b - 340282366920938463463374607431768211456) := by
  unfold sgn
  refine ⟨fun h => ?_, fun h => ?_, fun h => ?_⟩ <;> split <;> omega
theorem diff_bits {a b : Int} (a0 : -170141183460469231731687303715884105728 ≤ a) (a1 : a < 170141183460469231731687303715884105728) (b0 : -170141183460469231731687303715884105728 ≤ b) (b1 : b < 170141183460469231731687303715884105728) :
    (-170141183460469231731687303715884105728 ≤ a - b ∧ a - b < 170141183460469231731687303715884105728 → sgn ((a % 340282366920938463463374607431768211456 - b % 340282366920938463463374607431768211456) % 340282366920938463463374607431768211456) = a - b) ∧
    (a - b < -170141183460469231731687303715884105728 → sgn ((a % 340282366920938463463374607431768211456 - b % 340282366920938463463374607431768211456) % 340282366920938463463374607431768211456) = a - b + 340282366920938463463374607431768211456) ∧
    (170141183460469231731687303715884105728 ≤ a - b → sgn ((a % 340282366920938463463374607431768211456 - b % 340282366920938463463374607431768211456) % 340282366920938463463374607431768211456) = a - b - 340282366920938463463374607431768211456) := by
  unfold sgn
  refine ⟨fun h => ?_, fun h => ?_, fun h => ?_⟩ <;> split <;> omega

attribute [local go_sem ↓] Go.wp_at_zero Go.wp_at_succ
set_option maxRecDepth 100000 in
set_option maxHeartbeats 4000000 in
theorem wadd_any {ah al bh bl a b : Int} (ha : WideIs ah al a) (hb : WideIs bh bl b) (w : World) :
    Calls Try.prog 34 #[.agg #[.int .i64 ah, .int .u64 al], .agg #[.int .i64 bh, .int .u64 bl]] w fun e w' =>
      ∃ h l : Int, WideIs h l (fitV (a + b)) ∧ e = .returned (.tuple #[.agg #[.int .i64 h, .int .u64 l], .int .i64 (fitE (a + b))]) ∧ Below w.heap.size w w' := by
  have BITS := hid (sum_bits ha.range.1 ha.range.2 hb.range.1 hb.range.2)
  have RNG := hid (And.intro ha.range hb.range)
  go_enter Try.func34, Try.ntmps34
  go_upto_region 1 with fail
  obtain ⟨W, hW⟩ : ∃ W, W = ((w.alloc (Obj.cells #[.int .i64 ah, .int .u64 al] 24)).alloc (Obj.cells #[.int .i64 bh, .int .u64 bl] 24)).alloc (Obj.cells #[.int .i64 0, .int .u64 0] 24) := ⟨_, rfl⟩
  rw [← hW]
  have tA : Two W w.heap.size (.int .i64 ah) (.int .u64 al) := by rw [hW]; exact ⟨by simp [go_sem], by simp [go_sem], by simp [go_sem], by simp [go_sem]⟩
  have tB : Two W (w.heap.size + 1) (.int .i64 bh) (.int .u64 bl) := by rw [hW]; exact ⟨by simp [go_sem], by simp [go_sem], by simp [go_sem], by simp [go_sem]⟩
  have tR : Hid (Two W (w.heap.size + 1 + 1) (.int .i64 0) (.int .u64 0)) := by rw [hW]; exact ⟨by simp [go_sem], by simp [go_sem], by simp [go_sem], by simp [go_sem]⟩
  have hbW : Hid (Below w.heap.size w W) := by rw [hW, Hid]; go_grown
  have KS : Hid (∀ W2 : World, Below W.heap.size W W2 → (Below W.heap.size W W2 ∧ W2.cell? ⟨w.heap.size, 0, none⟩ = some (.int .i64 ah) ∧ W2.cell? ⟨w.heap.size, 1, none⟩ = some (.int .u64 al) ∧ W2.cell? ⟨w.heap.size + 1, 0, none⟩ = some (.int .i64 bh) ∧ W2.cell? ⟨w.heap.size + 1, 1, none⟩ = some (.int .u64 bl))) := fun W2 hb => ⟨hb, cell_later hb tA.1, cell_later hb tA.2.1, cell_later hb tB.1, cell_later hb tB.2.1⟩
  have TA := hid tA
  have TB := hid tB
  clear hW tA tB
  go_cut [6] (fun p wc => ∃ (c : Nat) (h l : Int), p = .pointer (some ⟨c, 0, none⟩) ∧ Hid (LimbIs h l ((a % 340282366920938463463374607431768211456 + b % 340282366920938463463374607431768211456) % 340282366920938463463374607431768211456)) ∧ Hid (Two wc c (.int .u64 h) (.int .u64 l)) ∧ Hid (W.heap.size ≤ c) ∧ Hid (Below W.heap.size W wc))
  case first =>
    go_region_held3 (fun w' => Below W.heap.size W w' ∧ w'.cell? ⟨w.heap.size, 0, none⟩ = some (.int .i64 ah) ∧ w'.cell? ⟨w.heap.size, 1, none⟩ = some (.int .u64 al) ∧ w'.cell? ⟨w.heap.size + 1, 0, none⟩ = some (.int .i64 bh) ∧ w'.cell? ⟨w.heap.size + 1, 1, none⟩ = some (.int .u64 bl))
      (exact KS.out _ (by first | (go_grown; done) | fail))
      (first
        | (go_at_call 45; refine (add_any A1.out A2.out _).mono ?_; rintro e w3 ⟨h3, l3, i3, rfl, hb3⟩; have X3 := bthen (B := W.heap.size) (w := W) (by go_grown) (by go_size) hb3; have X3s := X3.size; have Y3 := bthen (B := w2.heap.size) (w := w2) (by go_grown) (by go_size) hb3; (try have nA := (two_later Y3 nA).1); (try have nA := (two_later hb3 (b := w2.heap.size) (u := .int .u64 0) (v := .int .u64 0) ⟨by first | (simp [go_sem]; done) | fail, by first | (simp [go_sem]; done) | fail, by first | (simp [go_sem]; done) | fail, by first | (simp [go_sem]; done) | fail⟩).1); (try have nL := Two.lt nA); (try obtain ⟨o1, o2, o3, o4⟩ := id nA); have A3 := hid i3; clear i3)
        | (go_at_call 46; have dummy := A1; clear dummy; refine (bitsOf_any hb _).mono ?_; rintro e w2 ⟨h2, i2, rfl, hb2⟩; have X2 := bthen (B := W.heap.size) (w := W) (by go_grown) (by go_size) hb2; have X2s := X2.size; have Y2 := bthen (B := w1.heap.size) (w := w1) (by go_grown) (by go_size) hb2; (try have nA := (two_later Y2 nA).1); (try have nA := (two_later hb2 (b := w1.heap.size) (u := .int .u64 0) (v := .int .u64 0) ⟨by first | (simp [go_sem]; done) | fail, by first | (simp [go_sem]; done) | fail, by first | (simp [go_sem]; done) | fail, by first | (simp [go_sem]; done) | fail⟩).1); (try have nL := Two.lt nA); have A2 := hid i2; clear i2)
        | (go_at_call 46; refine (bitsOf_any ha _).mono ?_; rintro e w1 ⟨h1, i1, rfl, hb1⟩; have X1 := bthen (B := W.heap.size) (w := W) (by go_grown) (by go_size) hb1; have X1s := X1.size; (try have nA := (two_later hb1 (b := W.heap.size) (u := .int .u64 0) (v := .int .u64 0) ⟨by first | (simp [go_sem]; done) | fail, by first | (simp [go_sem]; done) | fail, by first | (simp [go_sem]; done) | fail, by first | (simp [go_sem]; done) | fail⟩).1); (try have nL := Two.lt nA); have A1 := hid i1; clear i1))
    all_goals
      go_wp2_with fail
      go_meet
      refine ⟨_, _, _, rfl, A3, hid ?_, hid ?_, hid ?_⟩
      · first | (with_reducible exact Two.new _ _ _ _) | exact Two.set nA _ _
      · omega
      · go_grown
  case rest =>
    obtain ⟨c, h3, l3, rfl, i3, tC, hc, hbc⟩ := hcut
    obtain ⟨⟨c1, c2, c3, c4⟩, hc5⟩ : Two wc c (.int .u64 h3) (.int .u64 l3) ∧ c < wc.heap.size := ⟨tC.out, Two.lt tC.out⟩
    obtain ⟨⟨a1, a2, a3, a4⟩, a5⟩ := two_later hbc.out TA.out
    obtain ⟨⟨b1, b2, b3, b4⟩, b5⟩ := two_later hbc.out TB.out
    obtain ⟨⟨r1, r2, r3, r4⟩, r5⟩ := two_later hbc.out tR.out
    have xc := bthen hbW.out hbW.out.size hbc.out
    have zc := xc.size
    clear KS tC
    go_wp2_with fail
    refine (ofBits_any i3.out _).mono ?_
    rintro e w4 ⟨h4, i4, rfl, hb4⟩
    obtain ⟨N, hN⟩ : ∃ N, Hid (N = (a % 340282366920938463463374607431768211456 + b % 340282366920938463463374607431768211456) % 340282366920938463463374607431768211456) := ⟨_, rfl⟩
    rw [← hN.out] at i4 BITS
    have I4 := hid i4
    clear i4
    have x4 := bthen xc xc.size hb4
    have z4 := x4.size
    have tA4 := hid (two_later hb4 (b := w.heap.size) ⟨a1, a2, a3, a4⟩)
    have tB4 := hid (two_later hb4 (b := w.heap.size + 1) ⟨b1, b2, b3, b4⟩)
    have tR4 := hid (two_later hb4 (b := w.heap.size + 1 + 1) ⟨r1, r2, r3, r4⟩)
    clear hb4 a1 a2 a3 a4 a5 b1 b2 b3 b4 b5 r1 r2 r3 r4 r5 c1 c2 c3 c4 hc5 xc zc
    go_upto_region 3 with fail
    obtain ⟨V, hV⟩ : ∃ V, V = w4.alloc (Obj.cells #[.int .i64 h4, .int .u64 l3] 24) := ⟨_, rfl⟩
    rw [← hV]
    have tS := hid (Two.new w4 (.int .i64 h4) (.int .u64 l3) 24)
    have hbV : Below w4.heap.size w4 V := by rw [hV]; go_grown
    rw [← hV] at tS
    have tAV := (two_later hbV tA4.out.1).1
    have tBV := (two_later hbV tB4.out.1).1
    have tRV := (two_later hbV tR4.out.1).1
    have xV := bthen x4 x4.size hbV
    have S0 : Below V.heap.size V V ∧ V.cell? ⟨w.heap.size, 0, none⟩ = some (.int .i64 ah) ∧ V.cell? ⟨w.heap.size, 1, none⟩ = some (.int .u64 al) ∧ V.cell? ⟨w.heap.size + 1, 0, none⟩ = some (.int .i64 bh) ∧ V.cell? ⟨w.heap.size + 1, 1, none⟩ = some (.int .u64 bl) ∧ V.cell? ⟨w4.heap.size, 0, none⟩ = some (.int .i64 h4) ∧ V.cell? ⟨w4.heap.size, 1, none⟩ = some (.int .u64 l3) ∧ V.cell? ⟨w.heap.size + 1 + 1, 0, none⟩ = some (.int .i64 0) ∧ V.cell? ⟨w.heap.size + 1 + 1, 1, none⟩ = some (.int .u64 0) := ⟨Below.refl _ _, tAV.1, tAV.2.1, tBV.1, tBV.2.1, tS.out.1, tS.out.2.1, tRV.1, tRV.2.1⟩
    have FR := hid (And.intro tRV.2.2 (And.intro (two_later hbV tR4.out.1).2 (Nat.le_trans x4.size hbV.size)))
    have KS : Hid (∀ W1 W2 : World, Below W1.heap.size W1 W2 → (Below V.heap.size V W1 ∧ W1.cell? ⟨w.heap.size, 0, none⟩ = some (.int .i64 ah) ∧ W1.cell? ⟨w.heap.size, 1, none⟩ = some (.int .u64 al) ∧ W1.cell? ⟨w.heap.size + 1, 0, none⟩ = some (.int .i64 bh) ∧ W1.cell? ⟨w.heap.size + 1, 1, none⟩ = some (.int .u64 bl) ∧ W1.cell? ⟨w4.heap.size, 0, none⟩ = some (.int .i64 h4) ∧ W1.cell? ⟨w4.heap.size, 1, none⟩ = some (.int .u64 l3) ∧ W1.cell? ⟨w.heap.size + 1 + 1, 0, none⟩ = some (.int .i64 0) ∧ W1.cell? ⟨w.heap.size + 1 + 1, 1, none⟩ = some (.int .u64 0)) → (Below V.heap.size V W2 ∧ W2.cell? ⟨w.heap.size, 0, none⟩ = some (.int .i64 ah) ∧ W2.cell? ⟨w.heap.size, 1, none⟩ = some (.int .u64 al) ∧ W2.cell? ⟨w.heap.size + 1, 0, none⟩ = some (.int .i64 bh) ∧ W2.cell? ⟨w.heap.size + 1, 1, none⟩ = some (.int .u64 bl) ∧ W2.cell? ⟨w4.heap.size, 0, none⟩ = some (.int .i64 h4) ∧ W2.cell? ⟨w4.heap.size, 1, none⟩ = some (.int .u64 l3) ∧ W2.cell? ⟨w.heap.size + 1 + 1, 0, none⟩ = some (.int .i64 0) ∧ W2.cell? ⟨w.heap.size + 1 + 1, 1, none⟩ = some (.int .u64 0))) := fun W1 W2 hb ⟨h0, h1, h2, h3, h4, h5, h6, h7, h8⟩ => ⟨bthen h0 h0.size hb, cell_later hb h1, cell_later hb h2, cell_later hb h3, cell_later hb h4, cell_later hb h5, cell_later hb h6, cell_later hb h7, cell_later hb h8⟩
    have KSV : Hid (∀ W2 : World, Below V.heap.size V W2 → (Below V.heap.size V W2 ∧ W2.cell? ⟨w.heap.size, 0, none⟩ = some (.int .i64 ah) ∧ W2.cell? ⟨w.heap.size, 1, none⟩ = some (.int .u64 al) ∧ W2.cell? ⟨w.heap.size + 1, 0, none⟩ = some (.int .i64 bh) ∧ W2.cell? ⟨w.heap.size + 1, 1, none⟩ = some (.int .u64 bl) ∧ W2.cell? ⟨w4.heap.size, 0, none⟩ = some (.int .i64 h4) ∧ W2.cell? ⟨w4.heap.size, 1, none⟩ = some (.int .u64 l3) ∧ W2.cell? ⟨w.heap.size + 1 + 1, 0, none⟩ = some (.int .i64 0) ∧ W2.cell? ⟨w.heap.size + 1 + 1, 1, none⟩ = some (.int .u64 0))) := fun W2 hb => KS.out _ _ hb S0
    clear hV tA4 tB4 tR4 tAV tBV tRV tS hbV x4 z4 hbc hc TA TB tR hbW i3
    by_cases C000 : sg a = false ∧ sg b = false ∧ sg (sgn N) = false
    · obtain ⟨HA, HB, HS⟩ := C000
      have HF := hid (And.intro (sg_false HA) (And.intro (sg_false HB) (sg_false HS)))
      have HSS := hid HS
      obtain ⟨f0, f1⟩ : -170141183460469231731687303715884105728 ≤ a + b ∧ a + b < 170141183460469231731687303715884105728 := (by have := HF.out; have := BITS.out; have := RNG.out; omega)
      obtain ⟨-, fv, fe⟩ := inW_yes f0 f1
      have RES : Hid (WideIs h4 l3 (fitV (a + b))) := by rw [Hid, fv, ← BITS.out.1 ⟨f0, f1⟩]; exact I4.out
      clear f0 f1
      have FE := hid fe
      have FV := hid fv
      have HAA := hid HA
      have HBB := hid HB
      clear fe fv HA HB
      clear HS
      go_region_held3 (fun w' => Below V.heap.size V w' ∧ w'.cell? ⟨w.heap.size, 0, none⟩ = some (.int .i64 ah) ∧ w'.cell? ⟨w.heap.size, 1, none⟩ = some (.int .u64 al) ∧ w'.cell? ⟨w.heap.size + 1, 0, none⟩ = some (.int .i64 bh) ∧ w'.cell? ⟨w.heap.size + 1, 1, none⟩ = some (.int .u64 bl) ∧ w'.cell? ⟨w4.heap.size, 0, none⟩ = some (.int .i64 h4) ∧ w'.cell? ⟨w4.heap.size, 1, none⟩ = some (.int .u64 l3) ∧ w'.cell? ⟨w.heap.size + 1 + 1, 0, none⟩ = some (.int .i64 0) ∧ w'.cell? ⟨w.heap.size + 1 + 1, 1, none⟩ = some (.int .u64 0))
        (first | exact KS.out _ _ hb5 (by assumption) | exact KS.out _ _ (Below.drew (Below.refl _ _)) (by assumption))
        (first | (go_at_call 48; refine (below_lit ha HAA.out _).mono ?_; rintro e w5 ⟨rfl, hb5⟩; have S5 := KS.out _ _ hb5 (by assumption)) | (go_at_call 48; refine (below_lit hb HBB.out _).mono ?_; rintro e w5 ⟨rfl, hb5⟩; have S5 := KS.out _ _ hb5 (by assumption)) | (go_at_call 48; refine (below_lit I4.out HSS.out _).mono ?_; rintro e w5 ⟨rfl, hb5⟩; have S5 := KS.out _ _ hb5 (by assumption)))
      all_goals
        clear S0
        obtain ⟨g0, g1, g2, g3, g4, g5, g6, g7, g8⟩ := S5
        have x5 := bthen xV xV.size g0
        have f1 := (g0.frozen (p := ⟨w.heap.size + 1 + 1, 0, none⟩) FR.out.2.1).trans FR.out.1.1
        have f2 := (g0.frozen (p := ⟨w.heap.size + 1 + 1, 1, none⟩) FR.out.2.1).trans FR.out.1.2
        clear KS xV
        go_wp2_with fail
        refine bodyPost_ret (v := .tuple #[.agg #[.int .i64 h4, .int .u64 l3], .int .i64 0]) (by simp [results, Try.results34, go_sem, *]) rfl ⟨_, _, RES.out, by rw [FE.out], by go_grown⟩
    by_cases C001 : sg a = false ∧ sg b = false ∧ sg (sgn N) = true
    · obtain ⟨HA, HB, HS⟩ := C001
      have HF := hid (And.intro (sg_false HA) (And.intro (sg_false HB) (sg_true HS)))
      have HSS := hid HS
      obtain ⟨-, fv, fe⟩ := inW_no (z := a + b) (by have := HF.out; have := BITS.out; have := RNG.out; omega)
      have FE := hid fe
      have FV := hid fv
      have HAA := hid HA
      have HBB := hid HB
      clear fe fv HA HB
      clear HS
      go_region_held3 (fun w' => Below V.heap.size V w' ∧ w'.cell? ⟨w.heap.size, 0, none⟩ = some (.int .i64 ah) ∧ w'.cell? ⟨w.heap.size, 1, none⟩ = some (.int .u64 al) ∧ w'.cell? ⟨w.heap.size + 1, 0, none⟩ = some (.int .i64 bh) ∧ w'.cell? ⟨w.heap.size + 1, 1, none⟩ = some (.int .u64 bl) ∧ w'.cell? ⟨w4.heap.size, 0, none⟩ = some (.int .i64 h4) ∧ w'.cell? ⟨w4.heap.size, 1, none⟩ = some (.int .u64 l3) ∧ w'.cell? ⟨w.heap.size + 1 + 1, 0, none⟩ = some (.int .i64 0) ∧ w'.cell? ⟨w.heap.size + 1 + 1, 1, none⟩ = some (.int .u64 0))
        (first | exact KS.out _ _ hb5 (by assumption) | exact KS.out _ _ (Below.drew (Below.refl _ _)) (by assumption))
        (first | (go_at_call 48; refine (below_lit ha HAA.out _).mono ?_; rintro e w5 ⟨rfl, hb5⟩; have S5 := KS.out _ _ hb5 (by assumption)) | (go_at_call 48; refine (below_lit hb HBB.out _).mono ?_; rintro e w5 ⟨rfl, hb5⟩; have S5 := KS.out _ _ hb5 (by assumption)) | (go_at_call 48; refine (below_lit I4.out HSS.out _).mono ?_; rintro e w5 ⟨rfl, hb5⟩; have S5 := KS.out _ _ hb5 (by assumption)))
      all_goals
        clear S0
        obtain ⟨g0, g1, g2, g3, g4, g5, g6, g7, g8⟩ := S5
        have x5 := bthen xV xV.size g0
        have f1 := (g0.frozen (p := ⟨w.heap.size + 1 + 1, 0, none⟩) FR.out.2.1).trans FR.out.1.1
        have f2 := (g0.frozen (p := ⟨w.heap.size + 1 + 1, 1, none⟩) FR.out.2.1).trans FR.out.1.2
        clear KS xV
        go_wp2_with fail
        refine bodyPost_ret (v := .tuple #[.agg #[.int .i64 0, .int .u64 0], .int .i64 2]) (by simp [results, Try.results34, go_sem, *]) rfl ⟨_, _, wide_0.eq FV.out.symm, by rw [FE.out], by go_grown⟩
    by_cases C010 : sg a = false ∧ sg b = true
    · obtain ⟨HA, HB⟩ := C010
      have HF := hid (And.intro (sg_false HA) (sg_true HB))
      obtain ⟨f0, f1⟩ : -170141183460469231731687303715884105728 ≤ a + b ∧ a + b < 170141183460469231731687303715884105728 := (by have := HF.out; have := BITS.out; have := RNG.out; omega)
      obtain ⟨-, fv, fe⟩ := inW_yes f0 f1
      have RES : Hid (WideIs h4 l3 (fitV (a + b))) := by rw [Hid, fv, ← BITS.out.1 ⟨f0, f1⟩]; exact I4.out
      clear f0 f1
      have FE := hid fe
      have FV := hid fv
      have HAA := hid HA
      have HBB := hid HB
      clear fe fv HA HB
      go_region_with (first | (go_at_call 48; refine (below_lit ha HAA.out _).mono ?_; rintro e w5 ⟨rfl, hb5⟩; have X5 := bthen (B := V.heap.size) (w := V) (by go_grown) (by go_size) hb5; have X5s := X5.size; have S5 := KSV.out _ X5) | (go_at_call 48; refine (below_lit hb HBB.out _).mono ?_; rintro e w5 ⟨rfl, hb5⟩; have X5 := bthen (B := V.heap.size) (w := V) (by go_grown) (by go_size) hb5; have X5s := X5.size; have S5 := KSV.out _ X5))
      all_goals
        clear S0
        obtain ⟨g0, g1, g2, g3, g4, g5, g6, g7, g8⟩ := S5
        have x5 := bthen xV xV.size g0
        have f1 := (g0.frozen (p := ⟨w.heap.size + 1 + 1, 0, none⟩) FR.out.2.1).trans FR.out.1.1
        have f2 := (g0.frozen (p := ⟨w.heap.size + 1 + 1, 1, none⟩) FR.out.2.1).trans FR.out.1.2
        clear KS xV
        go_wp2_with fail
        refine bodyPost_ret (v := .tuple #[.agg #[.int .i64 h4, .int .u64 l3], .int .i64 0]) (by simp [results, Try.results34, go_sem, *]) rfl ⟨_, _, RES.out, by rw [FE.out], by go_grown⟩
    by_cases C100 : sg a = true ∧ sg b = false
    · obtain ⟨HA, HB⟩ := C100
      have HF := hid (And.intro (sg_true HA) (sg_false HB))
      obtain ⟨f0, f1⟩ : -170141183460469231731687303715884105728 ≤ a + b ∧ a + b < 170141183460469231731687303715884105728 := (by have := HF.out; have := BITS.out; have := RNG.out; omega)
      obtain ⟨-, fv, fe⟩ := inW_yes f0 f1
      have RES : Hid (WideIs h4 l3 (fitV (a + b))) := by rw [Hid, fv, ← BITS.out.1 ⟨f0, f1⟩]; exact I4.out
      clear f0 f1
      have FE := hid fe
      have FV := hid fv
      have HAA := hid HA
      have HBB := hid HB
      clear fe fv HA HB
      go_region_with (first | (go_at_call 48; refine (below_lit ha HAA.out _).mono ?_; rintro e w5 ⟨rfl, hb5⟩; have X5 := bthen (B := V.heap.size) (w := V) (by go_grown) (by go_size) hb5; have X5s := X5.size; have S5 := KSV.out _ X5) | (go_at_call 48; refine (below_lit hb HBB.out _).mono ?_; rintro e w5 ⟨rfl, hb5⟩; have X5 := bthen (B := V.heap.size) (w := V) (by go_grown) (by go_size) hb5; have X5s := X5.size; have S5 := KSV.out _ X5))
      all_goals
        clear S0
        obtain ⟨g0, g1, g2, g3, g4, g5, g6, g7, g8⟩ := S5
        have x5 := bthen xV xV.size g0
        have f1 := (g0.frozen (p := ⟨w.heap.size + 1 + 1, 0, none⟩) FR.out.2.1).trans FR.out.1.1
        have f2 := (g0.frozen (p := ⟨w.heap.size + 1 + 1, 1, none⟩) FR.out.2.1).trans FR.out.1.2
        clear KS xV
        go_wp2_with fail
        refine bodyPost_ret (v := .tuple #[.agg #[.int .i64 h4, .int .u64 l3], .int .i64 0]) (by simp [results, Try.results34, go_sem, *]) rfl ⟨_, _, RES.out, by rw [FE.out], by go_grown⟩
    by_cases C110 : sg a = true ∧ sg b = true ∧ sg (sgn N) = false
    · obtain ⟨HA, HB, HS⟩ := C110
      have HF := hid (And.intro (sg_true HA) (And.intro (sg_true HB) (sg_false HS)))
      have HSS := hid HS
      obtain ⟨-, fv, fe⟩ := inW_no (z := a + b) (by have := HF.out; have := BITS.out; have := RNG.out; omega)
      have FE := hid fe
      have FV := hid fv
      have HAA := hid HA
      have HBB := hid HB
      clear fe fv HA HB
      clear HS
      go_region_held3 (fun w' => Below V.heap.size V w' ∧ w'.cell? ⟨w.heap.size, 0, none⟩ = some (.int .i64 ah) ∧ w'.cell? ⟨w.heap.size, 1, none⟩ = some (.int .u64 al) ∧ w'.cell? ⟨w.heap.size + 1, 0, none⟩ = some (.int .i64 bh) ∧ w'.cell? ⟨w.heap.size + 1, 1, none⟩ = some (.int .u64 bl) ∧ w'.cell? ⟨w4.heap.size, 0, none⟩ = some (.int .i64 h4) ∧ w'.cell? ⟨w4.heap.size, 1, none⟩ = some (.int .u64 l3) ∧ w'.cell? ⟨w.heap.size + 1 + 1, 0, none⟩ = some (.int .i64 0) ∧ w'.cell? ⟨w.heap.size + 1 + 1, 1, none⟩ = some (.int .u64 0))
        (first | exact KS.out _ _ hb5 (by assumption) | exact KS.out _ _ (Below.drew (Below.refl _ _)) (by assumption))
        (first | (go_at_call 48; refine (below_lit ha HAA.out _).mono ?_; rintro e w5 ⟨rfl, hb5⟩; have S5 := KS.out _ _ hb5 (by assumption)) | (go_at_call 48; refine (below_lit hb HBB.out _).mono ?_; rintro e w5 ⟨rfl, hb5⟩; have S5 := KS.out _ _ hb5 (by assumption)) | (go_at_call 48; refine (below_lit I4.out HSS.out _).mono ?_; rintro e w5 ⟨rfl, hb5⟩; have S5 := KS.out _ _ hb5 (by assumption)))
      all_goals
        clear S0
        obtain ⟨g0, g1, g2, g3, g4, g5, g6, g7, g8⟩ := S5
        have x5 := bthen xV xV.size g0
        have f1 := (g0.frozen (p := ⟨w.heap.size + 1 + 1, 0, none⟩) FR.out.2.1).trans FR.out.1.1
        have f2 := (g0.frozen (p := ⟨w.heap.size + 1 + 1, 1, none⟩) FR.out.2.1).trans FR.out.1.2
        clear KS xV
        go_wp2_with fail
        refine bodyPost_ret (v := .tuple #[.agg #[.int .i64 0, .int .u64 0], .int .i64 2]) (by simp [results, Try.results34, go_sem, *]) rfl ⟨_, _, wide_0.eq FV.out.symm, by rw [FE.out], by go_grown⟩
    by_cases C111 : sg a = true ∧ sg b = true ∧ sg (sgn N) = true
    · obtain ⟨HA, HB, HS⟩ := C111
      have HF := hid (And.intro (sg_true HA) (And.intro (sg_true HB) (sg_true HS)))
      have HSS := hid HS
      obtain ⟨f0, f1⟩ : -170141183460469231731687303715884105728 ≤ a + b ∧ a + b < 170141183460469231731687303715884105728 := (by have := HF.out; have := BITS.out; have := RNG.out; omega)
      obtain ⟨-, fv, fe⟩ := inW_yes f0 f1
      have RES : Hid (WideIs h4 l3 (fitV (a + b))) := by rw [Hid, fv, ← BITS.out.1 ⟨f0, f1⟩]; exact I4.out
      clear f0 f1
      have FE := hid fe
      have FV := hid fv
      have HAA := hid HA
      have HBB := hid HB
      clear fe fv HA HB
      clear HS
      go_region_held3 (fun w' => Below V.heap.size V w' ∧ w'.cell? ⟨w.heap.size, 0, none⟩ = some (.int .i64 ah) ∧ w'.cell? ⟨w.heap.size, 1, none⟩ = some (.int .u64 al) ∧ w'.cell? ⟨w.heap.size + 1, 0, none⟩ = some (.int .i64 bh) ∧ w'.cell? ⟨w.heap.size + 1, 1, none⟩ = some (.int .u64 bl) ∧ w'.cell? ⟨w4.heap.size, 0, none⟩ = some (.int .i64 h4) ∧ w'.cell? ⟨w4.heap.size, 1, none⟩ = some (.int .u64 l3) ∧ w'.cell? ⟨w.heap.size + 1 + 1, 0, none⟩ = some (.int .i64 0) ∧ w'.cell? ⟨w.heap.size + 1 + 1, 1, none⟩ = some (.int .u64 0))
        (first | exact KS.out _ _ hb5 (by assumption) | exact KS.out _ _ (Below.drew (Below.refl _ _)) (by assumption))
        (first | (go_at_call 48; refine (below_lit ha HAA.out _).mono ?_; rintro e w5 ⟨rfl, hb5⟩; have S5 := KS.out _ _ hb5 (by assumption)) | (go_at_call 48; refine (below_lit hb HBB.out _).mono ?_; rintro e w5 ⟨rfl, hb5⟩; have S5 := KS.out _ _ hb5 (by assumption)) | (go_at_call 48; refine (below_lit I4.out HSS.out _).mono ?_; rintro e w5 ⟨rfl, hb5⟩; have S5 := KS.out _ _ hb5 (by assumption)))
      all_goals
        clear S0
        obtain ⟨g0, g1, g2, g3, g4, g5, g6, g7, g8⟩ := S5
        have x5 := bthen xV xV.size g0
        have f1 := (g0.frozen (p := ⟨w.heap.size + 1 + 1, 0, none⟩) FR.out.2.1).trans FR.out.1.1
        have f2 := (g0.frozen (p := ⟨w.heap.size + 1 + 1, 1, none⟩) FR.out.2.1).trans FR.out.1.2
        clear KS xV
        go_wp2_with fail
        refine bodyPost_ret (v := .tuple #[.agg #[.int .i64 h4, .int .u64 l3], .int .i64 0]) (by simp [results, Try.results34, go_sem, *]) rfl ⟨_, _, RES.out, by rw [FE.out], by go_grown⟩
    exfalso
    cases HA : sg a <;> cases HB : sg b <;> cases HS : sg (sgn N) <;> simp_all
end Go.Proofs.Ytklankodjjkhiaa
