/-
  The contracts of the reference numbers' trim, told more closely, and digit: the greatest digit with which the divisor is not more than what is left. No conditions beside the memory's own.
-/
import Derived.Test.YtlpenfganhaclaaRefF
namespace Go.Proofs.Ytlpenfganhaclaa
open Go.RowKit

/-- A store into another block leaves the digits as they are. -/
theorem Digs.apart {w : World} {g off l c : Nat} {zs : List Int} (h : Digs w (.slice (some ⟨g, off, none⟩) l c) zs) {r o : Nat} (hn : g ≠ r) (x : Value) : Digs (w.setCell ⟨r, o, none⟩ x) (.slice (some ⟨g, off, none⟩) l c) zs := by
  obtain ⟨ao, b, off', cap, h1, h2, h3, h4, h5⟩ := h
  refine ⟨ao, b, off', cap, h1, h2, h3, h4, fun j hj => ?_⟩
  have e : ao = some ⟨g, off, none⟩ := by simp at h1; exact h1.1.symm
  have eb : b = g := by
    rcases h4 with h4 | h4
    · rw [h4.1] at e; cases e
    · rw [h4] at e; simp at e; exact e.1
  rw [World.cell?_setCell_other _ _ _ _ (fun e => hn (by have := congrArg Addr.block e; simp at this; omega))]
  exact h5 j hj

set_option maxRecDepth 100000 in
set_option maxHeartbeats 1000000 in
theorem trim_s {ao : Option Addr} {l cap : Nat} {zs : List Int} {w : World} (h : Digs w (.slice ao l cap) zs) (hl : zs.length ≤ 1000000000) :
    Calls Try.prog 46 #[.slice ao l cap] w fun e w' =>
      ∃ n : Nat, n ≤ zs.length ∧ (∀ j, n ≤ j → j < zs.length → dg zs j = 0) ∧ (n = 0 ∨ dg zs (n - 1) ≠ 0) ∧ e = .returned (.slice ao n cap) ∧ Digs w (.slice ao n cap) (zs.take n) ∧ w' = w := by
  obtain ⟨ao', b, off, cap', e, h2, h3, h4, h5⟩ := h
  obtain ⟨rfl, rfl, rfl⟩ : ao = ao' ∧ l = zs.length ∧ cap = cap' := by simpa using e
  clear e
  have hlen : (zs.length : Int) ≤ 1000000000 := by omega
  go_enter Try.func46, Try.ntmps46
  go_wp2
  go_loop [3] (fun t => ∃ n : Nat, n ≤ zs.length ∧ t = .int .i64 n ∧ Hid (∀ j, n ≤ j → j < zs.length → dg zs j = 0)) (fun t => (intOf t).toNat)
  case atStart => exact ⟨zs.length, Nat.le_refl _, rfl, fun j h1 h2 => by omega⟩
  case round =>
    obtain ⟨n, hn, rfl, hz⟩ := hrel
    have hcap : (zs.length : Int) ≤ cap := by omega
    by_cases h0 : n = 0
    · subst h0
      go_wp2
      go_ret
      exact ⟨0, Nat.zero_le _, hz.out, .inl rfl, rfl, ⟨ao, b, off, cap, by simp, by simp, h3, h4, fun j hj => by simp at hj⟩, rfl⟩
    · obtain ⟨m, rfl⟩ : ∃ m, n = m + 1 := ⟨n - 1, by omega⟩
      obtain rfl := some_of h4 (by omega)
      have hc := h5 m (by omega)
      have z1 : (0 : Int) ≤ (m : Int) + 1 - 1 := by omega
      have z2 : (m : Int) + 1 - 1 < zs.length := by omega
      have z3 : ((m : Int) + 1 - 1).toNat = m := by omega
      have H5 := hid h5
      clear h5
      by_cases hd : dg zs m = 0
      · go_wp2
        go_round
        case rel => exact ⟨m, by omega, by go_num, fun j h1 h2 => by by_cases e : j = m; (subst e; exact hd); exact hz.out j (by omega) h2⟩
        case measure => simp [intOf]
      · go_wp2
        go_ret
        exact ⟨m + 1, hn, hz.out, .inr (by simpa using hd), rfl, ⟨some ⟨b, off, none⟩, b, off, cap, by simp; omega, by simp; omega, h3, .inr rfl, fun j hj => by simp at hj; rw [dg_take (by omega)]; exact H5.out j (by omega)⟩, rfl⟩

theorem bmul_pp {n m : Nat} {a a' : Option Addr} {l l' c c' : Nat} {x y : Int} {w : World} (ha : BigIs n w (.slice a l c) x) (hb : BigIs m w (.slice a' l' c') y) (hx : 0 ≤ x) (hy : 0 ≤ y) (hn : n ≤ 10000000) (hm : m ≤ 10000000) :
    Calls Try.prog 15 #[.agg #[.bool false, .slice a l c], .agg #[.bool false, .slice a' l' c']] w fun e w' =>
      ∃ b k d, e = .returned (.agg #[.bool false, .slice b k d]) ∧ BigIs (n + m) w' (.slice b k d) (x * y) ∧ Below w.heap.size w w' := by
  have h := bmul_any ha hb hn hm
  rw [sg_pos hx, sg_pos hy, sg_pos (Int.mul_nonneg hx hy)] at h
  exact h
/-- The digits of a struct that is no variable. -/
theorem run_field_big (b : Bool) (a : Option Addr) (l c : Nat) (w : World) : (Instr.field 32 (.agg #[.bool b, .slice a l c]) 1).run Try.prog w = .ok (.slice a l c) w := by kernel_rfl
theorem Digs.big {w : World} {v : Value} {zs : List Int} (h : Digs w v zs) (hd : Dig zs) (hc : Canon zs) : BigIs zs.length w v (val zs) := ⟨zs, h, hd, hc, Nat.le_refl _, by rw [ab_pos (val_range hd).1]⟩

set_option maxRecDepth 100000 in
set_option maxHeartbeats 1000000 in
theorem digit_any {ar ad : Option Addr} {lr cr ld cd : Nat} {rs ys : List Int} {w : World} (hr : Digs w (.slice ar lr cr) rs) (hd : Digs w (.slice ad ld cd) ys) (r2 : Dig rs) (r3 : Canon rs) (y2 : Dig ys) (y3 : Canon ys)
    (hY : 0 < val ys) (hlt : val rs < 65536 * val ys) (hl1 : rs.length ≤ 1000000) (hl2 : ys.length ≤ 1000000) :
    Calls Try.prog 71 #[.slice ar lr cr, .slice ad ld cd] w fun e w' => e = .returned (.int .i64 (val rs / val ys)) ∧ Below w.heap.size w w' := by
  have HR := hid hr
  have HD := hid hd
  have R0 := (val_range r2).1
  clear hr hd
  obtain ⟨R, hR⟩ : ∃ R, Hid (R = val rs) := ⟨_, rfl⟩
  obtain ⟨Y, hYv⟩ : ∃ Y, Hid (Y = val ys) := ⟨_, rfl⟩
  rw [← hR.out] at hlt R0 ⊢
  rw [← hYv.out] at hlt hY ⊢
  have rf := run_field_big
  go_enter Try.func71, Try.ntmps71
  go_wp2
  go_loopw [5, 6] (fun t u wr => ∃ lo hi : Int, t = .int .i64 lo ∧ u = .int .i64 hi ∧ 0 ≤ lo ∧ lo ≤ hi ∧ hi ≤ 65535 ∧ Hid (lo * Y ≤ R ∧ R < (hi + 1) * Y) ∧ Below w.heap.size w wr) (fun t u _ => (intOf u - intOf t).toNat)
  case atStart => exact ⟨0, 65535, rfl, rfl, by omega, by omega, by omega, ⟨by omega, by omega⟩, Below.refl _ _⟩
  case round =>
    obtain ⟨lo, hi, rfl, rfl, h0, h1, h2, h3, hbw⟩ := hrel
    by_cases hlh : lo < hi
    · obtain ⟨M, hM⟩ : ∃ M, Hid (M = (lo + hi + 1) / 2) := ⟨_, rfl⟩
      have hM1 : lo < M := by have := hM.out; omega
      have hM2 : M ≤ hi := by have := hM.out; omega
      have eM : (lo + hi + 1) / 2 = M := hM.out.symm
      obtain ⟨P, hP⟩ : ∃ P, Hid (P = Y * M) := ⟨_, rfl⟩
      have P0 : 0 ≤ P := by rw [hP.out]; exact Int.mul_nonneg (by omega) (by omega)
      by_cases hc : P ≤ R
      all_goals
        go_wp2_with fail
        refine (word_any M (by omega) (by omega) _).mono ?_
        rintro e w1 ⟨a1, l1, c1, rfl, q1, hb1⟩
        have x1 := bthen hbw hbw.size hb1
        have Q1 := hid q1
        clear q1
        go_wp2_with fail
        refine (bmul_pp (x := Y) ((Digs.big (HD.out.later x1) y2 y3).eq hYv.out.symm) Q1.out (by omega) (by omega) (by omega) (by decide)).mono ?_
        rw [← hP.out]
        rintro e w2 ⟨a2, l2, c2, rfl, q2, hb2⟩
        have x2 := bthen x1 x1.size hb2
        obtain ⟨ps, t1, t2, t3, t4, t5, rfl⟩ := q2.open
        rw [ab_pos P0] at t5
        have T1 := hid t1
        have T5 := hid t5
        clear q2 t1 t5
        go_wp2_with fail
        refine (cmps_any T1.out (HR.out.later x2) t2 r2 t3 r3 (by omega) (by omega)).mono ?_
        rw [T5.out, ← hR.out]
        rintro e w3 ⟨rfl, hb3⟩
        have x3 := bthen x2 x2.size hb3
      · have hcm : cmpI P R ≤ 0 := by unfold cmpI; split <;> (try split) <;> omega
        go_wp2_with fail
        go_roundw
        case rel => exact ⟨M, hi, rfl, rfl, by omega, hM2, h2, ⟨by rw [Int.mul_comm, ← hP.out]; exact hc, h3.out.2⟩, x3⟩
        case measure => simp [intOf]; omega
      · have hcm : ¬ cmpI P R ≤ 0 := by unfold cmpI; split <;> (try split) <;> omega
        go_wp2_with fail
        go_roundw
        case rel => exact ⟨lo, M - 1, rfl, by go_num, h0, by omega, by omega, ⟨h3.out.1, by rw [show M - 1 + 1 = M by omega, Int.mul_comm, ← hP.out]; omega⟩, x3⟩
        case measure => simp [intOf]; omega
    · obtain rfl : lo = hi := by omega
      have hq : R / Y = lo := by
        obtain ⟨e1, e2⟩ := h3.out
        rw [Int.add_mul, Int.one_mul] at e2
        have : R = (R - lo * Y) + lo * Y := by omega
        rw [this, Int.add_mul_ediv_right _ _ (by omega), Int.ediv_eq_zero_of_lt (by omega) (by omega)]; omega
      go_wp2_with fail
      go_ret
      exact ⟨by first | rfl | (rw [hq]; rfl), hbw⟩
end Go.Proofs.Ytlpenfganhaclaa
