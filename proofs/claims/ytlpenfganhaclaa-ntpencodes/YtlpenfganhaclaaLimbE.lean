/-
  The contract of limb.Mul: the product of any two numbers, as two Limbs (P1.2). No conditions.
-/
import Derived.Test.YtlpenfganhaclaaLimbD
namespace Go.Proofs.Ytlpenfganhaclaa
open Go.RowKit Go.Lib

/-- What the memory of the call holds while it multiplies: the two factors' words, the product's so far, and the two results' variables. -/
def MulMem (w wr : World) (al ah bl bh : Int) (f : Nat → Int) : Prop :=
  (∀ k, k < 2 → wr.cell? ⟨w.heap.size + 1 + 1 + 1 + 1, k, none⟩ = some (.int .u64 (pick2 al ah k))) ∧
  (∀ k, k < 2 → wr.cell? ⟨w.heap.size + 1 + 1 + 1 + 1 + 1, k, none⟩ = some (.int .u64 (pick2 bl bh k))) ∧
  (∀ k, k < 4 → wr.cell? ⟨w.heap.size + 1 + 1 + 1 + 1 + 1 + 1, k, none⟩ = some (.int .u64 (f k)) ∧ wr.frozen? ⟨w.heap.size + 1 + 1 + 1 + 1 + 1 + 1, k, none⟩ = false) ∧
  Two wr (w.heap.size + 1 + 1) (.int .u64 0) (.int .u64 0) ∧ Two wr (w.heap.size + 1 + 1 + 1) (.int .u64 0) (.int .u64 0) ∧ Below w.heap.size w wr
theorem MulMem.set {w wr : World} {al ah bl bh : Int} {f g : Nat → Int} (h : MulMem w wr al ah bl bh f) {n : Nat} (hn : n < 4) (v : Int) (hg : g n = v) (ho : ∀ k, k < 4 → k ≠ n → g k = f k) :
    MulMem w (wr.setCell ⟨w.heap.size + 1 + 1 + 1 + 1 + 1 + 1, n, none⟩ (.int .u64 v)) al ah bl bh g := by
  obtain ⟨h1, h2, h3, ⟨a1, a2, a3, a4⟩, ⟨b1, b2, b3, b4⟩, h6⟩ := h
  refine ⟨fun k hk => ?_, fun k hk => ?_, fun k hk => ?_, ⟨?_, ?_, ?_, ?_⟩, ⟨?_, ?_, ?_, ?_⟩, h6.setCell (by simp; omega) _⟩
  · rw [World.cell?_setCell_other _ _ _ _ (by simp)]; exact h1 k hk
  · rw [World.cell?_setCell_other _ _ _ _ (by simp)]; exact h2 k hk
  · refine ⟨?_, by rw [World.frozen?_setCell]; exact (h3 k hk).2⟩
    by_cases e : k = n
    · subst e; rw [World.cell?_setCell_same _ _ _ (h3 k hk).1, hg]
    · rw [World.cell?_setCell_other _ _ _ _ (fun h => e (by simpa using h.symm)), ho k hk e]; exact (h3 k hk).1
  · rw [World.cell?_setCell_other _ _ _ _ (by simp)]; exact a1
  · rw [World.cell?_setCell_other _ _ _ _ (by simp)]; exact a2
  · rw [World.frozen?_setCell]; exact a3
  · rw [World.frozen?_setCell]; exact a4
  · rw [World.cell?_setCell_other _ _ _ _ (by simp)]; exact b1
  · rw [World.cell?_setCell_other _ _ _ _ (by simp)]; exact b2
  · rw [World.frozen?_setCell]; exact b3
  · rw [World.frozen?_setCell]; exact b4
theorem MulMem.drew {w wr : World} {al ah bl bh : Int} {f : Nat → Int} (h : MulMem w wr al ah bl bh f) : MulMem w wr.drew al ah bl bh f := by
  obtain ⟨h1, h2, h3, h4, h5, h6⟩ := h
  exact ⟨h1, h2, h3, h4, h5, h6.drew⟩
theorem MulMem.turn {w wr : World} {al ah bl bh : Int} {f g : Nat → Int} (h : MulMem w wr al ah bl bh f) (e : ∀ k, k < 4 → g k = f k) : MulMem w wr al ah bl bh g := by
  obtain ⟨h1, h2, h3, h4, h5, h6⟩ := h
  exact ⟨h1, h2, fun k hk => by rw [e k hk]; exact h3 k hk, h4, h5, h6⟩
theorem pick_word {a b : Int} (a1 : 0 ≤ a) (a2 : a < 18446744073709551616) (b1 : 0 ≤ b) (b2 : b < 18446744073709551616) (i : Nat) : 0 ≤ pick2 a b i ∧ pick2 a b i < 18446744073709551616 := by
  unfold pick2; split <;> omega
theorem pick_prod {al ah bl bh p q r s : Int} (hp : p = al * bl) (hq : q = al * bh) (hr : r = ah * bl) (hs : s = ah * bh) {i j : Nat} (hi : i < 2) (hj : j < 2) : Pr p q r s i j = pick2 al ah i * pick2 bl bh j := by
  rcases lt2 hi with rfl | rfl <;> rcases lt2 hj with rfl | rfl <;> assumption

attribute [local go_sem ↓] Go.wp_at_zero Go.wp_at_succ
set_option maxRecDepth 100000 in
set_option maxHeartbeats 1000000 in
theorem mul_any {ah al bh bl a b : Int} (ha : LimbIs ah al a) (hb : LimbIs bh bl b) (w : World) :
    Calls Try.prog 63 #[.agg #[.int .u64 ah, .int .u64 al], .agg #[.int .u64 bh, .int .u64 bl]] w fun e w' =>
      ∃ hh hl lh ll : Int, LimbIs hh hl (a * b / 340282366920938463463374607431768211456) ∧ LimbIs lh ll (a * b % 340282366920938463463374607431768211456) ∧
        e = .returned (.tuple #[.agg #[.int .u64 hh, .int .u64 hl], .agg #[.int .u64 lh, .int .u64 ll]]) ∧ Below w.heap.size w w' := by
  obtain ⟨p, hp⟩ : ∃ p, Hid (p = al * bl) := ⟨_, rfl⟩
  obtain ⟨q, hq⟩ : ∃ q, Hid (q = al * bh) := ⟨_, rfl⟩
  obtain ⟨r, hr⟩ : ∃ r, Hid (r = ah * bl) := ⟨_, rfl⟩
  obtain ⟨s, hs⟩ : ∃ s, Hid (s = ah * bh) := ⟨_, rfl⟩
  obtain ⟨k1, k2⟩ := words_done ha hb hp.out hq.out hr.out hs.out
  have wok : Hid _ := words_ok (p := p) (q := q) (r := r) (s := s) (by rw [hp.out]; exact prod_le ha.2.2.1 ha.2.2.2.1 hb.2.2.1 hb.2.2.2.1) (by rw [hq.out]; exact prod_le ha.2.2.1 ha.2.2.2.1 hb.1 hb.2.1) (by rw [hr.out]; exact prod_le ha.1 ha.2.1 hb.2.2.1 hb.2.2.2.1) (by rw [hs.out]; exact prod_le ha.1 ha.2.1 hb.1 hb.2.1)
  obtain ⟨a1, a2, a3, a4, -⟩ := ha
  obtain ⟨b1, b2, b3, b4, -⟩ := hb
  go_enter Try.func63, Try.ntmps63
  go_wp2
  go_loopw [22] (fun t wr => ∃ i : Nat, i ≤ 2 ∧ t = .int .i64 i ∧ MulMem w wr al ah bl bh (Wd p q r s i 0)) (fun t _ => 2 - (intOf t).toNat)
  case atStart =>
    refine ⟨0, by omega, rfl, ?_⟩
    refine ⟨fun k hk => ?_, fun k hk => ?_, fun k hk => ?_, ?_, ?_, by go_grown⟩
    · rcases lt2 hk with rfl | rfl <;> simp [go_sem, pick2]
    · rcases lt2 hk with rfl | rfl <;> simp [go_sem, pick2]
    · rcases lt4 hk with rfl | rfl | rfl | rfl <;> simp [go_sem, Wd]
    · exact ⟨by simp [go_sem], by simp [go_sem], by simp [go_sem], by simp [go_sem]⟩
    · exact ⟨by simp [go_sem], by simp [go_sem], by simp [go_sem], by simp [go_sem]⟩
  case round =>
    obtain ⟨i, hi, rfl, mem⟩ := hrel
    by_cases hi2 : i < 2
    · have z1 : (i : Int) < 2 := by omega
      go_wp2
      go_loopw [25, 10] (fun t c wv => ∃ j : Nat, j ≤ 2 ∧ t = .int .i64 j ∧ c = .int .u64 (Cr p q r s i j) ∧ MulMem w wv al ah bl bh (Wd p q r s i j)) (fun t _ _ => 2 - (intOf t).toNat)
      case atStart => exact ⟨0, by omega, rfl, by rw [Cr_0 p q r s hi2], mem⟩
      case round =>
        obtain ⟨j, hj, rfl, rfl, mem2⟩ := hrel
        by_cases hj2 : j < 2
        · have hx := mem2.1 i hi2
          have hy := mem2.2.1 j hj2
          obtain ⟨hu, hf⟩ := mem2.2.2.1 (i + j) (by omega)
          obtain ⟨x0, x1⟩ := pick_word a3 a4 a1 a2 i
          obtain ⟨y0, y1⟩ := pick_word b3 b4 b1 b2 j
          obtain ⟨u0, u1⟩ := wok.out.1 i j (i + j)
          obtain ⟨c0, c1⟩ := wok.out.2 i j
          have pp : Hid (Pr p q r s i j = pick2 al ah i * pick2 bl bh j) := pick_prod hp.out hq.out hr.out hs.out hi2 hj2
          have e1 := step_col1 p q r s hi2 hj2
          have e2 := step_col2 p q r s hi2 hj2
          have e3 := fun k (h : k < 4) (hn : k ≠ i + j) => step_col3 p q r s hi2 hj2 h hn
          have E1 : Hid _ := e1
          have E2 : Hid _ := e2
          have E3 : Hid _ := e3
          have M : Hid _ := mem2
          clear e1 e2 e3 mem2 mem k1 k2
          have z2 : (j : Int) < 2 := by omega
          have z3 : (0 : Int) ≤ (i : Int) + (j : Int) := by omega
          have z4 : (i : Int) + (j : Int) < 4 := by omega
          have z5 : ((i : Int) + (j : Int)).toNat = i + j := by omega
          go_wp2
          have zw : IntKind.i64.wrap ((i : Int) + (j : Int)) = (i : Int) + (j : Int) := IntWalk.i64_in _ ⟨by omega, by omega⟩
          have hia : ∀ wx : World, (Instr.indexAt 97 (.pointer (some ⟨w.heap.size + 1 + 1 + 1 + 1 + 1 + 1, 0, none⟩)) (.int .i64 ((i : Int) + (j : Int)))).run Try.prog wx = .ok (.pointer (some ⟨w.heap.size + 1 + 1 + 1 + 1 + 1 + 1, i + j, none⟩)) wx := by
            intro wx
            simp [go_sem, z3, z4, z5]
          go_region_with (go_at_call 74; refine (mulAdd_any _ _ _ _ _ pp x0 x1 y0 y1 u0 u1 c0 c1 _).mono ?_; rintro e w' ⟨rfl, rfl⟩)
          all_goals
            go_wp2
            go_roundw
            case rel =>
              have fin := (MulMem.set M.out (by omega) _ E1.out (fun k hk hn => E3.out k hk hn)).drew
              exact ⟨j + 1, by omega, by go_num, by rw [E2.out], fin⟩
            case measure => simp [intOf]; omega
        · have hj3 : j = 2 := by omega
          subst hj3
          obtain ⟨hu, hf⟩ := mem2.2.2.1 (i + 2) (by omega)
          have M : Hid _ := mem2
          have z3 : (0 : Int) ≤ (i : Int) + 2 := by omega
          have z4 : (i : Int) + 2 < 4 := by omega
          have z5 : ((i : Int) + 2).toNat = i + 2 := by omega
          clear mem2 mem k1 k2
          go_wp2
          go_roundw
          case rel =>
            have fin := MulMem.set M.out (by omega) _ (step_row1 p q r s hi2) (fun k hk hn => step_row2 p q r s hi2 hk hn)
            exact ⟨i + 1, by omega, by go_num, fin⟩
          case measure => simp [intOf]; omega
    · have hi3 : i = 2 := by omega
      subst hi3
      have m0 := (mem.2.2.1 0 (by omega)).1
      have m1 := (mem.2.2.1 1 (by omega)).1
      have m2 := (mem.2.2.1 2 (by omega)).1
      have m3 := (mem.2.2.1 3 (by omega)).1
      obtain ⟨-, -, -, ⟨c1, c2, c3, c4⟩, ⟨d1, d2, d3, d4⟩, hbw⟩ := mem
      have hz := hbw.size
      go_wp2
      go_region
      go_wp2
      refine bodyPost_ret (v := .tuple #[.agg #[.int .u64 (Wd p q r s 2 0 3), .int .u64 (Wd p q r s 2 0 2)], .agg #[.int .u64 (Wd p q r s 2 0 1), .int .u64 (Wd p q r s 2 0 0)]]) (by simp [results, Try.results63, go_sem, *]) rfl ⟨_, _, _, _, k1, k2, rfl, ?_⟩
      go_grown
end Go.Proofs.Ytlpenfganhaclaa
