/-
  The contract of the reference numbers' word: four digits, from a place on, as 64 bits. No conditions beside the memory's own.
-/
import Derived.Test.YtlpenfganhaclaaRefJ
import Derived.Deep.DeepCutAuto
namespace Go.Proofs.Ytlpenfganhaclaa
open Go.RowKit

/-- Of the four digits from a place on, those from k on. -/
def partW (ds : List Int) (at' : Nat) : Nat → Int
  | 0 => dg ds at' + 65536 * (dg ds (at' + 1) + 65536 * (dg ds (at' + 2) + 65536 * dg ds (at' + 3)))
  | 1 => dg ds (at' + 1) + 65536 * (dg ds (at' + 2) + 65536 * dg ds (at' + 3))
  | 2 => dg ds (at' + 2) + 65536 * dg ds (at' + 3)
  | 3 => dg ds (at' + 3)
  | _ => 0
theorem partW_step {ds : List Int} (hd : Dig ds) (p : Nat) {s : Nat} (hs : s < 4) : partW ds p s = partW ds p (s + 1) * 65536 + dg ds (p + s) ∧ 0 ≤ partW ds p (s + 1) ∧ partW ds p (s + 1) < 281474976710656 := by
  have h1 := dg_ok hd (p + 1)
  have h2 := dg_ok hd (p + 2)
  have h3 := dg_ok hd (p + 3)
  rcases (show s = 0 ∨ s = 1 ∨ s = 2 ∨ s = 3 by omega) with rfl | rfl | rfl | rfl <;> simp only [partW, Nat.add_zero] <;> omega
attribute [local go_sem ↓] Go.wp_at_zero Go.wp_at_succ
set_option maxRecDepth 100000 in
set_option maxHeartbeats 1000000 in
theorem rword_any {v : Value} {ds : List Int} {w : World} (h : Digs w v ds) (hd : Dig ds) (hl : ds.length ≤ 1000000) (p : Nat) (hp : p ≤ 1000) :
    Calls Try.prog 61 #[v, .int .i64 (p : Int)] w fun e w' => e = .returned (.int .u64 (partW ds p 0)) ∧ Below w.heap.size w w' := by
  obtain ⟨ao, b, off, cap, rfl, h2, h3, h4, h5⟩ := h
  have hlen : (ds.length : Int) ≤ 1000000 := by omega
  have hp' : (p : Int) ≤ 1000 := by omega
  have hcap : (ds.length : Int) ≤ cap := by omega
  go_enter Try.func61, Try.ntmps61
  go_wp2
  go_loop [5, 6] (fun n t => ∃ k : Nat, k ≤ 4 ∧ t = .int .i64 ((k : Int) - 1) ∧ n = .int .u64 (partW ds p k)) (fun _ t => (intOf t + 1).toNat)
  case atStart => exact ⟨4, Nat.le_refl _, rfl, rfl⟩
  case round =>
    obtain ⟨k, hk, rfl, rfl⟩ := hrel
    by_cases h0 : k = 0
    · subst h0
      go_wp2
      go_ret
      exact ⟨rfl, Below.refl _ _⟩
    · obtain ⟨s, rfl⟩ : ∃ s, k = s + 1 := ⟨k - 1, by omega⟩
      obtain ⟨st, s0, s1⟩ := partW_step hd p (s := s) (by omega)
      obtain ⟨g0, g1⟩ := dg_ok hd (p + s)
      have e0 : ((s + 1 : Nat) : Int) - 1 = (s : Int) := by omega
      rw [e0]
      have z0 : (0 : Int) ≤ (s : Int) := by omega
      have z1 : (s : Int) ≤ 3 := by omega
      have z2 : (0 : Int) ≤ (p : Int) := by omega
      have ST := hid st
      clear st e0
      obtain ⟨N, hN⟩ : ∃ N, Hid (N = partW ds p (s + 1)) := ⟨_, rfl⟩
      rw [← hN.out] at s0 s1 ⊢
      by_cases g : p + s < ds.length
      · obtain rfl := some_of h4 (by omega)
        have hc := h5 (p + s) g
        have g' : (p : Int) + (s : Int) < ds.length := by omega
        have z3 : ((p : Int) + (s : Int)).toNat = p + s := by omega
        have H5 := hid h5
        clear h5 g
        obtain ⟨D, hD⟩ : ∃ D, Hid (D = dg ds (p + s)) := ⟨_, rfl⟩
        rw [← hD.out] at hc g0 g1
        go_wp2
        go_round
        case rel => exact ⟨s, by omega, by go_num, by first | rfl | (rw [ST.out, ← hN.out, ← hD.out])⟩
        case measure => simp [intOf]
      · have hz : dg ds (p + s) = 0 := dg_end (by omega)
        have g' : (ds.length : Int) ≤ (p : Int) + (s : Int) := by omega
        go_wp2
        go_round
        case rel => exact ⟨s, by omega, by go_num, by first | rfl | (rw [ST.out, ← hN.out, hz, Int.add_zero])⟩
        case measure => simp [intOf]
theorem rword_lit {v : Value} {ds : List Int} {w : World} (h : Digs w v ds) (hd : Dig ds) (hl : ds.length ≤ 1000000) (p : Nat) (z : Int) (hz : (p : Int) = z) (hp : p ≤ 1000) :
    Calls Try.prog 61 #[v, .int .i64 z] w fun e w' => e = .returned (.int .u64 (partW ds p 0)) ∧ Below w.heap.size w w' := by
  subst hz; exact rword_any h hd hl p hp

/-- Up to eight digits as two words. -/
theorem words8 {ds : List Int} (hd : Dig ds) (hc : Canon ds) (h : val ds < 340282366920938463463374607431768211456) : LimbIs (partW ds 4 0) (partW ds 0 0) (val ds) := by
  have hlen : ds.length ≤ 8 := by
    by_cases g : ds = []
    · subst g; simp
    · have h1 := canon_low hd hc g
      by_cases h2 : ds.length ≤ 8
      · exact h2
      · exfalso
        have h3 : pw 8 ≤ pw (ds.length - 1) := pw_mono (by omega)
        have h4 : pw 8 = 340282366920938463463374607431768211456 := by decide
        omega
  have e : val ds = val (ds.take 8) := by rw [List.take_of_length_le hlen]
  have e2 : val (ds.take 8) = dg ds 0 + 65536 * dg ds 1 + 4294967296 * dg ds 2 + 281474976710656 * dg ds 3 + 18446744073709551616 * dg ds 4 + 1208925819614629174706176 * dg ds 5 + 79228162514264337593543950336 * dg ds 6 + 5192296858534827628530496329220096 * dg ds 7 := by
    have p0 : pw 0 = 1 := by decide
    have p1 : pw 1 = 65536 := by decide
    have p2 : pw 2 = 4294967296 := by decide
    have p3 : pw 3 = 281474976710656 := by decide
    have p4 : pw 4 = 18446744073709551616 := by decide
    have p5 : pw 5 = 1208925819614629174706176 := by decide
    have p6 : pw 6 = 79228162514264337593543950336 := by decide
    have p7 : pw 7 = 5192296858534827628530496329220096 := by decide
    rw [val_take_succ, val_take_succ, val_take_succ, val_take_succ, val_take_succ, val_take_succ, val_take_succ, val_take_succ, p0, p1, p2, p3, p4, p5, p6, p7]
    simp only [List.take_zero, val, ← dg_def]
    omega
  have d0 := dg_ok hd 0
  have d1 := dg_ok hd 1
  have d2 := dg_ok hd 2
  have d3 := dg_ok hd 3
  have d4 := dg_ok hd 4
  have d5 := dg_ok hd 5
  have d6 := dg_ok hd 6
  have d7 := dg_ok hd 7
  rw [e, e2]
  show LimbIs (dg ds 4 + 65536 * (dg ds 5 + 65536 * (dg ds 6 + 65536 * dg ds 7))) (dg ds 0 + 65536 * (dg ds 1 + 65536 * (dg ds 2 + 65536 * dg ds 3))) _
  exact ⟨by omega, by omega, by omega, by omega, by omega⟩
end Go.Proofs.Ytlpenfganhaclaa
