/-
  The contract of the reference numbers' word: four digits, from a place on, as 64 bits. No conditions beside the memory's own.
-/
import Derived.Test.YtnjolcmclcengaaRefJ
import Derived.Deep.DeepCutAuto
namespace Go.Proofs.Ytnjolcmclcengaa
open Go.RowKit

/-- Of the four digits from a place on, those from k on. -/
def partW (ds : List Int) (at' : Nat) : Nat → Int
  | 0 => dg ds at' + 65536 * (dg ds (at' + 1) + 65536 * (dg ds (at' + 2) + 65536 * dg ds (at' + 3)))
  | 1 => dg ds (at' + 1) + 65536 * (dg ds (at' + 2) + 65536 * dg ds (at' + 3))
  | 2 => dg ds (at' + 2) + 65536 * dg ds (at' + 3)
  | 3 => dg ds (at' + 3)
  | _ => 0
theorem partW_step {ds : List Int} (hd : Dig ds) (p : Nat) {s : Nat} (hs : s < 4) : partW ds p s = partW ds p (s + 1) * 65536 + dg ds (p + s) ∧ 0 ≤ partW ds p (s + 1) ∧ partW ds p (s + 1) < 281474976710656 := by
  have h1 := dg_ok hd (p + 1)
  have h2 := dg_ok hd (p + 2)
  have h3 := dg_ok hd (p + 3)
  rcases (show s = 0 ∨ s = 1 ∨ s = 2 ∨ s = 3 by omega) with rfl | rfl | rfl | rfl <;> simp only [partW, Nat.add_zero] <;> omega
attribute [local go_sem ↓] Go.wp_at_zero Go.wp_at_succ

/-- Up to eight digits as two words. -/
theorem words8 {ds : List Int} (hd : Dig ds) (hc : Canon ds) (h : val ds < 340282366920938463463374607431768211456) : LimbIs (partW ds 4 0) (partW ds 0 0) (val ds) := by
  have hlen : ds.length ≤ 8 := by
    by_cases g : ds = []
    · subst g; simp
    · have h1 := canon_low hd hc g
      by_cases h2 : ds.length ≤ 8
      · exact h2
      · exfalso
        have h3 : pw 8 ≤ pw (ds.length - 1) := pw_mono (by omega)
        have h4 : pw 8 = 340282366920938463463374607431768211456 := by decide
        omega
  have e : val ds = val (ds.take 8) := by rw [List.take_of_length_le hlen]
  have e2 : val (ds.take 8) = dg ds 0 + 65536 * dg ds 1 + 4294967296 * dg ds 2 + 281474976710656 * dg ds 3 + 18446744073709551616 * dg ds 4 + 1208925819614629174706176 * dg ds 5 + 79228162514264337593543950336 * dg ds 6 + 5192296858534827628530496329220096 * dg ds 7 := by
    have p0 : pw 0 = 1 := by decide
    have p1 : pw 1 = 65536 := by decide
    have p2 : pw 2 = 4294967296 := by decide
    have p3 : pw 3 = 281474976710656 := by decide
    have p4 : pw 4 = 18446744073709551616 := by decide
    have p5 : pw 5 = 1208925819614629174706176 := by decide
    have p6 : pw 6 = 79228162514264337593543950336 := by decide
    have p7 : pw 7 = 5192296858534827628530496329220096 := by decide
    rw [val_take_succ, val_take_succ, val_take_succ, val_take_succ, val_take_succ, val_take_succ, val_take_succ, val_take_succ, p0, p1, p2, p3, p4, p5, p6, p7]
    simp only [List.take_zero, val, ← dg_def]
    omega
  have d0 := dg_ok hd 0
  have d1 := dg_ok hd 1
  have d2 := dg_ok hd 2
  have d3 := dg_ok hd 3
  have d4 := dg_ok hd 4
  have d5 := dg_ok hd 5
  have d6 := dg_ok hd 6
  have d7 := dg_ok hd 7
  rw [e, e2]
  show LimbIs (dg ds 4 + 65536 * (dg ds 5 + 65536 * (dg ds 6 + 65536 * dg ds 7))) (dg ds 0 + 65536 * (dg ds 1 + 65536 * (dg ds 2 + 65536 * dg ds 3))) _
  exact ⟨by omega, by omega, by omega, by omega, by omega⟩
end Go.Proofs.Ytnjolcmclcengaa
