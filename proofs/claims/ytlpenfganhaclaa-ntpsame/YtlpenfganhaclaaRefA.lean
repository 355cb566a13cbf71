/-
  The contracts of the reference numbers' first functions: a slice that reads as digits; trim; cmp. No conditions beside the memory's own.
-/
import Derived.Test.YtlpenfganhaclaaRows
import Derived.Test.YtlpenfganhaclaaRefM
import Derived.WalkKit
import Derived.WalkSpells
import Derived.WalkLawsBesides
import Derived.Handy
import Derived.Deep.QuietTactic
import Derived.BigQuiet
import Derived.Deep.RegionHeld3
import Derived.Deep.AppendLies
namespace Go.Proofs.Ytlpenfganhaclaa
open Go.RowKit

/-- The slice value v reads, in w, as the numbers zs. -/
def Digs (w : World) (v : Value) (zs : List Int) : Prop :=
  ∃ (ao : Option Addr) (b off cap : Nat), v = .slice ao zs.length cap ∧ zs.length ≤ cap ∧ cap ≤ maxLen ∧ (ao = none ∧ cap = 0 ∨ ao = some ⟨b, off, none⟩) ∧
    ∀ j, j < zs.length → w.cell? ⟨b, off + j, none⟩ = some (.int .i64 (dg zs j))
theorem some_of {ao : Option Addr} {b off cap : Nat} (h : ao = none ∧ cap = 0 ∨ ao = some ⟨b, off, none⟩) (hc : 0 < cap) : ao = some ⟨b, off, none⟩ := by
  rcases h with h | h
  · omega
  · exact h
theorem Digs.later {w w' : World} {v : Value} {zs : List Int} (h : Digs w v zs) (hb : Below w.heap.size w w') : Digs w' v zs := by
  obtain ⟨ao, b, off, cap, h1, h2, h3, h4, h5⟩ := h
  exact ⟨ao, b, off, cap, h1, h2, h3, h4, fun j hj => cell_later hb (h5 j hj)⟩

set_option maxRecDepth 100000 in
set_option maxHeartbeats 1000000 in
theorem trim_any {v : Value} {zs : List Int} {w : World} (h : Digs w v zs) (hl : zs.length ≤ 1000000000) :
    Calls Try.prog 46 #[v] w fun e w' =>
      ∃ (n : Nat) (v' : Value), n ≤ zs.length ∧ (∀ j, n ≤ j → j < zs.length → dg zs j = 0) ∧ (n = 0 ∨ dg zs (n - 1) ≠ 0) ∧ e = .returned v' ∧ Digs w v' (zs.take n) ∧ w' = w := by
  obtain ⟨ao, b, off, cap, rfl, h2, h3, h4, h5⟩ := h
  have hlen : (zs.length : Int) ≤ 1000000000 := by omega
  go_enter Try.func46, Try.ntmps46
  go_wp2
  go_loop [3] (fun t => ∃ n : Nat, n ≤ zs.length ∧ t = .int .i64 n ∧ Hid (∀ j, n ≤ j → j < zs.length → dg zs j = 0)) (fun t => (intOf t).toNat)
  case atStart => exact ⟨zs.length, Nat.le_refl _, rfl, fun j h1 h2 => by omega⟩
  case round =>
    obtain ⟨n, hn, rfl, hz⟩ := hrel
    have hcap : (zs.length : Int) ≤ cap := by omega
    by_cases h0 : n = 0
    · subst h0
      go_wp2
      go_ret
      exact ⟨0, Nat.zero_le _, hz.out, .inl rfl, _, rfl, ⟨ao, b, off, cap, by simp, by simp, h3, h4, fun j hj => by simp at hj⟩, rfl⟩
    · obtain ⟨m, rfl⟩ : ∃ m, n = m + 1 := ⟨n - 1, by omega⟩
      obtain rfl := some_of h4 (by omega)
      have hc := h5 m (by omega)
      have z1 : (0 : Int) ≤ (m : Int) + 1 - 1 := by omega
      have z2 : (m : Int) + 1 - 1 < zs.length := by omega
      have z3 : ((m : Int) + 1 - 1).toNat = m := by omega
      have H5 : Hid _ := h5
      clear h5
      by_cases hd : dg zs m = 0
      · go_wp2
        go_round
        case rel => exact ⟨m, by omega, by go_num, fun j h1 h2 => by by_cases e : j = m; (subst e; exact hd); exact hz.out j (by omega) h2⟩
        case measure => simp [intOf]
      · go_wp2
        go_ret
        exact ⟨m + 1, hn, hz.out, .inr (by simpa using hd), _, rfl, ⟨some ⟨b, off, none⟩, b, off, cap, by simp; omega, by simp; omega, h3, .inr rfl, fun j hj => by simp at hj; rw [dg_take (by omega)]; exact H5.out j (by omega)⟩, rfl⟩

set_option maxRecDepth 100000 in
set_option maxHeartbeats 1000000 in
theorem cmps_any {va vb : Value} {xs ys : List Int} {w : World} (ha : Digs w va xs) (hb : Digs w vb ys) (dx : Dig xs) (dy : Dig ys) (cx : Canon xs) (cy : Canon ys) (hl : xs.length ≤ 1000000000) (hl2 : ys.length ≤ 1000000000) :
    Calls Try.prog 47 #[va, vb] w fun e w' => e = .returned (.int .i64 (cmpI (val xs) (val ys))) ∧ Below w.heap.size w w' := by
  obtain ⟨ao, b, off, cap, rfl, h2, h3, h4, h5⟩ := ha
  obtain ⟨bo, b', off', cap', rfl, k2, k3, k4, k5⟩ := hb
  have hx : (xs.length : Int) ≤ 1000000000 := by omega
  have hy : (ys.length : Int) ≤ 1000000000 := by omega
  by_cases l1 : xs.length < ys.length
  · have e1 := cmpI_lt (len_lt dx dy cy l1)
    have q1 : ((xs.length : Int) == (ys.length : Int)) = false := by simp; omega
    have q2 : (xs.length : Int) < ys.length := by omega
    go_enter Try.func47, Try.ntmps47
    go_wp2
    go_ret
    exact ⟨by first | rfl | (rw [e1]; rfl), Below.refl _ _⟩
  by_cases l2 : ys.length < xs.length
  · have e1 := cmpI_gt (len_lt dy dx cx l2)
    have q1 : ((xs.length : Int) == (ys.length : Int)) = false := by simp; omega
    have q2 : ¬ (xs.length : Int) < ys.length := by omega
    go_enter Try.func47, Try.ntmps47
    go_wp2
    go_ret
    exact ⟨by first | rfl | (rw [e1]; rfl), Below.refl _ _⟩
  have he : xs.length = ys.length := by omega
  clear l1 l2
  have HE : Hid (xs.length = ys.length) := he
  rw [← he]
  go_enter Try.func47, Try.ntmps47
  clear he
  go_wp2
  go_loopw [5] (fun t wr => ∃ m : Nat, m ≤ xs.length ∧ t = .int .i64 ((m : Int) - 1) ∧ Hid (∀ j, m ≤ j → dg xs j = dg ys j) ∧ Below w.heap.size w wr) (fun t _ => (intOf t + 1).toNat)
  case atStart => exact ⟨xs.length, Nat.le_refl _, rfl, fun j h1 => by rw [dg_end h1, dg_end (by rw [← HE.out]; exact h1)], Below.refl _ _⟩
  case round =>
    obtain ⟨m, hm, rfl, hs, hbw⟩ := hrel
    by_cases h0 : m = 0
    · subst h0
      have e1 : cmpI (val xs) (val ys) = 0 := cmpI_eq (by rw [digits_eq HE.out (fun j _ => hs.out j (Nat.zero_le _))])
      go_wp2
      go_ret
      exact ⟨by first | rfl | (rw [e1]; rfl), hbw⟩
    · obtain ⟨k, rfl⟩ : ∃ m', m = m' + 1 := ⟨m - 1, by omega⟩
      obtain rfl := some_of h4 (by omega)
      obtain rfl := some_of k4 (by have := HE.out; omega)
      have c1 := cell_later hbw (h5 k (by omega))
      have c2 := cell_later hbw (k5 k (by have := HE.out; omega))
      have e : ((k + 1 : Nat) : Int) - 1 = (k : Int) := by omega
      rw [e]
      have z1 : (k : Int) < xs.length := by omega
      have z2 : (0 : Int) ≤ (k : Int) := by omega
      have H5 : Hid _ := h5
      have K5 : Hid _ := k5
      clear h5 k5 e
      by_cases g1 : dg xs k < dg ys k
      · have e1 := cmpI_lt (digit_lt dx dy HE.out (i := k) (by omega) (fun j hj => hs.out j hj) g1)
        go_wp2
        go_quiet (fail)
        go_wp2
        go_ret
        exact ⟨by first | rfl | (rw [e1]; rfl), below_drewN hbw _⟩
      by_cases g2 : dg ys k < dg xs k
      · have e1 := cmpI_gt (digit_lt dy dx HE.out.symm (i := k) (by have := HE.out; omega) (fun j hj => (hs.out j hj).symm) g2)
        have g3 : decide (dg xs k < dg ys k) = false := by simpa using g1
        go_wp2
        go_quiet (fail)
        go_wp2
        go_quiet (fail)
        go_wp2
        go_ret
        exact ⟨by first | rfl | (rw [e1]; rfl), below_drewN (below_drewN hbw _) _⟩
      · have g3 : decide (dg xs k < dg ys k) = false := by simpa using g1
        have g4 : decide (dg ys k < dg xs k) = false := by simpa using g2
        go_wp2
        go_quiet (fail)
        go_wp2
        go_quiet (fail)
        go_wp2
        go_roundw
        case rel => exact ⟨k, by omega, rfl, fun j hj => by by_cases e : j = k; (subst e; omega); exact hs.out j (by omega), below_drewN hbw _⟩
        case measure => simp [intOf]

/-- No number. -/
def NoInt (u : Value) : Prop := ∀ n, u ≠ .int .i64 n
theorem noInt_bool (b : Bool) : NoInt (.bool b) := fun n h => by cases h
theorem noInt_slice (a : Option Addr) (l c : Nat) : NoInt (.slice a l c) := fun n h => by cases h
theorem Digs.form {w : World} {v : Value} {zs : List Int} (h : Digs w v zs) : ∃ a c, v = .slice a zs.length c := by
  obtain ⟨ao, b, off, cap, rfl, _⟩ := h
  exact ⟨_, _, rfl⟩
theorem Digs.noInt {w : World} {v : Value} {zs : List Int} (h : Digs w v zs) : NoInt v := by
  obtain ⟨ao, b, off, cap, rfl, _⟩ := h
  exact noInt_slice _ _ _
/-- A store into a cell that holds no number leaves all digits as they are. -/
theorem Digs.store {w : World} {v : Value} {zs : List Int} (h : Digs w v zs) {a : Addr} {u : Value} (hu : w.cell? a = some u) (hn : NoInt u) (x : Value) : Digs (w.setCell a x) v zs := by
  obtain ⟨ao, b, off, cap, h1, h2, h3, h4, h5⟩ := h
  refine ⟨ao, b, off, cap, h1, h2, h3, h4, fun j hj => ?_⟩
  rw [World.cell?_setCell_other]
  · exact h5 j hj
  · intro e
    rw [e, h5 j hj] at hu
    exact hn _ (by injection hu with hu; exact hu.symm)

/-- trim, in a world that is a letter behind the call. -/
theorem trim_b {v : Value} {zs : List Int} {w : World} (h : Digs w v zs) (hl : zs.length ≤ 1000000000) :
    Calls Try.prog 46 #[v] w fun e w' =>
      ∃ (n : Nat) (v' : Value), n ≤ zs.length ∧ (∀ j, n ≤ j → j < zs.length → dg zs j = 0) ∧ (n = 0 ∨ dg zs (n - 1) ≠ 0) ∧ e = .returned v' ∧ Digs w' v' (zs.take n) ∧ Below w.heap.size w w' := by
  refine (trim_any h hl).mono ?_
  rintro e w' ⟨n, v', h1, h2, h3, h4, h5, rfl⟩
  exact ⟨n, v', h1, h2, h3, h4, h5, Below.refl _ _⟩
end Go.Proofs.Ytlpenfganhaclaa
