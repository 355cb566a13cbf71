/-
  What is known of a value: a Wide (IsW), a reference number (IsBig); the contracts of wide and of the reference numbers in that form; digits last behind stores into variables that hold none (Keeps). No conditions.
-/
import Derived.Test.YtlpenfganhaclaaWdC
import Derived.Test.YtlpenfganhaclaaRefO
namespace Go.Proofs.Ytlpenfganhaclaa
open Go.RowKit
set_option maxRecDepth 100000

def IsBig (n : Nat) (z : Int) (v : Value) (w : World) : Prop := ∃ a l c, v = .agg #[.bool (sg z), .slice a l c] ∧ BigIs n w (.slice a l c) z
theorem IsBig.later {n : Nat} {z : Int} {v : Value} {w w' : World} (h : IsBig n z v w) (l : Later w w') : IsBig n z v w' := by
  obtain ⟨a, k, c, rfl, hb⟩ := h
  exact ⟨a, k, c, rfl, hb.later l⟩
theorem c_rof {z : Int} {v : Value} (h : IsW z v) (w : World) : Calls Try.prog 9 #[v] w fun e w' => ∃ u, e = .returned u ∧ IsBig 11 z u w' ∧ Below w.heap.size w w' := by
  obtain ⟨a, l, rfl, h⟩ := h
  refine (rof_any h w).mono ?_
  rintro e w' ⟨b, k, d, rfl, h1, h2⟩
  exact ⟨_, rfl, ⟨_, _, _, rfl, h1⟩, h2⟩
theorem c_rint (n : Int) (h0 : -9223372036854775808 ≤ n) (h1 : n ≤ 9223372036854775807) (w : World) : Calls Try.prog 18 #[.int .i64 n] w fun e w' => ∃ u, e = .returned u ∧ IsBig 5 n u w' ∧ Below w.heap.size w w' := by
  refine (rint_any n h0 h1 w).mono ?_
  rintro e w' ⟨b, k, d, rfl, h1, h2⟩
  exact ⟨_, rfl, ⟨_, _, _, rfl, h1⟩, h2⟩
theorem c_cmp {n m : Nat} {x y : Int} {u v : Value} {w : World} (hu : IsBig n x u w) (hv : IsBig m y v w) (hn : n ≤ 10000000) (hm : m ≤ 10000000) :
    Calls Try.prog 17 #[u, v] w fun e w' => ∃ r, e = .returned r ∧ r = .int .i64 (cmpI x y) ∧ Below w.heap.size w w' := by
  obtain ⟨_, _, _, rfl, hu⟩ := hu
  obtain ⟨_, _, _, rfl, hv⟩ := hv
  refine (bcmp_any hu hv (by omega) (by omega)).mono ?_
  rintro e w' ⟨rfl, h2⟩
  exact ⟨_, rfl, rfl, h2⟩
theorem c_same {n m : Nat} {x y : Int} {u v : Value} {w : World} (hu : IsBig n x u w) (hv : IsBig m y v w) (hn : n ≤ 10000000) (hm : m ≤ 10000000) :
    Calls Try.prog 53 #[u, v] w fun e w' => ∃ r, e = .returned r ∧ r = .bool (eqI x y) ∧ Below w.heap.size w w' := by
  obtain ⟨_, _, _, rfl, hu⟩ := hu
  obtain ⟨_, _, _, rfl, hv⟩ := hv
  refine (same_any hu hv (by omega) (by omega)).mono ?_
  rintro e w' ⟨rfl, h2⟩
  exact ⟨_, rfl, rfl, h2⟩
theorem c_add {n m : Nat} {x y : Int} {u v : Value} {w : World} (hu : IsBig n x u w) (hv : IsBig m y v w) (hn : n ≤ 10000000) (hm : m ≤ 10000000) :
    Calls Try.prog 33 #[u, v] w fun e w' => ∃ r, e = .returned r ∧ IsBig (max n m + 1) (x + y) r w' ∧ Below w.heap.size w w' := by
  obtain ⟨_, _, _, rfl, hu⟩ := hu
  obtain ⟨_, _, _, rfl, hv⟩ := hv
  refine (badd_any hu hv (by omega) (by omega)).mono ?_
  rintro e w' ⟨b, k, d, rfl, h1, h2⟩
  exact ⟨_, rfl, ⟨_, _, _, rfl, h1⟩, h2⟩
theorem c_mul {n m : Nat} {x y : Int} {u v : Value} {w : World} (hu : IsBig n x u w) (hv : IsBig m y v w) (hn : n ≤ 10000000) (hm : m ≤ 10000000) :
    Calls Try.prog 15 #[u, v] w fun e w' => ∃ r, e = .returned r ∧ IsBig (n + m) (x * y) r w' ∧ Below w.heap.size w w' := by
  obtain ⟨_, _, _, rfl, hu⟩ := hu
  obtain ⟨_, _, _, rfl, hv⟩ := hv
  refine (bmul_any hu hv (by omega) (by omega)).mono ?_
  rintro e w' ⟨b, k, d, rfl, h1, h2⟩
  exact ⟨_, rfl, ⟨_, _, _, rfl, h1⟩, h2⟩
theorem c_div {n m : Nat} {x y : Int} {u v : Value} {w : World} (hu : IsBig n x u w) (hv : IsBig m y v w) (hy : 0 < y) (hn : n ≤ 100000) (hm : m ≤ 100000) :
    Calls Try.prog 52 #[u, v] w fun e w' => ∃ r, e = .returned r ∧ (∃ q p, r = .tuple #[q, p] ∧ IsBig (max n 4 + 1) (x / y) q w' ∧ IsBig (m + 1) (x % y) p w') ∧ Below w.heap.size w w' := by
  obtain ⟨_, _, _, rfl, hu⟩ := hu
  obtain ⟨_, _, _, rfl, hv⟩ := hv
  refine (bdiv_any hu hv hy (by omega) (by omega)).mono ?_
  rintro e w' ⟨b, k, d, b', k', d', rfl, h1, h2, h3⟩
  exact ⟨_, rfl, ⟨_, _, rfl, ⟨_, _, _, rfl, h1⟩, ⟨_, _, _, rfl, h2⟩⟩, h3⟩
theorem c_rwide {n : Nat} {z : Int} {u : Value} {w : World} (hu : IsBig n z u w) (hn : n ≤ 5000000) :
    Calls Try.prog 43 #[u] w fun e w' => ∃ r, e = .returned r ∧ (∃ s, r = .tuple #[s, .bool (inW z)] ∧ IsW (fitV z) s) ∧ Below w.heap.size w w' := by
  obtain ⟨_, _, _, rfl, hu⟩ := hu
  refine (rwide_any hu hn).mono ?_
  rintro e w' ⟨_, _, i, rfl, hb⟩
  exact ⟨_, rfl, ⟨_, rfl, ⟨_, _, rfl, i⟩⟩, hb⟩
theorem c_wof (n : Int) (h0 : -9223372036854775808 ≤ n) (h1 : n ≤ 9223372036854775807) (w : World) : Calls Try.prog 21 #[.int .i64 n] w fun e w' => ∃ u, e = .returned u ∧ IsW n u ∧ Below w.heap.size w w' := by
  refine (wof_any n h0 h1 w).mono ?_
  rintro e w' ⟨h, l, i, rfl, hb⟩
  exact ⟨_, rfl, ⟨_, _, rfl, i⟩, hb⟩
theorem c_wadd {a b : Int} {u v : Value} (hu : IsW a u) (hv : IsW b v) (w : World) : Calls Try.prog 56 #[u, v] w fun e w' => ∃ r, e = .returned r ∧ (∃ s, r = .tuple #[s, .int .i64 (fitE (a + b))] ∧ IsW (fitV (a + b)) s) ∧ Below w.heap.size w w' := by
  obtain ⟨_, _, rfl, hu⟩ := hu
  obtain ⟨_, _, rfl, hv⟩ := hv
  refine (wadd_any hu hv w).mono ?_
  rintro e w' ⟨h, l, i, rfl, hb⟩
  exact ⟨_, rfl, ⟨_, rfl, ⟨_, _, rfl, i⟩⟩, hb⟩
theorem c_wmul {a b : Int} {u v : Value} (hu : IsW a u) (hv : IsW b v) (w : World) : Calls Try.prog 49 #[u, v] w fun e w' => ∃ r, e = .returned r ∧ (∃ s, r = .tuple #[s, .int .i64 (fitE (a * b))] ∧ IsW (fitV (a * b)) s) ∧ Below w.heap.size w w' := by
  obtain ⟨_, _, rfl, hu⟩ := hu
  obtain ⟨_, _, rfl, hv⟩ := hv
  refine (wmul_any hu hv w).mono ?_
  rintro e w' ⟨h, l, i, rfl, hb⟩
  exact ⟨_, rfl, ⟨_, rfl, ⟨_, _, rfl, i⟩⟩, hb⟩
theorem c_wdiv {a d : Int} {u v : Value} (hu : IsW a u) (hv : IsW d v) (h0 : 0 < d) (w : World) : Calls Try.prog 20 #[u, v] w fun e w' => ∃ r, e = .returned r ∧ (∃ q p, r = .tuple #[q, p, .int .i64 0] ∧ IsW (a / d) q ∧ IsW (a % d) p) ∧ Below w.heap.size w w' := by
  obtain ⟨_, _, rfl, hu⟩ := hu
  obtain ⟨_, _, rfl, hv⟩ := hv
  refine (wdiv_any hu hv h0 w).mono ?_
  rintro e w' ⟨_, _, _, _, i, j, rfl, hb⟩
  exact ⟨_, rfl, ⟨_, _, rfl, ⟨_, _, rfl, i⟩, ⟨_, _, rfl, j⟩⟩, hb⟩

/-- All numbers of int's kind are where they were. -/
def Keeps (w w' : World) : Prop := ∀ c off n, w.cell? ⟨c, off, none⟩ = some (.int .i64 n) → w'.cell? ⟨c, off, none⟩ = some (.int .i64 n)
def noI : Value → Bool
  | .int .i64 _ => false
  | _ => true
theorem Keeps.refl (w : World) : Keeps w w := fun _ _ _ h => h
theorem Keeps.trans {a b c : World} (h : Keeps a b) (k : Keeps b c) : Keeps a c := fun x y n q => k x y n (h x y n q)
theorem Keeps.later {w w' : World} (l : Later w w') : Keeps w w' := fun _ _ _ h => cell_later l h
theorem Keeps.stored {b : Nat} {w w' : World} {cs : List Value} (s : Stored b w w') (v : Var w b cs) (hn : cs.all noI = true) : Keeps w w' := by
  intro c off n h
  by_cases e : c = b
  · subst e
    obtain ⟨t, ht⟩ := v
    rw [cell_of_row w c off cs.toArray t (0, 0) ht] at h
    have hm : (.int .i64 n : Value) ∈ cs := by simpa using Array.mem_of_getElem? h
    have := List.all_eq_true.1 hn _ hm
    simp [noI] at this
  · rw [s.cell e]; exact h
theorem Keeps.fresh {b : Nat} {w w1 w' : World} (hb : w.heap.size ≤ b) (l : Later w w1) (s : Stored b w1 w') : Keeps w w' := Keeps.later (s.below l hb)
theorem BigIs.keeps {n : Nat} {w w' : World} {v : Value} {z : Int} (h : BigIs n w v z) (k : Keeps w w') : BigIs n w' v z := by
  obtain ⟨ds, ⟨ao, b, off, cap, h1, h2, h3, h4, h5⟩, h6⟩ := h
  exact ⟨ds, ⟨ao, b, off, cap, h1, h2, h3, h4, fun j hj => k _ _ _ (h5 j hj)⟩, h6⟩
theorem IsBig.keeps {n : Nat} {z : Int} {v : Value} {w w' : World} (h : IsBig n z v w) (k : Keeps w w') : IsBig n z v w' := by
  obtain ⟨a, l, c, rfl, hb⟩ := h
  exact ⟨a, l, c, rfl, hb.keeps k⟩
/-- The same, where what is at hand says that numbers are where they were. -/
theorem IsBig.kp {n : Nat} {z : Int} {v : Value} {w w' : World} (h : IsBig n z v w) (k : Keeps w w' := by repeat (first | exact Keeps.refl _ | refine Keeps.trans ?_ (Keeps.later (by assumption)) | refine Keeps.trans ?_ (Keeps.stored (by assumption) (by assumption) rfl) | refine Keeps.trans ?_ (Keeps.fresh (by assumption) (by assumption) (by assumption)))) : IsBig n z v w' := h.keeps k
theorem IsBig.eq {n : Nat} {z z' : Int} {v : Value} {w : World} (h : IsBig n z v w) (e : z = z') : IsBig n z' v w := e ▸ h
theorem c_same_yes {n m : Nat} {x : Int} {u v : Value} {w : World} (hu : IsBig n x u w) (hv : IsBig m x v w) (hn : n ≤ 10000000) (hm : m ≤ 10000000) :
    Calls Try.prog 53 #[u, v] w fun e w' => ∃ r, e = .returned r ∧ r = .bool true ∧ Below w.heap.size w w' := by
  refine (c_same hu hv hn hm).mono ?_
  rintro e w' ⟨r, rfl, rfl, b⟩
  exact ⟨_, rfl, by rw [eqI_refl], b⟩
theorem IsBig.tight {n : Nat} {z : Int} {v : Value} {w : World} (h : IsBig n z v w) (h0 : -340282366920938463463374607431768211456 < z) (h1 : z < 340282366920938463463374607431768211456) : IsBig 8 z v w := by
  obtain ⟨a, l, c, rfl, ds, d1, d2, d3, d4, d5⟩ := h
  refine ⟨a, l, c, rfl, ds, d1, d2, d3, ?_, d5⟩
  by_cases g : ds = []
  · subst g; simp
  · have k1 := canon_low d2 d3 g
    by_cases k2 : ds.length ≤ 8
    · exact k2
    · exfalso
      have k3 := pw_mono (show 8 ≤ ds.length - 1 by omega)
      have k4 : pw 8 = 340282366920938463463374607431768211456 := by decide
      have k5 : ab z < 340282366920938463463374607431768211456 := by unfold ab; split <;> omega
      omega
theorem IsBig.upto {n m : Nat} {z : Int} {v : Value} {w : World} (h : IsBig n z v w) (hm : n ≤ m) : IsBig m z v w := by
  obtain ⟨a, l, c, rfl, hb⟩ := h
  exact ⟨a, l, c, rfl, hb.wide hm⟩
theorem Keeps.fresh' {b : Nat} {w w1 w' : World} (s : Stored b w1 w') (hb : w.heap.size ≤ b) (l : Later w w1) : Keeps w w' := Keeps.fresh hb l s
end Go.Proofs.Ytlpenfganhaclaa
