/-
  What is told of fractions and octets (P19.1, P19.2), in plain numbers; the reference's Same.
-/
import Derived.Test.YtlpenfganhaclaaFrR
import Derived.Test.YtlpenfganhaclaaVcM
namespace Go.Proofs.Ytlpenfganhaclaa
open Go.RowKit
set_option maxRecDepth 100000

def fcE (a o : Int) : Int := if (0 ≤ a ∧ a < 1000000000000000000) ∧ 0 ≤ o ∧ o ≤ 10 then 0 else 1
def fcZ (a o : Int) : Int := if fcE a o = 0 then fcI a o.toNat else 0
theorem fc_bad {a o : Int} (h : ¬ ((0 ≤ a ∧ a < 1000000000000000000) ∧ 0 ≤ o ∧ o ≤ 10)) : fcE a o = 1 ∧ fcZ a o = 0 := by
  have e : fcE a o = 1 := if_neg h
  exact ⟨e, if_neg (by rw [e]; decide)⟩
theorem fc_ok {a o : Int} (h : (0 ≤ a ∧ a < 1000000000000000000) ∧ 0 ≤ o ∧ o ≤ 10) : fcE a o = 0 ∧ fcZ a o = fcI a o.toNat := by
  have e : fcE a o = 0 := if_pos h
  exact ⟨e, if_pos e⟩
theorem fc_zero {a o : Int} (h : fcE a o = 0) : (0 ≤ a ∧ a < 1000000000000000000) ∧ 0 ≤ o ∧ o ≤ 10 := by
  by_cases q : (0 ≤ a ∧ a < 1000000000000000000) ∧ 0 ≤ o ∧ o ≤ 10
  · exact q
  · rw [(fc_bad q).1] at h; cases h
def fdE (f o : Int) : Int := if (0 ≤ o ∧ o ≤ 10) ∧ 0 ≤ f ∧ f < oP o.toNat then (if lsB f o.toNat = true then 0 else 13) else 1
def fdZ (f o : Int) : Int := if fdE f o = 0 then flI f o.toNat else 0
theorem fd_bad {f o : Int} (h : ¬ ((0 ≤ o ∧ o ≤ 10) ∧ 0 ≤ f ∧ f < oP o.toNat)) : fdE f o = 1 ∧ fdZ f o = 0 := by
  have e : fdE f o = 1 := if_neg h
  exact ⟨e, if_neg (by rw [e]; decide)⟩
theorem fd_fine {f o : Int} (h : (0 ≤ o ∧ o ≤ 10) ∧ 0 ≤ f ∧ f < oP o.toNat) (k : lsB f o.toNat = false) : fdE f o = 13 ∧ fdZ f o = 0 := by
  have e : fdE f o = 13 := by unfold fdE; rw [if_pos h, k]; rfl
  exact ⟨e, if_neg (by rw [e]; decide)⟩
theorem fd_ok {f o : Int} (h : (0 ≤ o ∧ o ≤ 10) ∧ 0 ≤ f ∧ f < oP o.toNat) (k : lsB f o.toNat = true) : fdE f o = 0 ∧ fdZ f o = flI f o.toNat := by
  have e : fdE f o = 0 := by unfold fdE; rw [if_pos h, k]; rfl
  exact ⟨e, if_pos e⟩
theorem ls_t {f : Int} {k : Nat} (h : lsB f k = true) : lsZ f k = flI f k := if_pos h
theorem ls_f {f : Int} {k : Nat} (h : lsB f k = false) : lsZ f k = 0 := if_neg (by rw [h]; decide)
theorem ls_of {f : Int} {k : Nat} (h : fcI (flI f k) k = f) (q : flI f k < 1000000000000000000) : lsB f k = true := decide_eq_true ⟨by omega, h⟩
def fpE (n o : Int) : Int := if 0 ≤ o ∧ o ≤ 15 then (if 0 ≤ n ∧ n < oP o.toNat then 0 else 2) else 1
def fpL (n o : Int) : List UInt8 := if fpE n o = 0 then octL n o.toNat else []
theorem fp_bad {n o : Int} (h : ¬ (0 ≤ o ∧ o ≤ 15)) : fpE n o = 1 ∧ fpL n o = [] := by
  have e : fpE n o = 1 := if_neg h
  exact ⟨e, if_neg (by rw [e]; decide)⟩
theorem fp_over {n o : Int} (h : 0 ≤ o ∧ o ≤ 15) (k : ¬ (0 ≤ n ∧ n < oP o.toNat)) : fpE n o = 2 ∧ fpL n o = [] := by
  have e : fpE n o = 2 := by unfold fpE; rw [if_pos h, if_neg k]
  exact ⟨e, if_neg (by rw [e]; decide)⟩
theorem fp_ok {n o : Int} (h : 0 ≤ o ∧ o ≤ 15) (k : 0 ≤ n ∧ n < oP o.toNat) : fpE n o = 0 ∧ fpL n o = octL n o.toNat := by
  have e : fpE n o = 0 := by unfold fpE; rw [if_pos h, if_pos k]
  exact ⟨e, if_pos e⟩
def fgE (l : List UInt8) : Int := if l.length ≤ 15 then 0 else 1
def fgZ (l : List UInt8) : Int := if l.length ≤ 15 then numL l else 0
theorem fg_bad {l : List UInt8} (h : ¬ l.length ≤ 15) : fgE l = 1 ∧ fgZ l = 0 := ⟨if_neg h, if_neg h⟩
theorem fg_ok {l : List UInt8} (h : l.length ≤ 15) : fgE l = 0 ∧ fgZ l = numL l := ⟨if_pos h, if_pos h⟩
theorem row_octs {w : World} {c : Nat} {l : List UInt8} (h : Var w c (bytesV l)) : BytesAt w (.slice (some ⟨c, 0, none⟩) l.length l.length) l := by
  obtain ⟨t, ht⟩ := h
  refine .inl ⟨c, 0, l.length, rfl, Nat.le_refl _, fun j x hj => ?_⟩
  rw [Nat.zero_add, cell_of_row w c j (bytesV l).toArray t (0, 0) ht]
  simp [bytesV, hj]
theorem shift_in {f : Int} {k : Nat} (hf : 0 ≤ f ∧ f < 18446744073709551616) (hk : k ≤ 7) : 0 ≤ f / p2 (64 - 8 * k) ∧ f / p2 (64 - 8 * k) < oP k := by
  have hp := p2_pos (64 - 8 * k)
  refine ⟨Int.ediv_nonneg hf.1 (Int.le_of_lt hp), ?_⟩
  rw [Int.ediv_lt_iff_lt_mul hp]
  have e : oP k * p2 (64 - 8 * k) = 18446744073709551616 := by
    unfold oP
    rw [← p2_add, show 8 * k + (64 - 8 * k) = 64 by omega]
    rfl
  omega

theorem rsame_any {l m : List UInt8} {u v : Value} {w : World} (hu : BytesAt w u l) (hv : BytesAt w v m) : Calls Try.prog 11 #[u, v] w fun e w' => ∃ r, e = .returned r ∧ r = .bool (decide (l = m)) ∧ Below w.heap.size w w' := by
  refine calls_Wp (args := [_, _]) (n := 10) Try.func11 rfl rfl (by simp) ?_
  refine qZ ?_
  refine qQ 1 ?_
  refine x_strB rfl rfl rfl rfl rfl rfl rfl hu ?_
  refine sM ?_
  refine x_strB rfl rfl rfl rfl rfl rfl rfl hv ?_
  refine b_eq rfl rfl rfl rfl rfl (fun h9 => ?_) (fun h9 => ?_)
  · refine sZ 1 ?_
    refine Wp.ret ⟨.inr rfl, fun lW => ⟨_, res_tmp (P := Try.prog) rfl rfl, _, rfl, ?_, lW⟩⟩
    clear lW
    rw [decide_eq_true h9]
  · refine sZ 1 ?_
    refine Wp.ret ⟨.inr rfl, fun lW => ⟨_, res_tmp (P := Try.prog) rfl rfl, _, rfl, ?_, lW⟩⟩
    clear lW
    rw [decide_eq_false h9]
theorem rsame_yes {l : List UInt8} {u v : Value} {w : World} (hu : BytesAt w u l) (hv : BytesAt w v l) : Calls Try.prog 11 #[u, v] w fun e w' => ∃ r, e = .returned r ∧ r = .bool true ∧ Below w.heap.size w w' := by
  refine (rsame_any hu hv).mono ?_
  rintro e w' ⟨r, rfl, rfl, b⟩
  exact ⟨_, rfl, by rw [decide_eq_true rfl], b⟩
end Go.Proofs.Ytlpenfganhaclaa
