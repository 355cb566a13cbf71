/-
  What the proofs of laws over bytes that are handed in share: a slice of bytes that is read as data (bytes_open, bytes_len), and read again behind the call (bytes_shut). No conditions.
-/
import Derived.Test.YtlpenfganhaclaaRows
import Derived.Test.YtlpenfganhaclaaVcY
import Derived.ProofKit
import Derived.Lib.SmallJoins
import Derived.MakeChecks
import Derived.ChangeSlices
import Derived.SizedLaws
import Derived.Carry
namespace Go.Proofs.Ytlpenfganhaclaa
set_option maxRecDepth 100000
open Go.ChangeShapes Go.WideShapes Go.ChangeAt Go.RowKit Go.Joins

theorem Try.laidOut : laidOutB Try.prog = true := by kernel_rfl
theorem Try.cellsByte : Try.prog.cellsOf 5 = 1 := by kernel_rfl
theorem Try.bytesByte : Try.prog.bytesOf 5 = 1 := by kernel_rfl
theorem bytes_open {H : Type} {enc : TypeId × Value → H} {W : World} {r : Reach} {b0 : Nat} {v : Value} {d : DataW H} {p : List MemPlace}
    (hv : Value.okWide Try.prog W r b0 25 v) (h : DataW.Trod enc Try.prog W 0 (fun _ => true) true 25 v d p) :
    ∃ l : List UInt8, BytesAt W v l ∧ ((d = .nil ∧ l = []) ∨ ∃ es sp, d = .slice es sp ∧ l.length ≤ es.length + sp.length) := by
  obtain ⟨a0, len0, cap0, rfl⟩ := okWide_slice Try.underlying25 hv
  obtain ⟨fuel, hf⟩ := h
  rcases open_ints Try.underlying25 Try.underlying5 Try.cellsByte hf with ⟨hcs, hx⟩ | ⟨a, len, cap, zs, hcs, _, hl, hm, hz, hx, hcell, hwz⟩
  · simp [Value.cells] at hcs
    obtain ⟨rfl, rfl, rfl⟩ := hcs
    simp only [Prod.mk.injEq] at hx
    exact ⟨[], .inr ⟨rfl, rfl⟩, .inl ⟨hx.1, rfl⟩⟩
  · simp [Value.cells] at hcs
    obtain ⟨rfl, rfl, rfl⟩ := hcs
    simp only [Prod.mk.injEq] at hx
    obtain ⟨rfl, rfl⟩ := hx
    simp only [if_true] at hz
    have hsp : a.spot = none := by
      have h2 : Cell.okWide Try.prog W r b0 25 (.slice (some a) len0 cap0) := by
        unfold Value.okWide at hv; rw [Try.underlying25] at hv; exact hv
      unfold Cell.okWide Cell.ok at h2
      rw [Try.underlying25] at h2
      exact h2.2.2.2.1
    obtain ⟨b, off, spot⟩ := a
    simp only at hsp
    subst hsp
    have hlen : ((zs.take len0).map fun n => UInt8.ofNat n.toNat).length = len0 := by simp; omega
    refine ⟨(zs.take len0).map fun n => UInt8.ofNat n.toNat, .inl ⟨b, off, cap0, by rw [hlen], by rw [hlen]; exact hl, fun j x hj => ?_⟩, .inr ⟨_, _, rfl, by simp [lits]⟩⟩
    rw [List.getElem?_map, Option.map_eq_some_iff] at hj
    obtain ⟨n, h1, rfl⟩ := hj
    have hjl := (List.getElem?_eq_some_iff.1 h1).1
    rw [List.length_take] at hjl
    rw [List.getElem?_take_of_lt (by omega)] at h1
    have hc := hcell j (by omega)
    rw [addr_add] at hc
    have hn : zs.getD j 0 = n := by simp [List.getD, h1]
    rw [hn] at hc
    have hw := hwz n (List.mem_of_getElem? h1)
    simp [Lit.wf, IntKind.min, IntKind.max, IntKind.signed, IntKind.bits] at hw
    rw [hc, UInt8.toNat_ofNat', Nat.mod_eq_of_lt (by omega)]
    congr 2
    omega
theorem bytes_len {H : Type} {ts : List TypeId} {ds : List (DataW H)} (h : (DataW.weightsEach Try.prog ts ds).all (· ≤ reachBytes) = true) {j : Nat} {d : DataW H} {l : List UInt8} (ht : ts[j]? = some 25) (hd : ds[j]? = some d)
    (hl : (d = .nil ∧ l = []) ∨ ∃ es sp, d = .slice es sp ∧ l.length ≤ es.length + sp.length) : l.length ≤ 140737488351232 := by
  rcases hl with ⟨_, rfl⟩ | ⟨es, sp, rfl, hl⟩
  · simp
  · have := sized_slice h ht hd Try.underlying25
    rw [Try.bytesByte] at this
    unfold reachBytes at this
    omega
theorem bytes_shut {H : Type} {enc : TypeId × Value → H} {W W' : World} {v : Value} {d : DataW H} {p : List MemPlace} (h : DataW.Trod enc Try.prog W 0 (fun _ => true) true 25 v d p) (hb : Below W.heap.size W W') :
    DataW.Trod enc Try.prog W' 0 (fun b => decide (b < W.heap.size)) true 25 v d p := by
  have h' := h
  obtain ⟨fuel, hf⟩ := h'
  exact Below.trod Try.laidOut (by kernel_rfl) (of_decide_eq_true (by kernel_rfl)) h hb (DataW.trod_lt fuel _ _ _ hf)
end Go.Proofs.Ytlpenfganhaclaa
