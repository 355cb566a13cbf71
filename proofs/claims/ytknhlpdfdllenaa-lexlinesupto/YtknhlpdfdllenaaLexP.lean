/-
  What the proofs of the laws of layer 10 share: a slice of texts that is read as data (strs_open, strs_small), and read again behind the call (strs_shut). No conditions.
-/
import Derived.Test.YtknhlpdfdllenaaRows
import Derived.Test.YtknhlpdfdllenaaLexC
import Derived.ProofKit
import Derived.Lib.SmallJoins
import Derived.MakeChecks
import Derived.SliceStrings
import Derived.SizedLaws
import Derived.Carry
namespace Go.Proofs.Ytknhlpdfdllenaa
open Go.ChangeShapes Go.WideShapes Go.ChangeAt Go.RowKit Go.Joins

theorem Try.own : ownKnob Try.prog.godebug = none := by kernel_rfl
theorem Try.laidOut : laidOutB Try.prog = true := by kernel_rfl
theorem Try.cellsStr : Try.prog.cellsOf 9 = 1 := by kernel_rfl
theorem byte_nat {n : Int} (wn : (Lit.int .u8 n).wf = true) : ∃ N : Nat, n = N ∧ N < 256 := by
  simp [Lit.wf, IntKind.min, IntKind.max, IntKind.signed, IntKind.bits] at wn
  exact ⟨n.toNat, by omega, by omega⟩
theorem word_nat {n : Int} (wn : (Lit.int .u32 n).wf = true) : ∃ N : Nat, n = N ∧ N < 4294967296 := by
  simp [Lit.wf, IntKind.min, IntKind.max, IntKind.signed, IntKind.bits] at wn
  exact ⟨n.toNat, by omega, by omega⟩
theorem text_small {H : Type} {t : List UInt8} (h : Rows.uptoSmall H ([DataW.lit (.string t)] ++ []) = true) : t.length ≤ 1048576 := by
  have h := of_decide_eq_true h
  simp only [List.append_nil, Rows.uptoBulkAll, Rows.uptoBulk] at h
  omega
theorem bulk_strs {H : Type} : ∀ ss : List ByteArray, Rows.uptoBulkAll (strs ss : List (DataW H)) = (joinL (ss.map fun s => s.data.toList)).length
  | [] => rfl
  | s :: ss => by
    have ih := bulk_strs (H := H) ss
    have e : (strs (s :: ss) : List (DataW H)) = .lit (.string s.data.toList) :: strs ss := rfl
    rw [e, Rows.uptoBulkAll, ih, List.map_cons, joinL]
    simp only [Rows.uptoBulk, List.length_append, List.length_cons]
    omega
theorem strs_open {H : Type} {enc : TypeId × Value → H} {W : World} {r : Reach} {b0 : Nat} {v : Value} {d : DataW H} {p : List MemPlace}
    (hv : Value.okWide Try.prog W r b0 34 v) (h : DataW.Trod enc Try.prog W 0 (fun _ => true) true 34 v d p) :
    ∃ (a : Option Addr) (c : Nat) (L : List (List UInt8)), v = .slice a L.length c ∧ StrAt W a L ∧ ((d = .nil ∧ L = []) ∨ ∃ es sp, d = .slice es sp ∧ (joinL L).length = Rows.uptoBulkAll es) := by
  obtain ⟨a0, len0, cap0, rfl⟩ := okWide_slice Try.underlying34 hv
  obtain ⟨fuel, hf⟩ := h
  rcases open_strings Try.underlying34 Try.underlying9 Try.cellsStr hf with ⟨hcs, hx⟩ | ⟨a, len, cap, ss, hcs, _, hl, hm, hz, hx, hcell, hsz⟩
  · simp [Value.cells] at hcs
    obtain ⟨rfl, rfl, rfl⟩ := hcs
    simp only [Prod.mk.injEq] at hx
    exact ⟨none, 0, [], rfl, fun j x hj => by simp at hj, .inl ⟨hx.1, rfl⟩⟩
  · simp [Value.cells] at hcs
    obtain ⟨rfl, rfl, rfl⟩ := hcs
    simp only [Prod.mk.injEq] at hx
    obtain ⟨rfl, rfl⟩ := hx
    simp only [if_true] at hz
    have hsp : a.spot = none := by
      have h2 : Cell.okWide Try.prog W r b0 34 (.slice (some a) len0 cap0) := by
        unfold Value.okWide at hv; rw [Try.underlying34] at hv; exact hv
      unfold Cell.okWide Cell.ok at h2
      rw [Try.underlying34] at h2
      exact h2.2.2.2.1
    obtain ⟨b, off, spot⟩ := a
    simp only at hsp
    subst hsp
    have hlen : ((ss.take len0).map fun s => s.data.toList).length = len0 := by simp; omega
    refine ⟨some ⟨b, off, none⟩, cap0, (ss.take len0).map fun s => s.data.toList, by rw [hlen], fun j x hj => ⟨b, off, rfl, ?_⟩, .inr ⟨_, _, rfl, by rw [bulk_strs]⟩⟩
    rw [List.getElem?_map, Option.map_eq_some_iff] at hj
    obtain ⟨s, h1, rfl⟩ := hj
    have hjl := (List.getElem?_eq_some_iff.1 h1).1
    rw [List.length_take] at hjl
    rw [List.getElem?_take_of_lt (by omega)] at h1
    have hc := hcell j (by omega)
    rw [addr_add] at hc
    have hn : ss.getD j ByteArray.empty = s := by simp [List.getD, h1]
    rw [hn] at hc
    rw [hc]
theorem strs_small {H : Type} {d : DataW H} {L : List (List UInt8)} (h : Rows.uptoSmall H ([d] ++ []) = true) (hL : (d = .nil ∧ L = []) ∨ ∃ es sp, d = .slice es sp ∧ (joinL L).length = Rows.uptoBulkAll es) : (joinL L).length ≤ 1048576 := by
  have h := of_decide_eq_true h
  rcases hL with ⟨_, rfl⟩ | ⟨es, sp, rfl, hl⟩
  · simp [joinL]
  · simp only [List.append_nil, Rows.uptoBulkAll, Rows.uptoBulk] at h
    omega
theorem strs_shut {H : Type} {enc : TypeId × Value → H} {W W' : World} {v : Value} {d : DataW H} {p : List MemPlace} (h : DataW.Trod enc Try.prog W 0 (fun _ => true) true 34 v d p) (hb : Below W.heap.size W W') :
    DataW.Trod enc Try.prog W' 0 (fun b => decide (b < W.heap.size)) true 34 v d p := by
  have h' := h
  obtain ⟨fuel, hf⟩ := h'
  exact Below.trod Try.laidOut (by kernel_rfl) (of_decide_eq_true (by kernel_rfl)) h hb (DataW.trod_lt fuel _ _ _ hf)
end Go.Proofs.Ytknhlpdfdllenaa
