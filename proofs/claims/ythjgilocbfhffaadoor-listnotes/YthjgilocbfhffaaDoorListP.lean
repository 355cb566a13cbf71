/-
  What the proofs of the laws of layer 11 share: a table that is read as data (table_open), and read again behind the call (table_shut); the library's tables, of what the card lays (tab_of_laid). No conditions.
-/
import Derived.Test.YthjgilocbfhffaaDoorRows
import Derived.Test.YthjgilocbfhffaaDoorStdA
import Derived.Test.YthjgilocbfhffaaDoorListR
import Derived.ProofKit
import Derived.Lib.SmallJoins
import Derived.Lib.LaidTab
import Derived.MakeChecks
import Derived.Stop.LaidErr
import Derived.Deep.SlicePairs
import Derived.SizedLaws
import Derived.Carry
namespace Go.Proofs.YthjgilocbfhffaaDoor
open Go.ChangeShapes Go.WideShapes Go.ChangeAt Go.RowKit Go.Joins

set_option maxRecDepth 100000
theorem Tryd.own : ownKnob Tryd.prog.godebug = none := by kernel_rfl
theorem Tryd.laidOut : laidOutB Tryd.prog = true := by kernel_rfl
theorem Tryd.cellsTable : Tryd.prog.cellsOf 24 = 3 := by kernel_rfl
theorem Tryd.cellsEntry : Tryd.prog.cellsOf 43 = 2 := by kernel_rfl
theorem byte_nat {n : Int} (wn : (Lit.int .u8 n).wf = true) : ∃ N : Nat, n = N ∧ N < 256 := by
  simp [Lit.wf, IntKind.min, IntKind.max, IntKind.signed, IntKind.bits] at wn
  exact ⟨n.toNat, by omega, by omega⟩
theorem int_of_wf {n : Int} (wn : (Lit.int .i64 n).wf = true) : I64 n := by
  simp [Lit.wf, IntKind.min, IntKind.max, IntKind.signed, IntKind.bits] at wn
  unfold I64
  omega
theorem tab_of_laid {W : World} (h : laidMetH Tryd.prog Rows.listChecksRow.laid W) : Tab W := by
  rw [MakeChecks.laidMetH_plain _ _ _ (by kernel_rfl)] at h
  have h1 := laidMet.tail h
  have h2 := laidMet.tail h1
  have t1 := Lib.tabIs_of_head (k := .u8) (zs := deB64) (g := 3) (t := 140) (e := 5) (n := 64) (by kernel_rfl) (by kernel_rfl) (by kernel_rfl) (by kernel_rfl) (by kernel_rfl) (by kernel_rfl) h1
  have t2 := Lib.tabIs_of_head (k := .u64) (zs := Lib.pow10Tab) (g := 0) (t := 129) (e := 69) (n := 20) (by kernel_rfl) (by kernel_rfl) (by kernel_rfl) (by kernel_rfl) (by kernel_rfl) (by kernel_rfl) h2
  exact ⟨TabAt.of (by kernel_rfl) t2, TabAt.of (by kernel_rfl) t1⟩
def numOf : Value → Int
  | .int _ n => n
  | _ => 0
theorem table_open {H : Type} {enc : TypeId × Value → H} {W : World} {r : Reach} {b0 : Nat} {v : Value} {d : DataW H} {p : List MemPlace}
    (hv : Value.okWide Tryd.prog W r b0 24 v) (h : DataW.Trod enc Tryd.prog W 0 (fun _ => true) true 24 v d p) :
    ∃ (t : Tb) (u : Value), v = tbV t u ∧ I64 t.u ∧ I64 t.e ∧ EntAt W u t.es ∧ t.es.length ≤ 9223372036854775807 := by
  have hv0 := hv
  obtain ⟨v0, v1, v2, y0, y1, y2, n, rfl, rfl, rfl, h0, h1, h2⟩ := open_agg3 Tryd.underlying24 (by kernel_rfl) Tryd.cellsTable hv h
  obtain ⟨a, e0, rfl, w0⟩ := DataW.trod_int Tryd.underlying3 h0
  obtain ⟨b, e1, rfl, w1⟩ := DataW.trod_int Tryd.underlying3 h1
  simp at e0 e1
  subst e0 e1
  rcases Go.Deep.open_slice_pairs Tryd.underlying22 Tryd.underlying43 Tryd.cellsEntry rfl rfl (by kernel_rfl) (by kernel_rfl) h2 with ⟨e, _⟩ | ⟨ad, len, cap, m, nn, V0, V1, D0, D1, P0, P1, e, _, hl, hm, hmm, _, hx⟩
  · cases e
    exact ⟨⟨a, b, []⟩, _, rfl, int_of_wf w0, int_of_wf w1, EntAt.nil W, by simp⟩
  · cases e
    have hcell : Cell.okWide Tryd.prog W r b0 22 (.slice (some ad) len cap) := by
      unfold Value.okWide at hv0
      rw [Tryd.underlying24] at hv0
      obtain ⟨cs, ecs, _, ts, hts, _, hrow⟩ := hv0
      cases ecs
      obtain ⟨u, hu, hok⟩ := hrow 2 _ rfl
      have hts' : Tryd.prog.cellTypes Tryd.prog.depth 24 = some [3, 3, 22] := by kernel_rfl
      rw [hts'] at hts
      cases hts
      cases hu
      exact hok
    have hsp : ad.spot = none := by
      unfold Cell.okWide Cell.ok at hcell
      rw [Tryd.underlying22] at hcell
      exact hcell.2.2.2.1
    obtain ⟨bb, off, spot⟩ := ad
    simp only at hsp
    subst hsp
    simp only [if_true] at hmm
    unfold maxLen at hm
    refine ⟨⟨a, b, (List.range len).map fun i => (numOf (V0 i), numOf (V1 i))⟩, .slice (some ⟨bb, off, none⟩) len cap, rfl, int_of_wf w0, int_of_wf w1, ⟨some ⟨bb, off, none⟩, cap, by simp, by simpa using hl, fun j x hj => ?_⟩, by simp; omega⟩
    rw [List.getElem?_map, Option.map_eq_some_iff] at hj
    obtain ⟨i, hi, rfl⟩ := hj
    have hlt := (List.getElem?_eq_some_iff.1 hi).1
    rw [List.length_range] at hlt
    rw [List.getElem?_range hlt] at hi
    cases hi
    obtain ⟨c0, c1, t0, t1⟩ := hx j (by omega)
    obtain ⟨x0, f0, _, z0⟩ := DataW.trod_int Tryd.underlying3 t0
    obtain ⟨x1, f1, _, z1⟩ := DataW.trod_int Tryd.underlying3 t1
    simp at f0 f1
    rw [f0] at c0
    rw [f1] at c1
    rw [addr_add] at c0 c1
    refine ⟨?_, ?_, bb, off, rfl, ?_, ?_⟩
    · show I64 (numOf (V0 j)); rw [f0]; exact int_of_wf z0
    · show I64 (numOf (V1 j)); rw [f1]; exact int_of_wf z1
    · show _ = some (Value.int .i64 (numOf (V0 j))); rw [f0]; exact c0
    · show _ = some (Value.int .i64 (numOf (V1 j))); rw [f1]; exact c1
theorem table_shut {H : Type} {enc : TypeId × Value → H} {W W' : World} {v : Value} {d : DataW H} {p : List MemPlace} (h : DataW.Trod enc Tryd.prog W 0 (fun _ => true) true 24 v d p) (hb : Below W.heap.size W W') :
    DataW.Trod enc Tryd.prog W' 0 (fun b => decide (b < W.heap.size)) true 24 v d p := by
  have h' := h
  obtain ⟨fuel, hf⟩ := h'
  exact Below.trod Tryd.laidOut (by kernel_rfl) (of_decide_eq_true (by kernel_rfl)) h hb (DataW.trod_lt fuel _ _ _ hf)
end Go.Proofs.YthjgilocbfhffaaDoor
