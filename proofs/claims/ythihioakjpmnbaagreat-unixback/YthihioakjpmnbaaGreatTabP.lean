/-
 What proofs of laws over tables and lists of ints that are handed in share: a table that is read as data (table_open, table_openX, table_len), and read again behind the call (table_shut); so for lists of ints (ints_open, ints_shut). No conditions.
-/
import Derived.Test.YthihioakjpmnbaaGreatRows
import Derived.Test.YthihioakjpmnbaaGreatOnc
import Derived.Test.YthihioakjpmnbaaGreatDayP
import Derived.ProofKit
import Derived.Lib.SmallJoins
import Derived.MakeChecks
import Derived.ChangeSlices
import Derived.Deep.SlicePairs
import Derived.SizedLaws
import Derived.Carry
namespace Go.Proofs.YthihioakjpmnbaaGreat
open Go.ChangeShapes Go.WideShapes Go.ChangeAt Go.RowKit Go.Joins

set_option maxRecDepth 100000
theorem Tryz.laidOut : laidOutB Tryz.prog = true := by kernel_rfl
theorem Tryz.cellsTable : Tryz.prog.cellsOf 41 = 3 := by kernel_rfl
theorem Tryz.cellsEntry : Tryz.prog.cellsOf 56 = 2 := by kernel_rfl
theorem intT_of_wf {n : Int} (wn : (Lit.int .i64 n).wf = true) : I64 n := by
 simp [Lit.wf, IntKind.min, IntKind.max, IntKind.signed, IntKind.bits] at wn
 unfold I64
 omega
def numOf : Value → Int
 | .int _ n => n
 | _ => 0
theorem table_openX {H : Type} {enc : TypeId × Value → H} {W : World} {r : Reach} {b0 : Nat} {v : Value} {d : DataW H} {p : List MemPlace}
  (hv : Value.okWide Tryz.prog W r b0 41 v) (h : DataW.Trod enc Tryz.prog W 0 (fun _ => true) true 41 v d p) :
  ∃ (t : Tb) (u : Value), v = tbV t u ∧ I64 t.u ∧ I64 t.e ∧ EntAt W u t.es ∧ t.es.length ≤ 9223372036854775807 ∧ ((t.es = [] ∧ u = .slice none 0 0) ∨ ∃ y0 y1 es sp b off c, d = .agg [.lit y0, .lit y1, .slice es sp] ∧ t.es.length ≤ es.length + sp.length ∧ u = .slice (some ⟨b, off, none⟩) t.es.length c) := by
 have hv0 := hv
 obtain ⟨v0, v1, v2, y0, y1, y2, n, rfl, rfl, rfl, h0, h1, h2⟩ := open_agg3 Tryz.underlying41 (by kernel_rfl) Tryz.cellsTable hv h
 obtain ⟨a, e0, rfl, w0⟩ := DataW.trod_int Tryz.underlying3 h0
 obtain ⟨b, e1, rfl, w1⟩ := DataW.trod_int Tryz.underlying3 h1
 simp at e0 e1
 subst e0 e1
 rcases Go.Deep.open_slice_pairs Tryz.underlying39 Tryz.underlying56 Tryz.cellsEntry rfl rfl (by kernel_rfl) (by kernel_rfl) h2 with ⟨e, _⟩ | ⟨ad, len, cap, m, nn, V0, V1, D0, D1, P0, P1, e, _, hl, hm, hmm, hxd, hx⟩
 ·cases e
  exact ⟨⟨a, b, []⟩, _, rfl, intT_of_wf w0, intT_of_wf w1, EntAt.nil W, by simp, .inl ⟨rfl, rfl⟩⟩
 ·cases e
  have hcell : Cell.okWide Tryz.prog W r b0 39 (.slice (some ad) len cap) := by
   unfold Value.okWide at hv0
   rw [Tryz.underlying41] at hv0
   obtain ⟨cs, ecs, _, ts, hts, _, hrow⟩ := hv0
   cases ecs
   obtain ⟨u, hu, hok⟩ := hrow 2 _ rfl
   have hts' : Tryz.prog.cellTypes Tryz.prog.depth 41 = some [3, 3, 39] := by kernel_rfl
   rw [hts'] at hts
   cases hts
   cases hu
   exact hok
  have hsp : ad.spot = none := by
   unfold Cell.okWide Cell.ok at hcell
   rw [Tryz.underlying39] at hcell
   exact hcell.2.2.2.1
  obtain ⟨bb, off, spot⟩ := ad
  simp only at hsp
  subst hsp
  simp only [if_true] at hmm
  unfold maxLen at hm
  subst hxd
  refine ⟨⟨a, b, (List.range len).map fun i => (numOf (V0 i), numOf (V1 i))⟩, .slice (some ⟨bb, off, none⟩) len cap, rfl, intT_of_wf w0, intT_of_wf w1, ⟨some ⟨bb, off, none⟩, cap, by simp, by simpa using hl, fun j x hj => ?_⟩, by simp; omega, .inr ⟨_, _, _, _, bb, off, cap, rfl, by simp, by simp⟩⟩
  rw [List.getElem?_map, Option.map_eq_some_iff] at hj
  obtain ⟨i, hi, rfl⟩ := hj
  have hlt := (List.getElem?_eq_some_iff.1 hi).1
  rw [List.length_range] at hlt
  rw [List.getElem?_range hlt] at hi
  cases hi
  obtain ⟨c0, c1, t0, t1⟩ := hx j (by omega)
  obtain ⟨x0, f0, _, z0⟩ := DataW.trod_int Tryz.underlying3 t0
  obtain ⟨x1, f1, _, z1⟩ := DataW.trod_int Tryz.underlying3 t1
  simp at f0 f1
  rw [f0] at c0
  rw [f1] at c1
  rw [addr_add] at c0 c1
  refine ⟨?_, ?_, bb, off, rfl, ?_, ?_⟩
  ·show I64 (numOf (V0 j)); rw [f0]; exact intT_of_wf z0
  ·show I64 (numOf (V1 j)); rw [f1]; exact intT_of_wf z1
  ·show _ = some (Value.int .i64 (numOf (V0 j))); rw [f0]; exact c0
  ·show _ = some (Value.int .i64 (numOf (V1 j))); rw [f1]; exact c1
theorem table_open {H : Type} {enc : TypeId × Value → H} {W : World} {r : Reach} {b0 : Nat} {v : Value} {d : DataW H} {p : List MemPlace}
  (hv : Value.okWide Tryz.prog W r b0 41 v) (h : DataW.Trod enc Tryz.prog W 0 (fun _ => true) true 41 v d p) :
  ∃ (t : Tb) (u : Value), v = tbV t u ∧ I64 t.u ∧ I64 t.e ∧ EntAt W u t.es ∧ t.es.length ≤ 9223372036854775807 := by
 obtain ⟨t, u, h1, h2, h3, h4, h5, _⟩ := table_openX hv h
 exact ⟨t, u, h1, h2, h3, h4, h5⟩
theorem table_shut {H : Type} {enc : TypeId × Value → H} {W W' : World} {v : Value} {d : DataW H} {p : List MemPlace} (h : DataW.Trod enc Tryz.prog W 0 (fun _ => true) true 41 v d p) (hb : Below W.heap.size W W') :
  DataW.Trod enc Tryz.prog W' 0 (fun b => decide (b < W.heap.size)) true 41 v d p := by
 have h' := h
 obtain ⟨fuel, hf⟩ := h'
 exact Below.trod Tryz.laidOut (by kernel_rfl) (of_decide_eq_true (by kernel_rfl)) h hb (DataW.trod_lt fuel _ _ _ hf)
end Go.Proofs.YthihioakjpmnbaaGreat
