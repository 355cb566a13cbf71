/-
 What the proofs of the laws over labels share: a Label that is read as data, and read again. No conditions.
-/
import Derived.Test.YtdpodbfamgafiaaGreatProg
import Derived.Test.YtdpodbfamgafiaaGreatChecked
import Derived.ProofKit
import Derived.Test.YtdpodbfamgafiaaGreatRows
import Derived.Test.YtdpodbfamgafiaaGreatOnc
import Derived.Lib.SmallJoins
import Derived.MakeChecks
import Derived.ChangeSlices
import Derived.Deep.SlicePairs
import Derived.SizedLaws
import Derived.Carry
import Derived.Test.YtdpodbfamgafiaaGreatWideA
import Derived.Test.YtdpodbfamgafiaaGreatDayR
namespace Go.Proofs.YtdpodbfamgafiaaGreat
open Go.RowKit
theorem Tryz.own : ownKnob Tryz.prog.godebug = none := by kernel_rfl
end Go.Proofs.YtdpodbfamgafiaaGreat

namespace Go.Proofs.YtdpodbfamgafiaaGreat
open Go.ChangeShapes Go.WideShapes Go.ChangeAt Go.RowKit Go.Joins

set_option maxRecDepth 100000
theorem Tryz.laidOut : laidOutB Tryz.prog = true := by kernel_rfl
theorem Tryz.cellsTable : Tryz.prog.cellsOf 24 = 3 := by kernel_rfl
theorem Tryz.cellsEntry : Tryz.prog.cellsOf 68 = 2 := by kernel_rfl
theorem intT_of_wf {n : Int} (wn : (Lit.int .i64 n).wf = true) : I64 n := by
 simp [Lit.wf, IntKind.min, IntKind.max, IntKind.signed, IntKind.bits] at wn
 unfold I64
 omega
def numOf : Value → Int
 | .int _ n => n
 | _ => 0
theorem table_openX {H : Type} {enc : TypeId × Value → H} {W : World} {r : Reach} {b0 : Nat} {v : Value} {d : DataW H} {p : List MemPlace}
  (hv : Value.okWide Tryz.prog W r b0 24 v) (h : DataW.Trod enc Tryz.prog W 0 (fun _ => true) true 24 v d p) :
  ∃ (t : Tb) (u : Value), v = tbV t u ∧ I64 t.u ∧ I64 t.e ∧ EntAt W u t.es ∧ t.es.length ≤ 9223372036854775807 ∧ ((t.es = [] ∧ u = .slice none 0 0) ∨ ∃ y0 y1 es sp b off c, d = .agg [.lit y0, .lit y1, .slice es sp] ∧ t.es.length ≤ es.length + sp.length ∧ u = .slice (some ⟨b, off, none⟩) t.es.length c) := by
 have hv0 := hv
 obtain ⟨v0, v1, v2, y0, y1, y2, n, rfl, rfl, rfl, h0, h1, h2⟩ := open_agg3 Tryz.underlying24 (by kernel_rfl) Tryz.cellsTable hv h
 obtain ⟨a, e0, rfl, w0⟩ := DataW.trod_int Tryz.underlying3 h0
 obtain ⟨b, e1, rfl, w1⟩ := DataW.trod_int Tryz.underlying3 h1
 simp at e0 e1
 subst e0 e1
 rcases Go.Deep.open_slice_pairs Tryz.underlying22 Tryz.underlying68 Tryz.cellsEntry rfl rfl (by kernel_rfl) (by kernel_rfl) h2 with ⟨e, _⟩ | ⟨ad, len, cap, m, nn, V0, V1, D0, D1, P0, P1, e, _, hl, hm, hmm, hxd, hx⟩
 ·cases e
  exact ⟨⟨a, b, []⟩, _, rfl, intT_of_wf w0, intT_of_wf w1, EntAt.nil W, by simp, .inl ⟨rfl, rfl⟩⟩
 ·cases e
  have hcell : Cell.okWide Tryz.prog W r b0 22 (.slice (some ad) len cap) := by
   unfold Value.okWide at hv0
   rw [Tryz.underlying24] at hv0
   obtain ⟨cs, ecs, _, ts, hts, _, hrow⟩ := hv0
   cases ecs
   obtain ⟨u, hu, hok⟩ := hrow 2 _ rfl
   have hts' : Tryz.prog.cellTypes Tryz.prog.depth 24 = some [3, 3, 22] := by kernel_rfl
   rw [hts'] at hts
   cases hts
   cases hu
   exact hok
  have hsp : ad.spot = none := by
   unfold Cell.okWide Cell.ok at hcell
   rw [Tryz.underlying22] at hcell
   exact hcell.2.2.2.1
  obtain ⟨bb, off, spot⟩ := ad
  simp only at hsp
  subst hsp
  simp only [if_true] at hmm
  unfold maxLen at hm
  subst hxd
  refine ⟨⟨a, b, (List.range len).map fun i => (numOf (V0 i), numOf (V1 i))⟩, .slice (some ⟨bb, off, none⟩) len cap, rfl, intT_of_wf w0, intT_of_wf w1, ⟨some ⟨bb, off, none⟩, cap, by simp, by simpa using hl, fun j x hj => ?_⟩, by simp; omega, .inr ⟨_, _, _, _, bb, off, cap, rfl, by simp, by simp⟩⟩
  rw [List.getElem?_map, Option.map_eq_some_iff] at hj
  obtain ⟨i, hi, rfl⟩ := hj
  have hlt := (List.getElem?_eq_some_iff.1 hi).1
  rw [List.length_range] at hlt
  rw [List.getElem?_range hlt] at hi
  cases hi
  obtain ⟨c0, c1, t0, t1⟩ := hx j (by omega)
  obtain ⟨x0, f0, _, z0⟩ := DataW.trod_int Tryz.underlying3 t0
  obtain ⟨x1, f1, _, z1⟩ := DataW.trod_int Tryz.underlying3 t1
  simp at f0 f1
  rw [f0] at c0
  rw [f1] at c1
  rw [addr_add] at c0 c1
  refine ⟨?_, ?_, bb, off, rfl, ?_, ?_⟩
  ·show I64 (numOf (V0 j)); rw [f0]; exact intT_of_wf z0
  ·show I64 (numOf (V1 j)); rw [f1]; exact intT_of_wf z1
  ·show _ = some (Value.int .i64 (numOf (V0 j))); rw [f0]; exact c0
  ·show _ = some (Value.int .i64 (numOf (V1 j))); rw [f1]; exact c1
theorem table_open {H : Type} {enc : TypeId × Value → H} {W : World} {r : Reach} {b0 : Nat} {v : Value} {d : DataW H} {p : List MemPlace}
  (hv : Value.okWide Tryz.prog W r b0 24 v) (h : DataW.Trod enc Tryz.prog W 0 (fun _ => true) true 24 v d p) :
  ∃ (t : Tb) (u : Value), v = tbV t u ∧ I64 t.u ∧ I64 t.e ∧ EntAt W u t.es ∧ t.es.length ≤ 9223372036854775807 := by
 obtain ⟨t, u, h1, h2, h3, h4, h5, _⟩ := table_openX hv h
 exact ⟨t, u, h1, h2, h3, h4, h5⟩
theorem table_shut {H : Type} {enc : TypeId × Value → H} {W W' : World} {v : Value} {d : DataW H} {p : List MemPlace} (h : DataW.Trod enc Tryz.prog W 0 (fun _ => true) true 24 v d p) (hb : Below W.heap.size W W') :
  DataW.Trod enc Tryz.prog W' 0 (fun b => decide (b < W.heap.size)) true 24 v d p := by
 have h' := h
 obtain ⟨fuel, hf⟩ := h'
 exact Below.trod Tryz.laidOut (by kernel_rfl) (of_decide_eq_true (by kernel_rfl)) h hb (DataW.trod_lt fuel _ _ _ hf)
end Go.Proofs.YtdpodbfamgafiaaGreat

namespace Go.Proofs.YtdpodbfamgafiaaGreat
open Go.ChangeShapes Go.WideShapes Go.ChangeAt Go.RowKit Go.Joins

theorem Tryz.cellsWide : Tryz.prog.cellsOf 41 = 2 := by kernel_rfl
theorem wide_of_wf {h l : Int} (wh : (Lit.int .i64 h).wf = true) (wl : (Lit.int .u64 l).wf = true) : WideIs h l (h * 18446744073709551616 + l) := by
 simp [Lit.wf, IntKind.min, IntKind.max, IntKind.signed, IntKind.bits] at wh wl
 exact ⟨by omega, by omega, by omega, by omega, rfl⟩
theorem int_of_wf {n : Int} (wn : (Lit.int .i64 n).wf = true) : -9223372036854775808 ≤ n ∧ n ≤ 9223372036854775807 := by
 simp [Lit.wf, IntKind.min, IntKind.max, IntKind.signed, IntKind.bits] at wn
 omega
theorem wide_reads {H : Type} {enc : TypeId × Value → H} {W' : World} {base : Nat} {sp : Nat → Bool} {hd : Bool} {h l : Int} (wh : (Lit.int .i64 h).wf = true) (wl : (Lit.int .u64 l).wf = true) :
  DataW.Trod enc Tryz.prog W' base sp hd 41 (.agg #[.int .i64 h, .int .u64 l]) (.agg [.lit (.int .i64 h), .lit (.int .u64 l)]) [] :=
 shut_agg2 (y0 := (.lit (.int .i64 h), [])) (y1 := (.lit (.int .u64 l), [])) Tryz.underlying41 (by kernel_rfl) Tryz.cellsWide ⟨1, by simp [DataW.trod, Tryz.underlying2, wh]⟩ ⟨1, by simp [DataW.trod, Tryz.underlying39, wl]⟩
end Go.Proofs.YtdpodbfamgafiaaGreat

namespace Go.Proofs.YtdpodbfamgafiaaGreat
open Go.ChangeShapes Go.WideShapes Go.ChangeAt Go.RowKit Go.Joins
set_option maxRecDepth 100000

theorem Tryz.cellsLabel : Tryz.prog.cellsOf 38 = 3 := by kernel_rfl
theorem label_open {H : Type} {enc : TypeId × Value → H} {w : World} {base : Nat} {sp : Nat → Bool} {hd : Bool} {r : Reach} {b0 : Nat} {v : Value} {d : DataW H} {p : List MemPlace}
  (hv : Value.okWide Tryz.prog w r b0 38 v) (h : DataW.Trod enc Tryz.prog w base sp hd 38 v d p) :
  ∃ a b c : Int, v = .agg #[.int .i64 a, .int .i64 b, .int .i64 c] ∧ d = .agg [.lit (.int .i64 a), .lit (.int .i64 b), .lit (.int .i64 c)] ∧ p = [] ∧ (Lit.int .i64 a).wf = true ∧ (Lit.int .i64 b).wf = true ∧ (Lit.int .i64 c).wf = true := by
 obtain ⟨v0, v1, v2, y0, y1, y2, n, rfl, rfl, rfl, h0, h1, h2⟩ := open_agg3 Tryz.underlying38 (by kernel_rfl) Tryz.cellsLabel hv h
 obtain ⟨a, e0, rfl, w0⟩ := DataW.trod_int Tryz.underlying3 h0
 obtain ⟨b, e1, rfl, w1⟩ := DataW.trod_int Tryz.underlying3 h1
 obtain ⟨c, e2, rfl, w2⟩ := DataW.trod_int Tryz.underlying3 h2
 simp at e0 e1 e2
 subst e0 e1 e2
 exact ⟨a, b, c, rfl, rfl, rfl, w0, w1, w2⟩
theorem label_reads {H : Type} {enc : TypeId × Value → H} {W' : World} {base : Nat} {sp : Nat → Bool} {hd : Bool} {a b c : Int} (w0 : (Lit.int .i64 a).wf = true) (w1 : (Lit.int .i64 b).wf = true) (w2 : (Lit.int .i64 c).wf = true) :
  DataW.Trod enc Tryz.prog W' base sp hd 38 (.agg #[.int .i64 a, .int .i64 b, .int .i64 c]) (.agg [.lit (.int .i64 a), .lit (.int .i64 b), .lit (.int .i64 c)]) [] :=
 shut_agg3 (y0 := (.lit (.int .i64 a), [])) (y1 := (.lit (.int .i64 b), [])) (y2 := (.lit (.int .i64 c), [])) Tryz.underlying38 (by kernel_rfl) Tryz.cellsLabel ⟨1, by simp [DataW.trod, Tryz.underlying3, w0]⟩ ⟨1, by simp [DataW.trod, Tryz.underlying3, w1]⟩ ⟨1, by simp [DataW.trod, Tryz.underlying3, w2]⟩
end Go.Proofs.YtdpodbfamgafiaaGreat
