/-
  What the proofs of the laws over rates share: Rates that are read as data, and read again. No conditions.
-/
import Derived.Test.YtokpneglldfmjaaProg
import Derived.Test.YtokpneglldfmjaaChecked
import Derived.ProofKit
import Derived.Test.YtokpneglldfmjaaRows
import Derived.Test.YtokpneglldfmjaaSegO
import Derived.Lib.SmallJoins
import Derived.MakeChecks
import Derived.ChangeSlices
import Derived.Deep.SlicePairs
import Derived.SizedLaws
import Derived.Carry
namespace Go.Proofs.Ytokpneglldfmjaa
open Go.RowKit
theorem Try.own : ownKnob Try.prog.godebug = none := by kernel_rfl
end Go.Proofs.Ytokpneglldfmjaa

namespace Go.Proofs.Ytokpneglldfmjaa
open Go.ChangeShapes Go.WideShapes Go.ChangeAt Go.RowKit Go.Joins

set_option maxRecDepth 100000
theorem Try.laidOutS : laidOutB Try.prog = true := by kernel_rfl
theorem Try.cellsRates : Try.prog.cellsOf 34 = 3 := by kernel_rfl
theorem Try.cellsSegment : Try.prog.cellsOf 25 = 4 := by kernel_rfl
theorem Try.bytesSegment : Try.prog.bytesOf 25 = 32 := by kernel_rfl
theorem intS_of_wf {n : Int} (wn : (Lit.int .i64 n).wf = true) : I64 n := by
  simp [Lit.wf, IntKind.min, IntKind.max, IntKind.signed, IntKind.bits] at wn
  unfold I64
  omega
def numOfS : Value → Int
  | .int _ n => n
  | _ => 0
/-- A slice of structs of four numbers, at every index. -/
theorem open_quads {H : Type} {enc : TypeId × Value → H} {P : Program} {w : World} {base : Nat} {spare : Nat → Bool} {held : Bool} {t e : TypeId} {f0 f1 f2 f3 : Field} {fuel : Nat} {cs : List Value} {x : DataW H × List MemPlace}
    (ht : P.underlying t = some (.slice e)) (he : P.underlying e = some (.struct #[f0, f1, f2, f3])) (ce : P.cellsOf e = 4) (o0 : f0.offset = 0) (o1 : f1.offset = 1) (o2 : f2.offset = 2) (o3 : f3.offset = 3)
    (c0 : P.cellsOf f0.type = 1) (c1 : P.cellsOf f1.type = 1) (c2 : P.cellsOf f2.type = 1) (c3 : P.cellsOf f3.type = 1) (h : DataW.trod enc P w base spare held fuel t cs = some x) :
    (cs = [.slice none 0 0] ∧ x = (.nil, [])) ∨
    ∃ (a : Addr) (len cap m n : Nat) (es sp : List (DataW H)) (V0 V1 V2 V3 : Nat → Value), cs = [.slice (some a) len cap] ∧ base ≤ a.block ∧ len ≤ cap ∧ cap ≤ maxLen ∧ m = (if spare a.block then cap else len) ∧ x.1 = .slice es sp ∧ es.length = len ∧ len + sp.length = m ∧
      ∀ i, i < m → (w.cell? (a.add (i * 4)) = some (V0 i) ∧ w.cell? (a.add (i * 4 + 1)) = some (V1 i) ∧ w.cell? (a.add (i * 4 + 2)) = some (V2 i) ∧ w.cell? (a.add (i * 4 + 3)) = some (V3 i)) ∧
        (∃ y, DataW.trod enc P w base spare held n f0.type [V0 i] = some y) ∧ (∃ y, DataW.trod enc P w base spare held n f1.type [V1 i] = some y) ∧ (∃ y, DataW.trod enc P w base spare held n f2.type [V2 i] = some y) ∧ (∃ y, DataW.trod enc P w base spare held n f3.type [V3 i] = some y) := by
  rcases Go.Deep.open_slice ht h with h0 | ⟨a, len, cap, m, n, D, Pl, rfl, hb, hl, hm, hmm, rfl, hx⟩
  · exact .inl h0
  right
  have hlm : len ≤ m := by rw [hmm]; split <;> omega
  have each : ∀ i, i < m → ∃ q : Value × Value × Value × Value, (w.cell? (a.add (i * 4)) = some q.1 ∧ w.cell? (a.add (i * 4 + 1)) = some q.2.1 ∧ w.cell? (a.add (i * 4 + 2)) = some q.2.2.1 ∧ w.cell? (a.add (i * 4 + 3)) = some q.2.2.2) ∧
      (∃ y, DataW.trod enc P w base spare held (n - 1) f0.type [q.1] = some y) ∧ (∃ y, DataW.trod enc P w base spare held (n - 1) f1.type [q.2.1] = some y) ∧ (∃ y, DataW.trod enc P w base spare held (n - 1) f2.type [q.2.2.1] = some y) ∧ (∃ y, DataW.trod enc P w base spare held (n - 1) f3.type [q.2.2.2] = some y) := by
    intro i hi
    obtain ⟨cs', h1, h2⟩ := hx i hi
    rw [ce] at h1
    obtain ⟨_, hlen, hcell⟩ := World.cells?_some h1
    obtain ⟨xs, k, hk, hxy, _, hxl, hf⟩ := DataW.trod_struct he h2
    have hk' : k = n - 1 := by omega
    subst hk'
    match xs, hxl, cs', hlen with
    | [y0, y1, y2, y3], _, [v0, v1, v2, v3], _ =>
      have g0 := hf 0 f0 rfl
      have g1 := hf 1 f1 rfl
      have g2 := hf 2 f2 rfl
      have g3 := hf 3 f3 rfl
      simp [o0, o1, o2, o3, c0, c1, c2, c3] at g0 g1 g2 g3
      have e0 := hcell 0 (by omega)
      have e1 := hcell 1 (by omega)
      have e2 := hcell 2 (by omega)
      have e3 := hcell 3 (by omega)
      rw [Go.Deep.add_add] at e0 e1 e2 e3
      exact ⟨(v0, v1, v2, v3), ⟨by simpa using e0, by simpa using e1, by simpa using e2, by simpa using e3⟩, ⟨_, g0⟩, ⟨_, g1⟩, ⟨_, g2⟩, ⟨_, g3⟩⟩
  obtain ⟨q, hq⟩ := Go.Deep.choose_lt each
  exact ⟨a, len, cap, m, n - 1, _, _, fun i => (q i).1, fun i => (q i).2.1, fun i => (q i).2.2.1, fun i => (q i).2.2.2, rfl, hb, hl, hm, hmm, rfl, by simp, by simp; omega, hq⟩
theorem rates_open {H : Type} {enc : TypeId × Value → H} {W : World} {r : Reach} {b0 : Nat} {v : Value} {d : DataW H} {p : List MemPlace}
    (hv : Value.okWide Try.prog W r b0 34 v) (h : DataW.Trod enc Try.prog W 0 (fun _ => true) true 34 v d p) :
    ∃ (l : List Sg) (u : Value) (day off : Int), v = .agg #[u, .int .i64 day, .int .i64 off] ∧ I64 day ∧ I64 off ∧ SegAt W u l ∧ l.length ≤ 9223372036854775807 ∧ ((l = [] ∧ u = .slice none 0 0) ∨ ∃ y1 y2 es sp b o c, d = .agg [.slice es sp, .lit y1, .lit y2] ∧ l.length ≤ es.length + sp.length ∧ u = .slice (some ⟨b, o, none⟩) l.length c) := by
  have hv0 := hv
  obtain ⟨v0, v1, v2, y0, y1, y2, n, rfl, rfl, rfl, h0, h1, h2⟩ := open_agg3 Try.underlying34 (by kernel_rfl) Try.cellsRates hv h
  obtain ⟨a, e0, rfl, w0⟩ := DataW.trod_int Try.underlying3 h1
  obtain ⟨b, e1, rfl, w1⟩ := DataW.trod_int Try.underlying3 h2
  simp at e0 e1
  subst e0 e1
  rcases open_quads Try.underlying22 Try.underlying25 Try.cellsSegment rfl rfl rfl rfl (by kernel_rfl) (by kernel_rfl) (by kernel_rfl) (by kernel_rfl) h0 with ⟨e, _⟩ | ⟨ad, len, cap, m, nn, es, sp, V0, V1, V2, V3, e, _, hl, hm, hmm, hxd, he1, he2, hx⟩
  · cases e
    exact ⟨[], _, a, b, rfl, intS_of_wf w0, intS_of_wf w1, SegAt.nil W, by simp, .inl ⟨rfl, rfl⟩⟩
  · cases e
    have hcell : Cell.okWide Try.prog W r b0 22 (.slice (some ad) len cap) := by
      unfold Value.okWide at hv0
      rw [Try.underlying34] at hv0
      obtain ⟨cs, ecs, _, ts, hts, _, hrow⟩ := hv0
      cases ecs
      obtain ⟨u, hu, hok⟩ := hrow 0 _ rfl
      have hts' : Try.prog.cellTypes Try.prog.depth 34 = some [22, 3, 3] := by kernel_rfl
      rw [hts'] at hts
      cases hts
      cases hu
      exact hok
    have hsp : ad.spot = none := by
      unfold Cell.okWide Cell.ok at hcell
      rw [Try.underlying22] at hcell
      exact hcell.2.2.2.1
    obtain ⟨bb, off, spot⟩ := ad
    simp only at hsp
    subst hsp
    simp only [if_true] at hmm
    unfold maxLen at hm
    refine ⟨(List.range len).map fun i => ⟨numOfS (V0 i), numOfS (V1 i), numOfS (V2 i), numOfS (V3 i)⟩, .slice (some ⟨bb, off, none⟩) len cap, a, b, rfl, intS_of_wf w0, intS_of_wf w1, ⟨some ⟨bb, off, none⟩, cap, by simp, by simpa using hl, fun j x hj => ?_⟩, by simp; omega, .inr ⟨_, _, es, sp, bb, off, cap, by rw [hxd], by simp; omega, by simp⟩⟩
    rw [List.getElem?_map, Option.map_eq_some_iff] at hj
    obtain ⟨i, hi, rfl⟩ := hj
    have hlt := (List.getElem?_eq_some_iff.1 hi).1
    rw [List.length_range] at hlt
    rw [List.getElem?_range hlt] at hi
    cases hi
    obtain ⟨⟨c0, c1, c2, c3⟩, ⟨_, t0⟩, ⟨_, t1⟩, ⟨_, t2⟩, ⟨_, t3⟩⟩ := hx j (by omega)
    obtain ⟨x0, f0, _, z0⟩ := DataW.trod_int Try.underlying3 t0
    obtain ⟨x1, f1, _, z1⟩ := DataW.trod_int Try.underlying3 t1
    obtain ⟨x2, f2, _, z2⟩ := DataW.trod_int Try.underlying3 t2
    obtain ⟨x3, f3, _, z3⟩ := DataW.trod_int Try.underlying3 t3
    simp at f0 f1 f2 f3
    rw [f0] at c0
    rw [f1] at c1
    rw [f2] at c2
    rw [f3] at c3
    rw [addr_add] at c0 c1 c2 c3
    refine ⟨⟨?_, ?_, ?_, ?_⟩, bb, off, rfl, ?_, ?_, ?_, ?_⟩
    · show I64 (numOfS (V0 j)); rw [f0]; exact intS_of_wf z0
    · show I64 (numOfS (V1 j)); rw [f1]; exact intS_of_wf z1
    · show I64 (numOfS (V2 j)); rw [f2]; exact intS_of_wf z2
    · show I64 (numOfS (V3 j)); rw [f3]; exact intS_of_wf z3
    · show _ = some (Value.int .i64 (numOfS (V0 j))); rw [f0]; exact c0
    · show _ = some (Value.int .i64 (numOfS (V1 j))); rw [f1]; exact c1
    · show _ = some (Value.int .i64 (numOfS (V2 j))); rw [f2]; exact c2
    · show _ = some (Value.int .i64 (numOfS (V3 j))); rw [f3]; exact c3
theorem rates_len {H : Type} {ts : List TypeId} {ds : List (DataW H)} (h : (DataW.weightsEach Try.prog ts ds).all (· ≤ reachBytes) = true) {j : Nat} {d : DataW H} {l : List Sg} {u : Value} (ht : ts[j]? = some 34) (hd : ds[j]? = some d)
    (hl : (l = [] ∧ u = .slice none 0 0) ∨ ∃ y1 y2 es sp b o c, d = .agg [.slice es sp, .lit y1, .lit y2] ∧ l.length ≤ es.length + sp.length ∧ u = .slice (some ⟨b, o, none⟩) l.length c) : l.length * 32 ≤ 140737488351232 := by
  rcases hl with ⟨rfl, _⟩ | ⟨y1, y2, es, sp, _, _, _, rfl, hl, _⟩
  · simp
  · have := List.all_eq_true.1 h _ (DataW.weights_mem_each ht hd ((es.length + sp.length) * 32) (by
      simp [DataW.weights, DataW.weightsEach, Try.underlying34, Try.underlying22, Try.bytesSegment]))
    simp only [decide_eq_true_eq] at this
    unfold reachBytes at this
    omega
theorem rates_form {H : Type} {d : DataW H} {l : List Sg} {u : Value}
    (hl : (l = [] ∧ u = .slice none 0 0) ∨ ∃ y1 y2 es sp b o c, d = .agg [.slice es sp, .lit y1, .lit y2] ∧ l.length ≤ es.length + sp.length ∧ u = .slice (some ⟨b, o, none⟩) l.length c) : (l = [] ∧ u = .slice none 0 0) ∨ ∃ b o c, u = .slice (some ⟨b, o, none⟩) l.length c := by
  rcases hl with h | ⟨_, _, _, _, b, o, c, _, _, h⟩
  · exact .inl h
  · exact .inr ⟨b, o, c, h⟩
theorem rates_shut {H : Type} {enc : TypeId × Value → H} {W W' : World} {v : Value} {d : DataW H} {p : List MemPlace} (h : DataW.Trod enc Try.prog W 0 (fun _ => true) true 34 v d p) (hb : Below W.heap.size W W') :
    DataW.Trod enc Try.prog W' 0 (fun b => decide (b < W.heap.size)) true 34 v d p := by
  have h' := h
  obtain ⟨fuel, hf⟩ := h'
  exact Below.trod Try.laidOutS (by kernel_rfl) (of_decide_eq_true (by kernel_rfl)) h hb (DataW.trod_lt fuel _ _ _ hf)
end Go.Proofs.Ytokpneglldfmjaa
