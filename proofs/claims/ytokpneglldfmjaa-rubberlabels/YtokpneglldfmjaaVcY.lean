/-
  The small logic: bits (and, or, xor, shifts), arrays of the call's own (an element's address, a load, a store at any index). No conditions.
-/
import Derived.Test.YtokpneglldfmjaaVcX
import Derived.Laws.BitsAllLaws
import Derived.Laws.Shifts
import Derived.Laws.OwnMore
import Derived.Laws.Slices
import Derived.Laws.StructEq
namespace Go.Proofs.Ytokpneglldfmjaa
open Go.RowKit

section
variable {P : Program} {B : Nat} {lax : Bool} {ops : Array Oper} {Rs : Nat → Value → World → Prop} {K : St → World → Prop} {i : Nat} {rest : List Nat} {st : St} {w : World}
variable {d : Nat} {ty : TypeId} {pos : String} {aft : Array Edge} {g : Option (Nat × Bool)}
/-- A store into a row that is the call's own (adopted), at any place. -/
theorem s_storeR {t : TypeId} {x y : Operand} {b off : Nat} {cs cs' : List Value} {v : Value} (q : Nat) (ho : ops[i]? = some ⟨none, .store t x y, ty, pos, aft, g⟩) (hg : gok ops st g = true) (hk : known st ⟨none, .store t x y, ty, pos, aft, g⟩ = true) (hx : st.ev x = .v (.pointer (some ⟨b, off, none⟩))) (hy : st.ev y = .v v) (hm : st.mem q = some (b, cs)) (hw : writeOf P t cs off v = some cs')
    (h : ∀ w', Stored b w w' → Var w b cs → vOrd P B lax ops Rs K rest (st.set q b cs') w') : vOrd P B lax ops Rs K (i :: rest) st w := by
  have ey : st.rho y = v := by rw [St.rho, hy]; rfl
  exact vOrd_op ho hg ⟨hk, rfl, q, b, off, cs, cs', by rw [St.rho, hx]; rfl, hm, by rw [ey]; exact hw, rfl, h⟩
end
section
variable {P : Program} {n : Nat} {hol : List Nat} {w0 w : World} {st : St} {K : Exit → St → World → Prop} {c : Code}
/-- A row that the call has laid is taken as a variable of its own. -/
theorem Wp.adopt (h : Nat) {b : Nat} {cs : List Value} (hv : Var w b cs) (hb : w0.heap.size ≤ b) (hm : st.mem h = none) (hne : ∀ g d ds, st.mem g = some (d, ds) → d ≠ b) (k : Wp P n hol w0 c (st.set h b cs) w K) : Wp P n hol w0 c st w K := by
  intro a H
  have key : ∀ g d ds, (st.set h b cs).mem g = some (d, ds) → (g = h ∧ d = b ∧ ds = cs) ∨ (g ≠ h ∧ st.mem g = some (d, ds)) := by
    intro g d ds e
    by_cases q : g = h
    · subst q
      simp only [St.set, upd_same, Option.some.injEq, Prod.mk.injEq] at e
      exact .inl ⟨rfl, e.1.symm, e.2.symm⟩
    · simp only [St.set, upd_ne _ _ q] at e
      exact .inr ⟨q, e⟩
  refine k a ⟨H.size, H.defers, H.env, fun g d ds e => ?_, fun g d ds e => ?_, fun g d ds g' d' ds' e e' hn => ?_, H.old⟩
  · rcases key g d ds e with ⟨rfl, rfl, rfl⟩ | ⟨_, q⟩
    · exact hv
    · exact H.mem g d ds q
  · rcases key g d ds e with ⟨rfl, rfl, rfl⟩ | ⟨_, q⟩
    · exact .inl hb
    · exact H.own g d ds q
  · rcases key g d ds e with ⟨rfl, rfl, rfl⟩ | ⟨_, q⟩
    · rcases key g' d' ds' e' with ⟨rfl, rfl, rfl⟩ | ⟨_, q'⟩
      · exact absurd rfl hn
      · exact fun z => hne g' d' ds' q' z.symm
    · rcases key g' d' ds' e' with ⟨rfl, rfl, rfl⟩ | ⟨_, q'⟩
      · exact hne g d ds q
      · exact H.inj g d ds g' d' ds' q q' hn
/-- What lies in a variable of the call's own. -/
theorem Wp.var {h b : Nat} {cs : List Value} (hm : st.mem h = some (b, cs)) (k : Var w b cs → Wp P n hol w0 c st w K) : Wp P n hol w0 c st w K := fun a H => k (H.mem h b cs hm) a H
end
/-! ### Blocks of the call's own variables -/
def AllMem (p : Nat → Prop) (st : St) : Prop := ∀ h b cs, st.mem h = some (b, cs) → p b
theorem AllMem.put {p : Nat → Prop} {st : St} {d : Option Nat} {x : SV} (h : AllMem p st) : AllMem p (st.put d x) := fun g b cs e => h g b cs (by rw [put_mem] at e; exact e)
theorem AllMem.set {p : Nat → Prop} {st : St} {d b : Nat} {cs : List Value} (h : AllMem p st) (hb : p b) : AllMem p (st.set d b cs) := fun g c ds e => by
  by_cases q : g = d
  · subst q; simp only [St.set, upd_same, Option.some.injEq, Prod.mk.injEq] at e; rw [← e.1]; exact hb
  · simp only [St.set, upd_ne _ _ q] at e; exact h g c ds e
theorem AllMem.new {p : Nat → Prop} {st : St} {d b : Nat} {cs : List Value} (h : AllMem p st) (hb : p b) : AllMem p (st.new d b cs) := fun g c ds e => by
  by_cases q : g = d
  · subst q; simp only [St.new, upd_same, Option.some.injEq, Prod.mk.injEq] at e; rw [← e.1]; exact hb
  · simp only [St.new, upd_ne _ _ q] at e; exact h g c ds e
def AllL (p : Nat → Prop) : List (Nat × Nat × List Value) → Prop
  | [] => True
  | x :: l => p x.2.1 ∧ AllL p l
theorem AllL.mem {p : Nat → Prop} : ∀ {l : List (Nat × Nat × List Value)}, AllL p l → ∀ x ∈ l, p x.2.1
  | [], _, x, h => by cases h
  | y :: l, hl, x, h => by
    rcases List.mem_cons.1 h with rfl | h
    · exact hl.1
    · exact AllL.mem hl.2 x h
theorem AllMem.of {p : Nat → Prop} {env : List (Nat × SV)} {mem : List (Nat × Nat × List Value)} (h : AllL p mem) : AllMem p (St.of env mem) := fun g b cs e => h.mem (g, b, cs) (lookup_mem e)
theorem AllMem.args {p : Nat → Prop} {l : List Value} : AllMem p (St.args l) := fun _ _ _ e => by cases e

/-! ### Bytes that are handed in -/
def BytesAt (w : World) (v : Value) (l : List UInt8) : Prop :=
  (∃ b off c, v = .slice (some ⟨b, off, none⟩) l.length c ∧ l.length ≤ c ∧ ∀ j x, l[j]? = some x → w.cell? ⟨b, off + j, none⟩ = some (.int .u8 x.toNat)) ∨ (v = .slice none 0 0 ∧ l = [])
theorem BytesAt.later {w w' : World} {v : Value} {l : List UInt8} (h : BytesAt w v l) (k : Later w w') : BytesAt w' v l := by
  rcases h with ⟨b, off, c, h1, h3, h2⟩ | h
  · exact .inl ⟨b, off, c, h1, h3, fun j x hj => (World.cell?_of_block (k.block b (World.block_lt_of_cell? w _ (h2 j x hj)))).trans (h2 j x hj)⟩
  · exact .inr h
theorem BytesAt.slice {w : World} {v : Value} {l : List UInt8} (h : BytesAt w v l) : ∃ a c, v = .slice a l.length c := by
  rcases h with ⟨b, off, c, h1, _, _⟩ | ⟨h1, h2⟩
  · exact ⟨_, _, h1⟩
  · subst h2; exact ⟨_, _, h1⟩
section
variable {P : Program} {B : Nat} {lax : Bool} {ops : Array Oper} {Rs : Nat → Value → World → Prop} {K : St → World → Prop} {i : Nat} {rest : List Nat} {st : St} {w : World}
variable {d : Nat} {ty : TypeId} {pos : String} {aft : Array Edge} {g : Option (Nat × Bool)}
theorem x_from {t e : TypeId} {x y : Operand} {b off n c sz : Nat} {k : IntKind} {j : Int} (ho : ops[i]? = some ⟨some d, .slice t x (some y) none none, ty, pos, aft, g⟩) (hg : gok ops st g = true) (hk : known st ⟨some d, .slice t x (some y) none none, ty, pos, aft, g⟩ = true) (hx : st.ev x = .v (.slice (some ⟨b, off, none⟩) n c)) (hy : st.ev y = .v (.int k j)) (hu : P.underlying t = some (.slice e)) (hs : (P.info? e).map (·.size) = some sz) (h0 : 0 ≤ j) (h1 : j ≤ n) (h2 : n ≤ c)
    (h : ∀ off', (j < n → off' = off + j.toNat * sz) → vOrd P B lax ops Rs K rest (st.put (some d) (.v (.slice (some ⟨b, off', none⟩) (n - j.toNat) (c - j.toNat)))) w) : vOrd P B lax ops Rs K (i :: rest) st w := by
  have ex : st.rho x = .slice (some ⟨b, off, none⟩) n c := by rw [St.rho, hx]; rfl
  have ey : st.rho y = .int k j := by rw [St.rho, hy]; rfl
  cases hp : P.info? e with
  | none => rw [hp] at hs; cases hs
  | some ii =>
    rw [hp] at hs
    simp only [Option.map_some, Option.some.injEq] at hs
    by_cases q : c = j.toNat
    · refine s_val ho hg rfl hk (fun w => ?_) (h off (fun q' => by omega))
      simp [execOp, ex, ey, Instr.sliceAt, Instr.slice, Instr.sliceBounds, run_sliceBound w k j n _ h0 h1, run_underlying hu w, sizeOf, typeInfo, hp, q]
    · refine s_val ho hg rfl hk (fun w => ?_) (h (off + j.toNat * sz) (fun _ => rfl))
      simp [execOp, ex, ey, Instr.sliceAt, Instr.slice, Instr.sliceBounds, run_sliceBound w k j n _ h0 h1, run_underlying hu w, sizeOf, typeInfo, hp, q, addr_add, hs]
end
end Go.Proofs.Ytokpneglldfmjaa
