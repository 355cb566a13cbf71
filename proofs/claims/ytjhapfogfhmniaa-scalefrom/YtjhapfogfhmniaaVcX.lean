/-
 The small logic: rows of single cells (a store into one, a load from one), slices of the call's own, append, bytes as a string. No conditions.
-/
import Derived.Test.YtjhapfogfhmniaaVcW
import Derived.Laws.Tables
namespace Go.Proofs.Ytjhapfogfhmniaa
open Go.RowKit

def partsL (st : St) : List (Nat × Operand) → Option (List (Nat × Value))
 | [] => some []
 | (n, x) :: r =>
  match st.ev x, partsL st r with
  | Sum.inl v, some l => some ((n, v) :: l)
  | Sum.inr (_, b, off), some l => some ((n, .pointer (some ⟨b, off, none⟩)) :: l)
  | _, none => none
theorem partsL_eq {st : St} : ∀ {xs : List (Nat × Operand)} {l : List (Nat × Value)}, partsL st xs = some l → (xs.map fun x => (x.1, st.rho x.2)) = l
 | [], _, h => by simp only [partsL, Option.some.injEq] at h; subst h; rfl
 | (n, x) :: r, l', h => by
  unfold partsL at h
  split at h
  ·rename_i v l hx hl
   rw [Option.some.injEq] at h
   rw [List.map_cons, partsL_eq hl, ← h]; simp only [St.rho, hx]; rfl
  ·rename_i g b off l hx hl
   rw [Option.some.injEq] at h
   rw [List.map_cons, partsL_eq hl, ← h]; simp only [St.rho, hx]; rfl
  ·cases h
def overL : List Value → List Value → List Value
 | cs, [] => cs
 | _ :: cs, v :: vs => v :: overL cs vs
 | [], _ => []
def putL : Nat → List Value → List Value → List Value
 | 0, cs, vs => overL cs vs
 | n + 1, c :: cs, vs => c :: putL n cs vs
 | _ + 1, [], _ => []
def fillL (off : Nat → Option Nat) : List Value → List (Nat × Value) → Option (List Value)
 | cs, [] => forceL cs
 | cs, (i, v) :: r =>
  match off i with
  | some o => fillL off (putL o cs v.cells.toList) r
  | none => none
/-- A struct's cells, laid out; that they are right is asked apart. -/
def builtL (P : Program) (t : TypeId) (ps : List (Nat × Value)) : Option (List Value) :=
 match P.underlying t, zeroOf P t with
 | some (.struct fields), some z => fillL (fun i => (fields[i]?).map (·.offset)) z.cells.toList ps
 | some (.array _ e), some z => fillL (fun i => (P.info? e).map (i * ·.size)) z.cells.toList ps
 | _, _ => none
section
variable {P : Program} {B : Nat} {lax : Bool} {ops : Array Oper} {Rs : Nat → Value → World → Prop} {K : St → World → Prop} {i : Nat} {rest : List Nat} {st : St} {w : World}
variable {d : Nat} {ty : TypeId} {pos : String} {aft : Array Edge} {g : Option (Nat × Bool)}
/-- A struct, laid out of its parts. -/
theorem s_build {t : TypeId} {parts : Array (Nat × Operand)} {ps : List (Nat × Value)} {cs : List Value} (ho : ops[i]? = some ⟨some d, .build t parts, ty, pos, aft, g⟩) (hg : gok ops st g = true) (hk : known st ⟨some d, .build t parts, ty, pos, aft, g⟩ = true) (hp : partsL st parts.toList = some ps) (_hb : builtL P t ps = some cs) (hc : P.built t ps = some cs.toArray)
  (h : vOrd P B lax ops Rs K rest (st.put (some d) (.v (.agg cs.toArray))) w) : vOrd P B lax ops Rs K (i :: rest) st w := by
 refine s_val ho hg rfl hk (fun w => ?_) h
 have e1 := partsL_eq hp
 have hr := run_build (P := P) w t (parts.map fun (x : Nat × Operand) => (x.1, st.rho x.2)) cs.toArray (by
  rw [← hc, ← e1]; simp)
 simp only [execOp]
 simp [hr]
end
theorem Wp.old {P : Program} {n : Nat} {w0 w : World} {st : St} {K : Exit → St → World → Prop} {c : Code} (h : Later w0 w → Wp P n (holO none) w0 c st w K) : Wp P n (holO none) w0 c st w K := fun a H => h H.old.later a H
/-- A number that an int holds. -/
def I64 (n : Int) : Prop := -9223372036854775808 ≤ n ∧ n ≤ 9223372036854775807
/-! ### Short forms -/
section
variable {P : Program} {B : Nat} {lax : Bool} {ops : Array Oper} {Rs : Nat → Value → World → Prop} {K : St → World → Prop} {i : Nat} {rest : List Nat} {st : St} {w : World}
variable {d : Nat} {ty : TypeId} {pos : String} {aft : Array Edge} {g : Option (Nat × Bool)}
theorem sB {t : TypeId} {parts : Array (Nat × Operand)} {ps : List (Nat × Value)} {cs : List Value} (h : vOrd P B lax ops Rs K rest (st.put (some d) (.v (.agg cs.toArray))) w) (ho : ops[i]? = some ⟨some d, .build t parts, ty, pos, aft, g⟩ := by exact rfl) (hg : gok ops st g = true := by exact rfl) (hk : known st ⟨some d, .build t parts, ty, pos, aft, g⟩ = true := by exact rfl) (hp : partsL st parts.toList = some ps := by exact rfl) (_hb : builtL P t ps = some cs := by exact rfl) (hc : P.built t ps = some cs.toArray := by kernel_rfl) : vOrd P B lax ops Rs K (i :: rest) st w := s_build ho hg hk hp _hb hc h
end
end Go.Proofs.Ytjhapfogfhmniaa
