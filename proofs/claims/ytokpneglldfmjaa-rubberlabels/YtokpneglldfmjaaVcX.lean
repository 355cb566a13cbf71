/-
  The small logic: rows of single cells (a store into one, a load from one), slices of the call's own, append, bytes as a string. No conditions.
-/
import Derived.Test.YtokpneglldfmjaaVcW
import Derived.Laws.Tables
namespace Go.Proofs.Ytokpneglldfmjaa
open Go.RowKit

theorem grown_of_stored {b : Nat} {w w' : World} (h : Stored b w w') : w.grownBy w' (some b) := ⟨h.os, h.tape, h.output, by rw [h.size]; exact Nat.le_refl _, fun k _ hne => h.block k (fun e => hne (by rw [e]))⟩
theorem own_later {w w' : World} {base : Nat} {e : TypeId} {sz : Nat} {v : Value} {n : Nat} {xs : List Value} (h : w.ownsRow base e sz v n xs) (l : Later w w') : w'.ownsRow base e sz v n xs := by
  refine h.kept (grown_of_later l none) ?_
  cases c : v.ownBlock with
  | none => exact .inl rfl
  | some k => exact .inr (by simp)
theorem own_of_row {w : World} {base c : Nat} {e : TypeId} {xs : List Value} (h : RowIs w c e xs) (hb : base ≤ c) {n sz : Nat} (hn : xs.length = n * sz) (hm : n ≤ 9223372036854775807) : w.ownsRow base e sz (.slice (some ⟨c, 0, none⟩) n n) n xs :=
  ⟨hn, .inr ⟨c, n, xs.toArray, rfl, hb, h, Nat.le_refl _, by simp only [maxLen]; omega, by simpa using hn, by rw [List.take_of_length_le (by simp; omega)]⟩⟩
/-- A slice of the call's own, laid in the call that began at base. -/
def bytesV (l : List UInt8) : List Value := l.map fun b => .int .u8 b.toNat
theorem bytesV_len (l : List UInt8) : (bytesV l).length = l.length := by simp [bytesV]
def partsL (st : St) : List (Nat × Operand) → Option (List (Nat × Value))
  | [] => some []
  | (n, x) :: r =>
    match st.ev x, partsL st r with
    | Sum.inl v, some l => some ((n, v) :: l)
    | Sum.inr (_, b, off), some l => some ((n, .pointer (some ⟨b, off, none⟩)) :: l)
    | _, none => none
theorem partsL_eq {st : St} : ∀ {xs : List (Nat × Operand)} {l : List (Nat × Value)}, partsL st xs = some l → (xs.map fun x => (x.1, st.rho x.2)) = l
  | [], _, h => by simp only [partsL, Option.some.injEq] at h; subst h; rfl
  | (n, x) :: r, l', h => by
    unfold partsL at h
    split at h
    · rename_i v l hx hl
      rw [Option.some.injEq] at h
      rw [List.map_cons, partsL_eq hl, ← h]; simp only [St.rho, hx]; rfl
    · rename_i g b off l hx hl
      rw [Option.some.injEq] at h
      rw [List.map_cons, partsL_eq hl, ← h]; simp only [St.rho, hx]; rfl
    · cases h
def overL : List Value → List Value → List Value
  | cs, [] => cs
  | _ :: cs, v :: vs => v :: overL cs vs
  | [], _ => []
def putL : Nat → List Value → List Value → List Value
  | 0, cs, vs => overL cs vs
  | n + 1, c :: cs, vs => c :: putL n cs vs
  | _ + 1, [], _ => []
def fillL (off : Nat → Option Nat) : List Value → List (Nat × Value) → Option (List Value)
  | cs, [] => forceL cs
  | cs, (i, v) :: r =>
    match off i with
    | some o => fillL off (putL o cs v.cells.toList) r
    | none => none
/-- A struct's cells, laid out; that they are right is asked apart. -/
def builtL (P : Program) (t : TypeId) (ps : List (Nat × Value)) : Option (List Value) :=
  match P.underlying t, zeroOf P t with
  | some (.struct fields), some z => fillL (fun i => (fields[i]?).map (·.offset)) z.cells.toList ps
  | some (.array _ e), some z => fillL (fun i => (P.info? e).map (i * ·.size)) z.cells.toList ps
  | _, _ => none
section
variable {P : Program} {B : Nat} {lax : Bool} {ops : Array Oper} {Rs : Nat → Value → World → Prop} {K : St → World → Prop} {i : Nat} {rest : List Nat} {st : St} {w : World}
variable {d : Nat} {ty : TypeId} {pos : String} {aft : Array Edge} {g : Option (Nat × Bool)}
/-- A struct, laid out of its parts. -/
theorem s_build {t : TypeId} {parts : Array (Nat × Operand)} {ps : List (Nat × Value)} {cs : List Value} (ho : ops[i]? = some ⟨some d, .build t parts, ty, pos, aft, g⟩) (hg : gok ops st g = true) (hk : known st ⟨some d, .build t parts, ty, pos, aft, g⟩ = true) (hp : partsL st parts.toList = some ps) (_hb : builtL P t ps = some cs) (hc : P.built t ps = some cs.toArray)
    (h : vOrd P B lax ops Rs K rest (st.put (some d) (.v (.agg cs.toArray))) w) : vOrd P B lax ops Rs K (i :: rest) st w := by
  refine s_val ho hg rfl hk (fun w => ?_) h
  have e1 := partsL_eq hp
  have hr := run_build (P := P) w t (parts.map fun (x : Nat × Operand) => (x.1, st.rho x.2)) cs.toArray (by
    rw [← hc, ← e1]; simp)
  simp only [execOp]
  simp [hr]
/-- A load from a cell that is known. -/
theorem x_ldc {t : TypeId} {x : Operand} {b off : Nat} {v : Value} (ho : ops[i]? = some ⟨some d, .load t x, ty, pos, aft, g⟩) (hg : gok ops st g = true) (hk : known st ⟨some d, .load t x, ty, pos, aft, g⟩ = true) (hx : st.ev x = .v (.pointer (some ⟨b, off, none⟩))) (ht : isAggT P t = some false) (hc : w.cell? ⟨b, off, none⟩ = some v)
    (h : vOrd P B lax ops Rs K rest (st.put (some d) (.v v)) w) : vOrd P B lax ops Rs K (i :: rest) st w := by
  refine vOrd_op ho hg ⟨hk, rfl, by
    simp only [hx]
    refine ⟨v, fun w' l => ?_, h⟩
    have ex : st.rho x = .pointer (some ⟨b, off, none⟩) := by rw [St.rho, hx]; rfl
    have hc' : w'.cell? ⟨b, off, none⟩ = some v := (World.cell?_of_block (l.block b (World.block_lt_of_cell? w _ hc))).trans hc
    have hagg : (isAgg t).run P w' = .ok false w' := by
      unfold isAggT at ht
      cases hu : P.underlying t with
      | none => rw [hu] at ht; cases ht
      | some de =>
        rw [hu, Option.map_some, Option.some.injEq] at ht
        unfold isAgg
        rw [Sem.run_bind, run_underlying hu w']
        cases de <;> simp [aggD] at ht ⊢
    simp [execOp, ex, Instr.loadAt, Instr.sureAddr, loadVar, Sem.run_bind, hagg, hc']⟩
theorem run_len_slice {x : Operand} {t e : TypeId} {a : Option Addr} {l c : Nat} (hx : st.ev x = .v (.slice a l c)) (hu : P.underlying t = some (.slice e)) (w : World) : (execOp st.rho ⟨some d, .call ⟨.builtin .len, #[x], #[t]⟩, ty, pos, aft, g⟩).run P w = .ok (.value (.int .i64 l)) w := by
  have ex : st.rho x = .slice a l c := by rw [St.rho, hx]; rfl
  simp [execOp, ex, resolve, invoke, builtin, Builtin.len_, run_underlying hu w, goInt]
/-- len of a slice. -/
theorem x_len {x : Operand} {t e : TypeId} {a : Option Addr} {l c : Nat} (ho : ops[i]? = some ⟨some d, .call ⟨.builtin .len, #[x], #[t]⟩, ty, pos, aft, g⟩) (hg : gok ops st g = true) (hk : known st ⟨some d, .call ⟨.builtin .len, #[x], #[t]⟩, ty, pos, aft, g⟩ = true) (hx : st.ev x = .v (.slice a l c)) (hu : P.underlying t = some (.slice e))
    (h : vOrd P B true ops Rs K rest (st.put (some d) (.v (.int .i64 l))) w) : vOrd P B true ops Rs K (i :: rest) st w :=
  s_run ho hg hk rfl (run_len_slice hx hu w) h
end
theorem Wp.old {P : Program} {n : Nat} {w0 w : World} {st : St} {K : Exit → St → World → Prop} {c : Code} (h : Later w0 w → Wp P n (holO none) w0 c st w K) : Wp P n (holO none) w0 c st w K := fun a H => h H.old.later a H
/-- A number that an int holds. -/
def I64 (n : Int) : Prop := -9223372036854775808 ≤ n ∧ n ≤ 9223372036854775807
end Go.Proofs.Ytokpneglldfmjaa
