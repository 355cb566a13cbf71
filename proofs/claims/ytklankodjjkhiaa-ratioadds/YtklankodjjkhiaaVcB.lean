/-
  Each operation in the small logic ('vOp'), with its guard ('vG'), and that the machine does as it says. No conditions.
-/
import Derived.Test.YtklankodjjkhiaaVcA
namespace Go.Proofs.Ytklankodjjkhiaa
open Go.RowKit

def zeroOf (P : Program) (t : TypeId) : Option Value := (P.info? t).bind (·.zero)
def aggD : TypeDesc → Bool
  | .struct _ | .array _ _ => true
  | _ => false
def isAggT (P : Program) (t : TypeId) : Option Bool := (P.underlying t).map aggD
/-- What a variable of type t, that lies at off in these cells, reads. -/
def readOf (P : Program) (t : TypeId) (cs : List Value) (off : Nat) : Option Value :=
  match isAggT P t with
  | some true =>
    match P.info? t with
    | some i => if off + i.size ≤ cs.length then some (.agg ((cs.drop off).take i.size).toArray) else none
    | none => none
  | some false => cs[off]?
  | none => none
/-- The cells behind a store. -/
def writeOf (P : Program) (t : TypeId) (cs : List Value) (off : Nat) (v : Value) : Option (List Value) :=
  match P.info? t with
  | some i =>
    if v.cells.size = i.size ∧ off + i.size ≤ cs.length ∧ v.cells.toList.all (·.oneCell') = true then
      (if off = 0 ∧ i.size = cs.length then some v.cells.toList else some (cs.take off ++ v.cells.toList ++ cs.drop (off + i.size)))
    else none
  | none => none
/-- What is known of the value that an operation yields: an address of a variable of the call's own is known as such. -/
def resSV (st : St) (o : Oper) (v : Value) : SV :=
  match o.op with
  | .move x | .assign x => st.ev x
  | .fieldAddr _ x _ =>
    match st.ev x, v with
    | .p h _ _, .pointer (some ⟨b, off, none⟩) => .p h b off
    | _, _ => .v v
  | _ => .v v
/-- An operation runs at w to a value and a later world that R holds of. -/
def RunsTo (P : Program) (o : Oper) (st : St) (w : World) (R : Value → World → Prop) : Prop :=
  match (execOp st.rho o).run P w with
  | .ok (.value v) w' => R v w' ∧ Later w w'
  | .ok (.enter f args) w' => Calls P f args w' fun e w'' => ∃ v, e = .returned v ∧ R v w'' ∧ Later w w''
  | .ok (.row row args) w' => Rows P row args w' fun v w'' => R v w'' ∧ Later w w''
  | _ => False
def vOp (P : Program) (R : Value → World → Prop) (o : Oper) (st : St) (w : World) (K : St → World → Prop) : Prop :=
  known st o = true ∧ noSel o = true ∧
  match o.op with
  | .alloc t => ∃ d z, o.dst = some d ∧ st.mem d = none ∧ zeroOf P t = some z ∧ ∀ b w', w.heap.size ≤ b → Later w w' → K (st.new d b z.cells.toList) w'
  | .box _ x => ∃ d, o.dst = some d ∧ st.mem d = none ∧ ∀ b w', w.heap.size ≤ b → Later w w' → K (st.new d b (st.rho x).cells.toList) w'
  | .load t x =>
    match st.ev x with
    | .p h b off => ∃ cs v, st.mem h = some (b, cs) ∧ readOf P t cs off = some v ∧ K (st.put o.dst (.v v)) w
    | .v _ => ∃ v, (∀ w', Later w w' → (execOp st.rho o).run P w' = .ok (.value v) w') ∧ K (st.put o.dst (.v v)) w
  | .store t x y => ∃ h b off cs cs', st.ev x = .p h b off ∧ st.mem h = some (b, cs) ∧ writeOf P t cs off (st.rho y) = some cs' ∧ o.dst = none ∧ ∀ w', Stored b w w' → Var w b cs → K (st.set h b cs') w'
  | .call _ | .buildSlice .. | .makeSlice .. => (∀ wc, Later w wc → RunsTo P o st wc R) ∧ ∀ v wc w1 w2, Later w wc → Later wc w1 → R v w1 → Later w1 w2 → K (st.put o.dst (.v v)) w2
  | _ => ∃ v, (∀ w, (execOp st.rho o).run P w = .ok (.value v) w) ∧ K (st.put o.dst (resSV st o v)) w
def vG (P : Program) (ops : Array Oper) (R : Value → World → Prop) (o : Oper) (st : St) (w : World) (K : St → World → Prop) : Prop :=
  match o.guard with
  | none => vOp P R o st w K
  | some (g, t) => ∃ d x, (ops[g]?).bind (·.dst) = some d ∧ st.env d = some (.v x) ∧ (x = .bool t → vOp P R o st w K) ∧ (x ≠ .bool t → K (st.put o.dst (.v undef)) w)

section
variable {P : Program} {n : Nat} {w0 : World} {st : St} {a : Act} {w : World}
theorem addr_add (b off j : Nat) : (⟨b, off, none⟩ : Addr).add j = ⟨b, off + j, none⟩ := by unfold Addr.add; split <;> simp_all
theorem run_readOf {t : TypeId} {b off : Nat} {cs : List Value} {v : Value} (hv : Var w b cs) (h : readOf P t cs off = some v) : (loadVar t ⟨b, off, none⟩).run P w = .ok v w := by
  obtain ⟨ty, hg⟩ := hv
  have hc : ∀ j, w.cell? ⟨b, j, none⟩ = cs[j]? := fun j => by rw [cell_of_row w b j cs.toArray ty (0, 0) hg]; simp
  unfold readOf isAggT at h
  cases hu : P.underlying t with
  | none => simp [hu] at h
  | some d =>
    have hagg : (isAgg t).run P w = .ok (aggD d) w := by
      unfold isAgg
      rw [Sem.run_bind, run_underlying hu w]
      cases d <;> simp [aggD]
    simp only [hu, Option.map_some] at h
    cases hd : aggD d with
    | false =>
      simp only [hd] at h
      have hcell := hc off
      rw [h] at hcell
      simp [loadVar, Sem.run_bind, hagg, hd, hcell]
    | true =>
      simp only [hd] at h
      cases hi : P.info? t with
      | none => simp [hi] at h
      | some i =>
        simp only [hi] at h
        split at h
        · rename_i hle
          simp only [Option.some.injEq] at h
          subst h
          have hl : ((cs.drop off).take i.size).length = i.size := by simp; omega
          have hload := run_loadCells_list (P := P) w ⟨b, off, none⟩ ((cs.drop off).take i.size) (fun j v hj => by
            rw [addr_add, hc]
            have : j < i.size := by have := (List.getElem?_eq_some_iff.1 hj).1; omega
            rw [List.getElem?_take_of_lt this, List.getElem?_drop] at hj
            exact hj)
          rw [hl] at hload
          simp [loadVar, Sem.run_bind, hagg, hd, sizeOf, typeInfo, hi, hload]
        · cases h
theorem Stored.setRow (b : Nat) (w : World) (cs : Array Value) : Stored b w (w.setRow b cs) :=
  ⟨rfl, rfl, rfl, by simp [World.setRow], fun k hk => by simp [World.setRow, Array.getElem?_modify, Ne.symm hk]⟩
theorem run_writeOf {t : TypeId} {b off : Nat} {cs cs' : List Value} {v : Value} (hv : Var w b cs) (h : writeOf P t cs off v = some cs') :
    ∃ w', (storeVar t ⟨b, off, none⟩ v).run P w = .ok () w' ∧ Stored b w w' ∧ Var w' b cs' := by
  obtain ⟨ty, hg⟩ := hv
  unfold writeOf at h
  cases hi : P.info? t with
  | none => simp [hi] at h
  | some i =>
    simp only [hi] at h
    split at h
    · rename_i hc
      obtain ⟨hs, hle, hone⟩ := hc
      have hst := run_storeCells_at (P := P) b off ty v.cells.toList 0 cs.toArray w hg (by simp; omega) (fun x hx => List.all_eq_true.1 hone x hx)
      simp only [Nat.add_zero, Array.length_toList] at hst
      refine ⟨_, ?_, Stored.setRow b w (cs.take off ++ v.cells.toList ++ cs.drop (off + v.cells.size)).toArray, ty, ?_⟩
      · simp [storeVar, Sem.run_bind, sizeOf, typeInfo, hi, hs, hst]
      · have hw := setRow_heap w b cs.toArray (cs.take off ++ v.cells.toList ++ cs.drop (off + v.cells.size)).toArray ty (0, 0) hg
        rw [hw]
        split at h
        · rename_i hz
          simp only [Option.some.injEq] at h
          subst h
          rw [hz.1, List.take_zero, List.nil_append, hs, List.drop_of_length_le (by omega), List.append_nil]
        · simp only [Option.some.injEq] at h
          subst h
          rw [hs]
    · cases h
end
end Go.Proofs.Ytklankodjjkhiaa
