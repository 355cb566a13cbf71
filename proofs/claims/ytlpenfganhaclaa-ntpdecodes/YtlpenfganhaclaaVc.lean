/-
  A small logic of our own for walking a function of plain variables: what the walk knows of the frame and of the call's own variables ('St'), each operation in it, regions in an order that serves for all, the code's own rules, and that what is shown there holds of the machine. No conditions; no program is spoken of.
-/
import Derived.WalkKit
import Derived.WalkSpells
import Derived.WalkLawsBesides
import Derived.Handy
import Derived.Laws.CopyRow
import Derived.Laws.Rows
import Derived.Orders
import Derived.Laws.MakeOwn
import Derived.Laws.AppendOwn
namespace Go.Proofs.Ytlpenfganhaclaa
open Go.RowKit

/-! ### Worlds -/
/-- A later world: what was there is as it was. -/
def Later (w w' : World) : Prop := Below w.heap.size w w'
theorem Later.refl (w : World) : Later w w := Below.refl _ _
theorem Later.trans {a b c : World} (h : Later a b) (k : Later b c) : Later a c := Below.trans h (Below.mono k h.size)
theorem Later.alloc (w : World) (o : Obj) : Later w (w.alloc o) := (Below.refl _ _).alloc (Nat.le_refl _) o
/-- Only block b has turned. -/
structure Stored (b : Nat) (w w' : World) : Prop where
  os : w'.os = w.os
  tape : w'.tape = w.tape
  output : w'.output = w.output
  size : w'.heap.size = w.heap.size
  block : ∀ k, k ≠ b → w'.heap[k]? = w.heap[k]?
  ty : ∀ cs t fr, w.heap[b]? = some (.cells cs t fr) → ∃ cs', w'.heap[b]? = some (.cells cs' t fr)
theorem Stored.below {b : Nat} {w0 w w' : World} (h : Stored b w w') (k : Below w0.heap.size w0 w) (hb : w0.heap.size ≤ b) : Below w0.heap.size w0 w' :=
  k.trans ⟨h.os, h.tape, h.output, Nat.le_of_eq h.size.symm, fun i hi => h.block i (by omega)⟩
theorem Stored.cell {b : Nat} {w w' : World} (h : Stored b w w') {p : Addr} (hp : p.block ≠ b) : w'.cell? p = w.cell? p := World.cell?_of_block (w := w) (h.block p.block hp)
theorem grown_of_later {w w' : World} (h : Later w w') (row : Option Nat) : w.grownBy w' row := ⟨h.os, h.tape, h.output, h.size, fun k hk _ => h.block k hk⟩
theorem grown_then {a w w' : World} {row : Option Nat} (h : a.grownBy w row) (k : w.grownBy w' row) : a.grownBy w' row :=
  ⟨k.os.trans h.os, k.tape.trans h.tape, k.output.trans h.output, Nat.le_trans h.size k.size, fun i hi hr => (k.block i (Nat.lt_of_lt_of_le hi h.size) hr).trans (h.block i hi hr)⟩
theorem later_of_grown {w w' : World} (h : w.grownBy w' none) : Later w w' := ⟨h.os, h.tape, h.output, h.size, fun k hk => h.block k hk (by simp)⟩
/-- What was there is as it was, but for the blocks that are named. -/
structure Grown (w w' : World) (hol : List Nat) : Prop where
  os : w'.os = w.os
  tape : w'.tape = w.tape
  output : w'.output = w.output
  size : w.heap.size ≤ w'.heap.size
  block : ∀ k, k < w.heap.size → k ∉ hol → w'.heap[k]? = w.heap[k]?
/-- One block, or none. -/
def holO : Option Nat → List Nat
  | none => []
  | some b => [b]
theorem Grown.by {w w' : World} {o : Option Nat} (h : Grown w w' (holO o)) : w.grownBy w' o := ⟨h.os, h.tape, h.output, h.size, fun k hk hr => h.block k hk (by
  cases o with
  | none => simp [holO]
  | some b => simp only [holO, List.mem_singleton]; exact fun e => hr (by rw [e]))⟩
theorem Grown.of_later {w w' : World} (h : Later w w') (hol : List Nat) : Grown w w' hol := ⟨h.os, h.tape, h.output, h.size, fun k hk _ => h.block k hk⟩
theorem Grown.trans {a w w' : World} {hol : List Nat} (h : Grown a w hol) (k : Grown w w' hol) : Grown a w' hol :=
  ⟨k.os.trans h.os, k.tape.trans h.tape, k.output.trans h.output, Nat.le_trans h.size k.size, fun i hi hr => (k.block i (Nat.lt_of_lt_of_le hi h.size) hr).trans (h.block i hi hr)⟩
theorem Grown.later {w w' : World} (h : Grown w w' (holO none)) : Later w w' := ⟨h.os, h.tape, h.output, h.size, fun k hk => h.block k hk (by simp [holO])⟩
theorem Stored.grown {b : Nat} {w0 w w' : World} {hol : List Nat} (h : Stored b w w') (k : Grown w0 w hol) (hb : w0.heap.size ≤ b ∨ b ∈ hol) : Grown w0 w' hol :=
  ⟨h.os.trans k.os, h.tape.trans k.tape, h.output.trans k.output, by rw [h.size]; exact k.size, fun i hi hr => (h.block i (fun e => by
    subst e
    rcases hb with q | q
    · omega
    · exact hr q)).trans (k.block i hi hr)⟩
/-- The names of the caller's variables that a walk may turn: 800 to 899. -/
def isH (h : Nat) : Bool := Nat.ble 800 h && Nat.ble h 899
/-- Block b is one of the call's own variables, and holds these cells. -/
def Var (w : World) (b : Nat) (cs : List Value) : Prop := ∃ t, w.heap[b]? = some (.cells cs.toArray t (0, 0))

/-! ### What the walk knows -/
/-- What a slot holds: a value, or the address of a variable of the call's own (its name, its block, the place in it). -/
def SV : Type := Sum Value (Nat × Nat × Nat)
@[reducible] def SV.v (x : Value) : SV := Sum.inl x
@[reducible] def SV.p (h b off : Nat) : SV := Sum.inr (h, b, off)
def SV.val : SV → Value
  | Sum.inl x => x
  | Sum.inr (_, b, off) => .pointer (some ⟨b, off, none⟩)
structure St where
  env : Nat → Option SV
  mem : Nat → Option (Nat × List Value)
def upd {α : Type} (f : Nat → Option α) (k : Nat) (x : α) : Nat → Option α := fun s => bif Nat.beq s k then some x else f s
theorem upd_same {α : Type} (f : Nat → Option α) (k : Nat) (x : α) : upd f k x k = some x := by simp [upd]
theorem upd_ne {α : Type} (f : Nat → Option α) {k s : Nat} (x : α) (h : s ≠ k) : upd f k x s = f s := by
  have : Nat.beq s k = false := by
    cases hh : Nat.beq s k with
    | false => rfl
    | true => exact absurd (Nat.eq_of_beq_eq_true hh) h
  simp [upd, this]
theorem upd_comm {α : Type} (f : Nat → Option α) {k l : Nat} (x y : α) (h : k ≠ l) : upd (upd f k x) l y = upd (upd f l y) k x := by
  funext s
  by_cases hk : s = k
  · subst hk; rw [upd_ne _ _ h, upd_same, upd_same]
  · by_cases hl : s = l
    · subst hl; rw [upd_same, upd_ne _ _ hk, upd_same]
    · rw [upd_ne _ _ hl, upd_ne _ _ hk, upd_ne _ _ hk, upd_ne _ _ hl]
def St.put (st : St) : Option Nat → SV → St
  | none, _ => st
  | some d, x => ⟨upd st.env d x, st.mem⟩
def St.new (st : St) (d b : Nat) (cs : List Value) : St := ⟨upd st.env d (.p d b 0), upd st.mem d (b, cs)⟩
def St.set (st : St) (h b : Nat) (cs : List Value) : St := ⟨st.env, upd st.mem h (b, cs)⟩
def St.ev (st : St) : Operand → SV
  | .tmp t => (st.env t).getD (.v undef)
  | .const v => .v v
  | x => .v ((⟨#[], []⟩ : Act).eval x)
def St.rho (st : St) (x : Operand) : Value := (st.ev x).val
def known (st : St) (o : Oper) : Bool := o.op.operands.toList.all fun | .tmp t => (st.env t).isSome | _ => true
def noSel (o : Oper) : Bool := match o.op with | .select .. => false | _ => true

/-- The frame and the world are as the walk knows them. -/
structure Holds (n : Nat) (hol : List Nat) (w0 : World) (st : St) (a : Act) (w : World) : Prop where
  size : a.tmps.size = n
  defers : a.defers = []
  env : ∀ s x, st.env s = some x → a.tmps[s]? = some x.val
  mem : ∀ h b cs, st.mem h = some (b, cs) → Var w b cs
  own : ∀ h b cs, st.mem h = some (b, cs) → w0.heap.size ≤ b ∨ (isH h = true ∧ b ∈ hol)
  inj : ∀ h b cs h' b' cs', st.mem h = some (b, cs) → st.mem h' = some (b', cs') → h ≠ h' → b ≠ b'
  old : Grown w0 w hol
section
variable {n : Nat} {hol : List Nat} {w0 : World} {st : St} {a : Act} {w : World}
theorem Var.lt {b : Nat} {cs : List Value} (h : Var w b cs) : b < w.heap.size := by
  obtain ⟨t, ht⟩ := h
  exact (Array.getElem?_eq_some_iff.1 ht).1
theorem Var.later {b : Nat} {cs : List Value} {w' : World} (h : Var w b cs) (l : Later w w') : Var w' b cs := by
  have hl := h.lt
  obtain ⟨t, ht⟩ := h
  exact ⟨t, by rw [l.block b hl]; exact ht⟩
theorem Holds.eval (H : Holds n hol w0 st a w) {x : Operand} (hk : ∀ t, x = .tmp t → (st.env t).isSome = true) : a.eval x = st.rho x := by
  cases x with
  | tmp t =>
    have := hk t rfl
    cases he : st.env t with
    | none => rw [he] at this; cases this
    | some y =>
      have h1 := H.env t y he
      simp [Act.eval, St.rho, St.ev, he, h1]
  | _ => rfl
theorem Holds.exec (H : Holds n hol w0 st a w) {o : Oper} (hk : known st o = true) (hs : noSel o = true) : execOp a.eval o = execOp st.rho o := by
  refine execOp_congr o (fun cs b h => by simp [noSel, h] at hs) (fun x hx => H.eval (fun t ht => ?_))
  subst ht
  have := List.all_eq_true.1 hk (.tmp t) (by simpa using hx)
  simpa using this
theorem Holds.put (H : Holds n hol w0 st a w) (d : Option Nat) (hd : ∀ k, d = some k → k < n) (x : SV) : Holds n hol w0 (st.put d x) (a.put d x.val) w := by
  cases d with
  | none => exact H
  | some d =>
    have hlt := hd d rfl
    refine ⟨by simpa [Act.put] using H.size, H.defers, fun s y hs => ?_, H.mem, H.own, H.inj, H.old⟩
    by_cases e : s = d
    · subst e
      simp only [St.put, upd_same, Option.some.injEq] at hs
      subst hs
      simp [Act.put, H.size, hlt]
    · simp only [St.put, upd_ne _ _ e] at hs
      simp [Act.put, Array.getElem?_setIfInBounds_ne (Ne.symm e), H.env s y hs]
theorem Holds.later (H : Holds n hol w0 st a w) {w' : World} (l : Later w w') : Holds n hol w0 st a w' :=
  ⟨H.size, H.defers, H.env, fun h b cs e => (H.mem h b cs e).later l, H.own, H.inj, H.old.trans (Grown.of_later l hol)⟩
theorem Holds.new (H : Holds n hol w0 st a w) (d : Nat) (hd : d < n) (hm : st.mem d = none) (cs : List Value) (t : TypeId) :
    Holds n hol w0 (st.new d w.heap.size cs) (a.put (some d) (.pointer (some ⟨w.heap.size, 0, none⟩))) (w.alloc (.cells cs.toArray t)) := by
  have H' := (H.later (Later.alloc w (.cells cs.toArray t))).put (some d) (fun k e => by cases e; exact hd) (.p d w.heap.size 0)
  refine ⟨H'.size, H'.defers, fun s y hs => H'.env s y hs, fun h b cs' e => ?_, fun h b cs' e => ?_, fun h b cs1 h' b' cs2 e e' hne => ?_, H'.old⟩
  · by_cases hh : h = d
    · subst hh
      simp only [St.new, upd_same, Option.some.injEq, Prod.mk.injEq] at e
      obtain ⟨rfl, rfl⟩ := e
      exact ⟨t, by show (w.heap.push _)[_]? = _; simp⟩
    · simp only [St.new, upd_ne _ _ hh] at e
      exact H'.mem h b cs' e
  · by_cases hh : h = d
    · subst hh
      simp only [St.new, upd_same, Option.some.injEq, Prod.mk.injEq] at e
      obtain ⟨rfl, rfl⟩ := e
      exact .inl H.old.size
    · simp only [St.new, upd_ne _ _ hh] at e
      exact H.own h b cs' e
  · by_cases hh : h = d
    · subst hh
      simp only [St.new, upd_same, Option.some.injEq, Prod.mk.injEq] at e
      obtain ⟨rfl, rfl⟩ := e
      simp only [St.new, upd_ne _ _ (Ne.symm hne)] at e'
      have := (H.mem h' b' cs2 e').lt
      omega
    · simp only [St.new, upd_ne _ _ hh] at e
      by_cases hh' : h' = d
      · subst hh'
        simp only [St.new, upd_same, Option.some.injEq, Prod.mk.injEq] at e'
        obtain ⟨rfl, rfl⟩ := e'
        have := (H.mem h b cs1 e).lt
        omega
      · simp only [St.new, upd_ne _ _ hh'] at e'
        exact H.inj h b cs1 h' b' cs2 e e' hne
theorem Holds.set (H : Holds n hol w0 st a w) {h b : Nat} {cs cs' : List Value} {w' : World} (e : st.mem h = some (b, cs)) (k : Stored b w w') (hv : Var w' b cs') : Holds n hol w0 (st.set h b cs') a w' := by
  refine ⟨H.size, H.defers, H.env, fun g c ds e' => ?_, fun g c ds e' => ?_, fun g c ds g' c' ds' e1 e2 hne => ?_, k.grown H.old ((H.own h b cs e).imp id (fun q => q.2))⟩
  · by_cases hg : g = h
    · subst hg
      simp only [St.set, upd_same, Option.some.injEq, Prod.mk.injEq] at e'
      obtain ⟨rfl, rfl⟩ := e'
      exact hv
    · simp only [St.set, upd_ne _ _ hg] at e'
      obtain ⟨t, ht⟩ := H.mem g c ds e'
      exact ⟨t, by rw [k.block c (H.inj g c ds h b cs e' e hg)]; exact ht⟩
  · by_cases hg : g = h
    · subst hg
      simp only [St.set, upd_same, Option.some.injEq, Prod.mk.injEq] at e'
      obtain ⟨rfl, rfl⟩ := e'
      exact H.own g _ cs e
    · simp only [St.set, upd_ne _ _ hg] at e'
      exact H.own g c ds e'
  · have back : ∀ g c ds, (st.set h b cs').mem g = some (c, ds) → ∃ ds', st.mem g = some (c, ds') := by
      intro g c ds hg
      by_cases e' : g = h
      · subst e'
        simp only [St.set, upd_same, Option.some.injEq, Prod.mk.injEq] at hg
        obtain ⟨rfl, rfl⟩ := hg
        exact ⟨cs, e⟩
      · simp only [St.set, upd_ne _ _ e'] at hg
        exact ⟨ds, hg⟩
    obtain ⟨x, hx⟩ := back g c ds e1
    obtain ⟨y, hy⟩ := back g' c' ds' e2
    exact H.inj g c x g' c' y hx hy hne
theorem Holds.turned (H : Holds n hol w0 st a w) {h b : Nat} {cs cs' : List Value} {w' : World} (e : st.mem h = some (b, cs)) (k : w.grownBy w' (some b)) (hv : Var w' b cs') : Holds n hol w0 (st.set h b cs') a w' := by
  refine ⟨H.size, H.defers, H.env, fun g c ds e' => ?_, fun g c ds e' => ?_, fun g c ds g' c' ds' e1 e2 hne => ?_, ⟨k.os.trans H.old.os, k.tape.trans H.old.tape, k.output.trans H.old.output, Nat.le_trans H.old.size k.size, fun i hi hr => (k.block i (Nat.lt_of_lt_of_le hi H.old.size) (fun q => ?_)).trans (H.old.block i hi hr)⟩⟩
  · by_cases hg : g = h
    · subst hg
      simp only [St.set, upd_same, Option.some.injEq, Prod.mk.injEq] at e'
      obtain ⟨rfl, rfl⟩ := e'
      exact hv
    · simp only [St.set, upd_ne _ _ hg] at e'
      have hlt := (H.mem g c ds e').lt
      obtain ⟨t, ht⟩ := H.mem g c ds e'
      exact ⟨t, by rw [k.block c hlt (fun q => H.inj g c ds h b cs e' e hg (by cases q; rfl))]; exact ht⟩
  · by_cases hg : g = h
    · subst hg
      simp only [St.set, upd_same, Option.some.injEq, Prod.mk.injEq] at e'
      obtain ⟨rfl, rfl⟩ := e'
      exact H.own g _ cs e
    · simp only [St.set, upd_ne _ _ hg] at e'
      exact H.own g c ds e'
  · have back : ∀ g c ds, (st.set h b cs').mem g = some (c, ds) → ∃ ds', st.mem g = some (c, ds') := by
      intro g c ds hg
      by_cases e' : g = h
      · subst e'
        simp only [St.set, upd_same, Option.some.injEq, Prod.mk.injEq] at hg
        obtain ⟨rfl, rfl⟩ := hg
        exact ⟨cs, e⟩
      · simp only [St.set, upd_ne _ _ e'] at hg
        exact ⟨ds, hg⟩
    obtain ⟨x, hx⟩ := back g c ds e1
    obtain ⟨y, hy⟩ := back g' c' ds' e2
    exact H.inj g c x g' c' y hx hy hne
  · rcases H.own h b cs e with z | z
    · cases q; omega
    · cases q; exact hr z.2
end

def zeroOf (P : Program) (t : TypeId) : Option Value := (P.info? t).bind (·.zero)
def aggD : TypeDesc → Bool
  | .struct _ | .array _ _ => true
  | _ => false
def isAggT (P : Program) (t : TypeId) : Option Bool := (P.underlying t).map aggD
/-- What a variable of type t, that lies at off in these cells, reads. -/
def readOf (P : Program) (t : TypeId) (cs : List Value) (off : Nat) : Option Value :=
  match isAggT P t with
  | some true =>
    match P.info? t with
    | some i => if off + i.size ≤ cs.length then some (.agg ((cs.drop off).take i.size).toArray) else none
    | none => none
  | some false => cs[off]?
  | none => none
/-- The cells behind a store. -/
def writeOf (P : Program) (t : TypeId) (cs : List Value) (off : Nat) (v : Value) : Option (List Value) :=
  match P.info? t with
  | some i =>
    if v.cells.size = i.size ∧ off + i.size ≤ cs.length ∧ v.cells.toList.all (·.oneCell') = true then
      (if off = 0 ∧ i.size = cs.length then some v.cells.toList else some (cs.take off ++ v.cells.toList ++ cs.drop (off + i.size)))
    else none
  | none => none
/-- What is known of the value that an operation yields: an address of a variable of the call's own is known as such. -/
def resSV (st : St) (o : Oper) (v : Value) : SV :=
  match o.op with
  | .move x | .assign x => st.ev x
  | .fieldAddr _ x _ =>
    match st.ev x, v with
    | Sum.inr (h, _, _), .pointer (some ⟨b, off, none⟩) => .p h b off
    | _, _ => .v v
  | .indexAddr _ x _ =>
    match st.ev x, v with
    | Sum.inr (h, _, _), .pointer (some ⟨b, off, none⟩) => .p h b off
    | _, _ => .v v
  | .nilCheck x =>
    match st.ev x, v with
    | Sum.inr (h, _, _), .pointer (some ⟨b, off, none⟩) => .p h b off
    | _, _ => .v v
  | _ => .v v
/-- An operation runs at w to a value and a later world that R holds of. -/
def RunsTo (P : Program) (o : Oper) (st : St) (w : World) (R : Value → World → Prop) : Prop :=
  match (execOp st.rho o).run P w with
  | .ok (.value v) w' => R v w' ∧ Later w w'
  | .ok (.enter f args) w' => Calls P f args w' fun e w'' => ∃ v, e = .returned v ∧ R v w'' ∧ Later w w''
  | .ok (.row row args) w' => Rows P row args w' fun v w'' => R v w'' ∧ Later w w''
  | _ => False
def vOp (P : Program) (R : Value → World → Prop) (o : Oper) (st : St) (w : World) (K : St → World → Prop) : Prop :=
  known st o = true ∧ noSel o = true ∧
  match o.op with
  | .alloc t => ∃ d z, o.dst = some d ∧ st.mem d = none ∧ zeroOf P t = some z ∧ ∀ b w', w.heap.size ≤ b → Later w w' → K (st.new d b z.cells.toList) w'
  | .box _ x => ∃ d, o.dst = some d ∧ st.mem d = none ∧ ∀ b w', w.heap.size ≤ b → Later w w' → K (st.new d b (st.rho x).cells.toList) w'
  | .load t x =>
    match st.ev x with
    | Sum.inr (h, b, off) => ∃ cs v, st.mem h = some (b, cs) ∧ readOf P t cs off = some v ∧ K (st.put o.dst (.v v)) w
    | Sum.inl _ => ∃ v, (∀ w', Later w w' → (execOp st.rho o).run P w' = .ok (.value v) w') ∧ K (st.put o.dst (.v v)) w
  | .store t x y => ∃ h b off cs cs', st.rho x = .pointer (some ⟨b, off, none⟩) ∧ st.mem h = some (b, cs) ∧ writeOf P t cs off (st.rho y) = some cs' ∧ o.dst = none ∧ ∀ w', Stored b w w' → Var w b cs → K (st.set h b cs') w'
  | .call _ | .buildSlice .. | .makeSlice .. => (∀ wc, Later w wc → RunsTo P o st wc R) ∧ ∀ v wc w1 w2, Later w wc → Later wc w1 → R v w1 → Later w1 w2 → K (st.put o.dst (.v v)) w2
  | .convert .. | .lookup .. => ∃ v, (∀ w', Later w w' → (execOp st.rho o).run P w' = .ok (.value v) w') ∧ K (st.put o.dst (.v v)) w
  | _ => ∃ v, (∀ w, (execOp st.rho o).run P w = .ok (.value v) w) ∧ K (st.put o.dst (resSV st o v)) w
def vG (P : Program) (ops : Array Oper) (R : Value → World → Prop) (o : Oper) (st : St) (w : World) (K : St → World → Prop) : Prop :=
  match o.guard with
  | none => vOp P R o st w K
  | some (g, t) => ∃ d x, (ops[g]?).bind (·.dst) = some d ∧ st.env d = some (.v x) ∧ (x = .bool t → vOp P R o st w K) ∧ (x ≠ .bool t → K (st.put o.dst (.v undef)) w)

section
variable {P : Program} {n : Nat} {hol : List Nat} {w0 : World} {st : St} {a : Act} {w : World}
theorem addr_add (b off j : Nat) : (⟨b, off, none⟩ : Addr).add j = ⟨b, off + j, none⟩ := by unfold Addr.add; split <;> simp_all
theorem run_readOf {t : TypeId} {b off : Nat} {cs : List Value} {v : Value} (hv : Var w b cs) (h : readOf P t cs off = some v) : (loadVar t ⟨b, off, none⟩).run P w = .ok v w := by
  obtain ⟨ty, hg⟩ := hv
  have hc : ∀ j, w.cell? ⟨b, j, none⟩ = cs[j]? := fun j => by rw [cell_of_row w b j cs.toArray ty (0, 0) hg]; simp
  unfold readOf isAggT at h
  cases hu : P.underlying t with
  | none => simp [hu] at h
  | some d =>
    have hagg : (isAgg t).run P w = .ok (aggD d) w := by
      unfold isAgg
      rw [Sem.run_bind, run_underlying hu w]
      cases d <;> simp [aggD]
    simp only [hu, Option.map_some] at h
    cases hd : aggD d with
    | false =>
      simp only [hd] at h
      have hcell := hc off
      rw [h] at hcell
      simp [loadVar, Sem.run_bind, hagg, hd, hcell]
    | true =>
      simp only [hd] at h
      cases hi : P.info? t with
      | none => simp [hi] at h
      | some i =>
        simp only [hi] at h
        split at h
        · rename_i hle
          simp only [Option.some.injEq] at h
          subst h
          have hl : ((cs.drop off).take i.size).length = i.size := by simp; omega
          have hload := run_loadCells_list (P := P) w ⟨b, off, none⟩ ((cs.drop off).take i.size) (fun j v hj => by
            rw [addr_add, hc]
            have : j < i.size := by have := (List.getElem?_eq_some_iff.1 hj).1; omega
            rw [List.getElem?_take_of_lt this, List.getElem?_drop] at hj
            exact hj)
          rw [hl] at hload
          simp [loadVar, Sem.run_bind, hagg, hd, sizeOf, typeInfo, hi, hload]
        · cases h
theorem Stored.setRow (b : Nat) (w : World) (cs : Array Value) : Stored b w (w.setRow b cs) :=
  ⟨rfl, rfl, rfl, by simp [World.setRow], fun k hk => by simp [World.setRow, Array.getElem?_modify, Ne.symm hk], fun cs0 t fr h => ⟨cs, setRow_heap w b cs0 cs t fr h⟩⟩
theorem run_writeOf {t : TypeId} {b off : Nat} {cs cs' : List Value} {v : Value} (hv : Var w b cs) (h : writeOf P t cs off v = some cs') :
    ∃ w', (storeVar t ⟨b, off, none⟩ v).run P w = .ok () w' ∧ Stored b w w' ∧ Var w' b cs' := by
  obtain ⟨ty, hg⟩ := hv
  unfold writeOf at h
  cases hi : P.info? t with
  | none => simp [hi] at h
  | some i =>
    simp only [hi] at h
    split at h
    · rename_i hc
      obtain ⟨hs, hle, hone⟩ := hc
      have hst := run_storeCells_at (P := P) b off ty v.cells.toList 0 cs.toArray w hg (by simp; omega) (fun x hx => List.all_eq_true.1 hone x hx)
      simp only [Nat.add_zero, Array.length_toList] at hst
      refine ⟨_, ?_, Stored.setRow b w (cs.take off ++ v.cells.toList ++ cs.drop (off + v.cells.size)).toArray, ty, ?_⟩
      · simp [storeVar, Sem.run_bind, sizeOf, typeInfo, hi, hs, hst]
      · have hw := setRow_heap w b cs.toArray (cs.take off ++ v.cells.toList ++ cs.drop (off + v.cells.size)).toArray ty (0, 0) hg
        rw [hw]
        split at h
        · rename_i hz
          simp only [Option.some.injEq] at h
          subst h
          rw [hz.1, List.take_zero, List.nil_append, hs, List.drop_of_length_le (by omega), List.append_nil]
        · simp only [Option.some.injEq] at h
          subst h
          rw [hs]
    · cases h
end

section
variable {P : Program} {n : Nat} {hol : List Nat} {w0 : World} {st : St} {a : Act} {w : World} {K : St → World → Prop} {Q : Exit → Act → World → Prop} {R : Value → World → Prop} {o : Oper}
theorem runs_sound (H : Holds n hol w0 st a w) (hd : ∀ k, o.dst = some k → k < n)
    (h : (∀ wc, Later w wc → RunsTo P o st wc R) ∧ ∀ v wc w1 w2, Later w wc → Later wc w1 → R v w1 → Later w1 w2 → K (st.put o.dst (.v v)) w2) :
    o.upon P a (fun a' w' => ∃ st', Holds n hol w0 st' a' w' ∧ K st' w') Q ((execOp st.rho o).run P w) := by
  obtain ⟨hr, hK⟩ := h
  have hr := hr w (Later.refl w)
  unfold RunsTo at hr
  split at hr
  · rename_i v w' hrun
    rw [hrun]
    exact ⟨_, (H.later hr.2).put o.dst hd (.v v), hK v w w' w' (Later.refl w) hr.2 hr.1 (Later.refl _)⟩
  · rename_i f args w' hrun
    rw [hrun]
    refine Calls.mono hr (fun e w'' he => ?_)
    obtain ⟨v, rfl, hR, hl⟩ := he
    exact ⟨_, (H.later hl).put o.dst hd (.v v), hK v w w'' w'' (Later.refl w) hl hR (Later.refl _)⟩
  · rename_i row args w' hrun
    rw [hrun]
    refine Rows.mono hr (fun v w'' he => ?_)
    exact ⟨_, (H.later he.2).put o.dst hd (.v v), hK v w w'' w'' (Later.refl w) he.2 he.1 (Later.refl _)⟩
  · exact hr.elim
theorem vOp_sound (H : Holds n hol w0 st a w) (hd : ∀ k, o.dst = some k → k < n) (h : vOp P R o st w K) :
    o.wp P a w (fun a' w' => ∃ st', Holds n hol w0 st' a' w' ∧ K st' w') Q := by
  obtain ⟨hk, hs, h⟩ := h
  unfold Oper.wp
  rw [H.exec hk hs]
  split at h
  · rename_i t hop
    obtain ⟨d, z, hdst, hm, hz, hK⟩ := h
    have hrun : (execOp st.rho o).run P w = .ok (.value (.pointer (some ⟨w.heap.size, 0, none⟩))) (w.alloc (.cells z.cells t)) := by
      unfold zeroOf at hz
      cases hi : P.info? t with
      | none => simp [hi] at hz
      | some i =>
        simp only [hi, Option.bind_some] at hz
        simp [execOp, hop, Instr.alloc, zeroValue, typeInfo, hi, hz, newVar, newRow]
    rw [hrun]
    simp only [Oper.upon, hdst]
    have H' := H.new d (hd d hdst) hm z.cells.toList t
    simp only [Array.toArray_toList] at H'
    exact ⟨_, H', hK _ _ (Nat.le_refl _) (Later.alloc _ _)⟩
  · rename_i t x hop
    obtain ⟨d, hdst, hm, hK⟩ := h
    have hrun : (execOp st.rho o).run P w = .ok (.value (.pointer (some ⟨w.heap.size, 0, none⟩))) (w.alloc (.cells (st.rho x).cells t)) := by
      simp [execOp, hop, Instr.box, newVar, newRow]
    rw [hrun]
    simp only [Oper.upon, hdst]
    have H' := H.new d (hd d hdst) hm (st.rho x).cells.toList t
    simp only [Array.toArray_toList] at H'
    exact ⟨_, H', hK _ _ (Nat.le_refl _) (Later.alloc _ _)⟩
  · rename_i t x hop
    split at h
    · rename_i g b off hx
      obtain ⟨cs, v, hm, hr, hK⟩ := h
      have hrun : (execOp st.rho o).run P w = .ok (.value v) w := by
        have hl := run_readOf (P := P) (H.mem g b cs hm) hr
        simp [execOp, hop, Instr.loadAt, St.rho, hx, SV.val, Instr.sureAddr, hl]
      rw [hrun]
      simp only [Oper.upon]
      exact ⟨_, H.put o.dst hd (.v v), hK⟩
    · obtain ⟨v, hr, hK⟩ := h
      rw [hr w (Later.refl w)]
      simp only [Oper.upon]
      exact ⟨_, H.put o.dst hd (.v v), hK⟩
  · rename_i t x y hop
    obtain ⟨h, b, off, cs, cs', hx, hm, hr, hdst, hK⟩ := h
    have hv := H.mem h b cs hm
    obtain ⟨w', hw, hst, hv'⟩ := run_writeOf (P := P) hv hr
    have hrun : (execOp st.rho o).run P w = .ok .skip w' := by
      have hx' : st.rho x = .pointer (some ⟨b, off, none⟩) := hx
      simp [execOp, hop, Instr.storeAt, hx', Instr.sureAddr, hw]
    rw [hrun]
    simp only [Oper.upon, hdst]
    exact ⟨_, H.set hm hst hv', hK w' hst hv⟩
  · exact runs_sound H hd h
  · exact runs_sound H hd h
  · exact runs_sound H hd h
  · obtain ⟨v, hr, hK⟩ := h
    rw [hr w (Later.refl w)]
    simp only [Oper.upon]
    exact ⟨_, H.put o.dst hd (.v v), hK⟩
  · obtain ⟨v, hr, hK⟩ := h
    rw [hr w (Later.refl w)]
    simp only [Oper.upon]
    exact ⟨_, H.put o.dst hd (.v v), hK⟩
  · obtain ⟨v, hr, hK⟩ := h
    rw [hr w]
    simp only [Oper.upon]
    have e : (resSV st o v).val = v := by
      unfold resSV
      split
      · rename_i x hop
        have := hr w
        simp [execOp, hop] at this
        exact this
      · rename_i x hop
        have := hr w
        simp [execOp, hop] at this
        exact this
      · split <;> rfl
      · split <;> rfl
      · split <;> rfl
      · rfl
    have H' := H.put o.dst hd (resSV st o v)
    rw [e] at H'
    exact ⟨_, H', hK⟩
theorem vG_sound {ops : Array Oper} {i : Nat} (ho : ops[i]? = some o) (H : Holds n hol w0 st a w) (hd : ∀ k, o.dst = some k → k < n) (h : vG P ops R o st w K) :
    wpOp P ops Q i (fun a' w' => ∃ st', Holds n hol w0 st' a' w' ∧ K st' w') a w := by
  unfold wpOp
  simp only [ho]
  unfold vG at h
  split at h
  · rename_i hg
    have hw : Region.wanted o (yielded ops a.tmps) = true := by simp [Region.wanted, hg]
    rw [if_pos hw]
    exact .inl (vOp_sound H hd h)
  · rename_i g t hg
    obtain ⟨d, x, h1, h2, h3, h4⟩ := h
    have hy := H.env d (.v x) h2
    have hw : Region.wanted o (yielded ops a.tmps) = true ↔ x = .bool t := by
      simp only [Region.wanted, hg, yielded, h1, Option.bind_some, hy, SV.val]
      cases x <;> simp
    by_cases hx : x = .bool t
    · rw [if_pos (hw.2 hx)]
      exact .inl (vOp_sound H hd (h3 hx))
    · rw [if_neg (fun h => hx (hw.1 h))]
      exact ⟨_, H.put o.dst hd (.v undef), h4 hx⟩
end

/-! ### A region in the order of its text -/
def vList (P : Program) (ops : Array Oper) (Rs : Nat → Value → World → Prop) (K : St → World → Prop) : Nat → List Oper → St → World → Prop
  | _, [], st, w => K st w
  | i, o :: rest, st, w => vG P ops (Rs i) o st w (vList P ops Rs K (i + 1) rest)

/-! ### A region that draws its order -/
def vAny (P : Program) (md : Region.Mode) (ops : Array Oper) (Rs : Nat → Value → World → Prop) (K : St → World → Prop) : Nat → Array Bool → St → World → Prop
  | 0, listed, st, w => Region.ready md ops listed = [] ∧ K st w
  | fuel + 1, listed, st, w =>
    (Region.ready md ops listed = [] → K st w) ∧
    ∀ i ∈ Region.ready md ops listed, ∀ o, ops[i]? = some o → vG P ops (Rs i) o st w (vAny P md ops Rs K fuel (listed.setIfInBounds i true))
def dstsIn (n : Nat) (ops : Array Oper) : Bool := ops.toList.all fun o => match o.dst with | some d => Nat.blt d n | none => true
section
variable {P : Program} {n : Nat} {hol : List Nat} {w0 : World} {md : Region.Mode} {ops : Array Oper} {Rs : Nat → Value → World → Prop} {K : St → World → Prop} {Q : Exit → Act → World → Prop}
theorem dstsIn_spec (h : dstsIn n ops = true) {i : Nat} {o : Oper} (ho : ops[i]? = some o) : ∀ k, o.dst = some k → k < n := by
  intro k hk
  have hm : o ∈ ops.toList := by simpa using Array.mem_of_getElem? ho
  have := List.all_eq_true.1 h o hm
  simp only [hk] at this
  simpa [Nat.blt_eq] using this
theorem vAny_sound (hd : dstsIn n ops = true) (hq : ∀ st a w, Holds n hol w0 st a w → K st w → Q .normal a w) :
    ∀ (fuel : Nat) (listed : Array Bool) (st : St) (a : Act) (w : World), Holds n hol w0 st a w → vAny P md ops Rs K fuel listed st w → wpAny P md ops Q fuel listed a w
  | 0, _, _, _, _, H, h => ⟨h.1, hq _ _ _ H h.2⟩
  | fuel + 1, _, _, _, _, H, h => by
    refine ⟨fun he => hq _ _ _ H (h.1 he), fun i hi => ?_⟩
    obtain ⟨_, o, ho, _⟩ := mem_ready.1 hi
    refine wpOp_mono (fun a' w' ⟨st', H', h'⟩ => vAny_sound hd hq fuel _ st' a' w' H' h') (vG_sound ho H (dstsIn_spec hd ho) (h.2 i hi o ho))
theorem vList_sound (hd : dstsIn n ops = true) (hq : ∀ st a w, Holds n hol w0 st a w → K st w → Q .normal a w) :
    ∀ (l : List Oper) (i : Nat) (st : St) (a : Act) (w : World), (∀ j, l[j]? = ops[i + j]?) → Holds n hol w0 st a w → vList P ops Rs K i l st w → wpOps P ops Q (List.range' i l.length) a w
  | [], _, _, _, _, _, H, h => hq _ _ _ H h
  | o :: rest, i, _, _, _, hl, H, h => by
    have ho : ops[i]? = some o := by simpa using (hl 0).symm
    rw [List.length_cons, List.range'_succ, wpOps_cons]
    refine wpOp_mono (fun a' w' ⟨st', H', h'⟩ => vList_sound hd hq rest (i + 1) st' a' w' (fun j => ?_) H' h') (vG_sound ho H (dstsIn_spec hd ho) h)
    have := hl (j + 1)
    simpa [Nat.add_assoc, Nat.add_comm 1 j] using this
end

def lightOp : Op → Bool
  | .store .. | .call .. | .buildSlice .. | .makeSlice .. | .select .. => false
  | _ => true
def memOp : Op → Bool
  | .load .. | .alloc .. | .box .. | .convert .. | .lookup .. => true
  | _ => false
def isStore : Op → Bool
  | .store .. => true
  | _ => false
section
variable {P : Program} {md : Region.Mode} {ops : Array Oper} {w : World} {K K' : St → World → Prop} {R Ri Rj : Value → World → Prop} {o oi oj : Oper}
theorem vOp_mono {st : St} (h : ∀ st w, K st w → K' st w) (hh : vOp P R o st w K) : vOp P R o st w K' := by
  obtain ⟨hk, hs, hh⟩ := hh
  refine ⟨hk, hs, ?_⟩
  split at hh
  · obtain ⟨d, z, h1, h2, h3, h4⟩ := hh
    exact ⟨d, z, h1, h2, h3, fun b w' hb hl => h _ _ (h4 b w' hb hl)⟩
  · obtain ⟨d, h1, h2, h4⟩ := hh
    exact ⟨d, h1, h2, fun b w' hb hl => h _ _ (h4 b w' hb hl)⟩
  · split at hh
    · obtain ⟨cs, v, h2, h3, h4⟩ := hh
      exact ⟨cs, v, h2, h3, h _ _ h4⟩
    · obtain ⟨v, h2, h4⟩ := hh
      exact ⟨v, h2, h _ _ h4⟩
  · obtain ⟨g, b, off, cs, cs', h1, h2, h3, h4, h5⟩ := hh
    exact ⟨g, b, off, cs, cs', h1, h2, h3, h4, fun w' k1 k2 => h _ _ (h5 w' k1 k2)⟩
  · exact ⟨hh.1, fun v wc w1 w2 a b c d => h _ _ (hh.2 v wc w1 w2 a b c d)⟩
  · exact ⟨hh.1, fun v wc w1 w2 a b c d => h _ _ (hh.2 v wc w1 w2 a b c d)⟩
  · exact ⟨hh.1, fun v wc w1 w2 a b c d => h _ _ (hh.2 v wc w1 w2 a b c d)⟩
  · obtain ⟨v, h1, h2⟩ := hh
    exact ⟨v, h1, h _ _ h2⟩
  · obtain ⟨v, h1, h2⟩ := hh
    exact ⟨v, h1, h _ _ h2⟩
  · obtain ⟨v, h1, h2⟩ := hh
    exact ⟨v, h1, h _ _ h2⟩
theorem vG_mono {st : St} (h : ∀ st w, K st w → K' st w) (hh : vG P ops R o st w K) : vG P ops R o st w K' := by
  unfold vG at *
  split at hh
  · exact vOp_mono h hh
  · obtain ⟨d, x, h1, h2, h3, h4⟩ := hh
    exact ⟨d, x, h1, h2, fun e => vOp_mono h (h3 e), fun e => h _ _ (h4 e)⟩
/-- Two states of which an operation sees the same. -/
structure Sees (o : Oper) (st st' : St) : Prop where
  env : ∀ t, Operand.tmp t ∈ o.op.operands → st'.env t = st.env t
theorem Sees.symm {st st' : St} (h : Sees o st st') : Sees o st' st := ⟨fun t ht => (h.env t ht).symm⟩
theorem Sees.ev {st st' : St} (h : Sees o st st') {x : Operand} (hx : x ∈ o.op.operands) : st'.ev x = st.ev x := by
  cases x with
  | tmp t => simp only [St.ev, h.env t hx]
  | _ => rfl
theorem Sees.rho {st st' : St} (h : Sees o st st') {x : Operand} (hx : x ∈ o.op.operands) : st'.rho x = st.rho x := by simp only [St.rho, h.ev hx]
theorem Sees.known {st st' : St} (h : Sees o st st') (hk : known st o = true) : known st' o = true := by
  unfold Go.Proofs.Ytlpenfganhaclaa.known at *
  rw [List.all_eq_true] at *
  intro x hx
  have := hk x hx
  split
  · rename_i t
    rw [h.env t (by simpa using hx)]
    exact this
  · rfl
theorem Sees.exec {st st' : St} (h : Sees o st st') (hs : noSel o = true) : execOp st'.rho o = execOp st.rho o :=
  execOp_congr o (fun cs b h => by simp [noSel, h] at hs) (fun _ hx => h.rho hx)
theorem Sees.res {st st' : St} (h : Sees o st st') (v : Value) : resSV st' o v = resSV st o v := by
  unfold resSV
  split
  · rename_i x hop; exact h.ev (by simp [hop, Op.operands])
  · rename_i x hop; exact h.ev (by simp [hop, Op.operands])
  · rename_i t x f hop
    rw [h.ev (by simp [hop, Op.operands])]
  · rename_i t x f hop
    rw [h.ev (by simp [hop, Op.operands])]
  · rename_i x hop
    rw [h.ev (by simp [hop, Op.operands])]
  · rfl
theorem Sees.runs {st st' : St} (h : Sees o st st') (hs : noSel o = true) : RunsTo P o st' w R = RunsTo P o st w R := by
  unfold RunsTo; rw [h.exec hs]
/-- What an operation other than a store leaves of a state. -/
structure Step (o : Oper) (st st' : St) (w w' : World) : Prop where
  env : ∀ t, o.dst ≠ some t → st'.env t = st.env t
  mem : isStore o.op = false → ∀ h, st.mem h = none ∧ o.dst = some h ∨ st'.mem h = st.mem h
  later : isStore o.op = false → Later w w'
theorem Step.put (o : Oper) (st : St) (x : SV) {w w' : World} (l : Later w w') : Step o st (st.put o.dst x) w w' := by
  refine ⟨fun t ht => ?_, fun _ h => .inr ?_, fun _ => l⟩
  · cases hd : o.dst with
    | none => rfl
    | some d => exact upd_ne _ _ (fun e => ht (by rw [hd, e]))
  · cases o.dst <;> rfl
theorem Step.new {st : St} {d : Nat} (hd : o.dst = some d) (hm : st.mem d = none) (b : Nat) (cs : List Value) {w w' : World} (l : Later w w') : Step o st (st.new d b cs) w w' := by
  refine ⟨fun t ht => upd_ne _ _ (fun e => ht (by rw [hd, e])), fun _ h => ?_, fun _ => l⟩
  by_cases e : h = d
  · exact .inl ⟨e ▸ hm, e ▸ hd⟩
  · exact .inr (upd_ne _ _ e)
theorem put_put {st : St} {d e : Option Nat} {x y : SV} (h : ∀ k, d = some k → e ≠ some k) : (st.put d x).put e y = (st.put e y).put d x := by
  cases d with
  | none => rfl
  | some d =>
    cases e with
    | none => rfl
    | some e => simp only [St.put]; rw [upd_comm _ _ _ (fun k => h d rfl (by rw [k]))]
theorem put_new {st : St} {d : Option Nat} {x : SV} {e b : Nat} {cs : List Value} (h : d ≠ some e) : (st.put d x).new e b cs = (st.new e b cs).put d x := by
  cases d with
  | none => rfl
  | some d => simp only [St.put, St.new]; rw [upd_comm _ _ _ (fun k => h (by rw [k]))]
theorem put_set {st : St} {d : Option Nat} {x : SV} {e b : Nat} {cs : List Value} : (st.put d x).set e b cs = (st.set e b cs).put d x := by
  cases d <;> rfl
theorem new_new {st : St} {d b e c : Nat} {cs cs' : List Value} (h : d ≠ e) : (st.new d b cs).new e c cs' = (st.new e c cs').new d b cs := by
  simp only [St.new]; rw [upd_comm _ _ _ h, upd_comm _ _ _ h]
theorem put_mem (st : St) (d : Option Nat) (x : SV) : (st.put d x).mem = st.mem := by cases d <;> rfl
/-- A slot that an operation does not look at may be filled ahead of it. -/
theorem swapA {st : St} {d : Option Nat} {sv : SV} (h1 : ∀ k, d = some k → k ∉ oj.looksAt ops) (h2 : ∀ k, d = some k → oj.dst ≠ some k)
    (h : vOp P R oj (st.put d sv) w K) : vOp P R oj st w (fun st' w' => Step oj st st' w w' ∧ K (st'.put d sv) w') := by
  have S : Sees oj (st.put d sv) st := ⟨fun t ht => by
    cases d with
    | none => rfl
    | some k => exact (upd_ne _ _ (fun e => h1 k rfl (by subst e; exact List.mem_append_left _ (List.mem_filterMap.2 ⟨.tmp t, by simpa using ht, rfl⟩)))).symm⟩
  obtain ⟨hk, hs, h⟩ := h
  refine ⟨S.known hk, hs, ?_⟩
  split at h
  · obtain ⟨e, z, k1, k2, k3, k4⟩ := h
    rw [put_mem] at k2
    exact ⟨e, z, k1, k2, k3, fun b w' hb hl => ⟨Step.new k1 k2 b _ hl, by rw [← put_new (fun k => h2 e k k1)]; exact k4 b w' hb hl⟩⟩
  · rename_i t x hop
    obtain ⟨e, k1, k2, k4⟩ := h
    rw [put_mem] at k2
    have hx : (st.put d sv).rho x = st.rho x := (S.rho (by simp [hop, Op.operands])).symm
    rw [hx] at k4
    exact ⟨e, k1, k2, fun b w' hb hl => ⟨Step.new k1 k2 b _ hl, by rw [← put_new (fun k => h2 e k k1)]; exact k4 b w' hb hl⟩⟩
  · rename_i t x hop
    rw [← S.ev (by simp [hop, Op.operands])] at h
    cases hx : st.ev x with
    | inr q3 =>
      obtain ⟨g, b, off⟩ := q3
      simp only [hx] at h ⊢
      obtain ⟨cs, v, k2, k3, k4⟩ := h
      rw [put_mem] at k2
      exact ⟨cs, v, k2, k3, Step.put oj st _ (Later.refl _), by rw [← put_put h2]; exact k4⟩
    | inl y =>
      simp only [hx] at h ⊢
      obtain ⟨v, k2, k4⟩ := h
      exact ⟨v, fun w' l => by rw [S.exec hs]; exact k2 w' l, Step.put oj st _ (Later.refl _), by rw [← put_put h2]; exact k4⟩
  · rename_i t x y hop
    obtain ⟨g, b, off, cs, cs', k1, k2, k3, k4, k5⟩ := h
    rw [put_mem] at k2
    rw [← S.rho (x := x) (by simp [hop, Op.operands])] at k1
    rw [← S.rho (x := y) (by simp [hop, Op.operands])] at k3
    refine ⟨g, b, off, cs, cs', k1, k2, k3, k4, fun w' l1 l2 => ⟨⟨fun t _ => rfl, fun hf => by simp [hop, isStore] at hf, fun hf => by simp [hop, isStore] at hf⟩, by rw [← put_set]; exact k5 w' l1 l2⟩⟩
  · refine ⟨fun wc hl => by rw [S.runs hs]; exact h.1 wc hl, fun v wc w1 w2 a b c e => ⟨Step.put oj st _ ((a.trans b).trans e), by rw [← put_put h2]; exact h.2 v wc w1 w2 a b c e⟩⟩
  · refine ⟨fun wc hl => by rw [S.runs hs]; exact h.1 wc hl, fun v wc w1 w2 a b c e => ⟨Step.put oj st _ ((a.trans b).trans e), by rw [← put_put h2]; exact h.2 v wc w1 w2 a b c e⟩⟩
  · refine ⟨fun wc hl => by rw [S.runs hs]; exact h.1 wc hl, fun v wc w1 w2 a b c e => ⟨Step.put oj st _ ((a.trans b).trans e), by rw [← put_put h2]; exact h.2 v wc w1 w2 a b c e⟩⟩
  · obtain ⟨v, k2, k4⟩ := h
    exact ⟨v, fun w' l => by rw [S.exec hs]; exact k2 w' l, Step.put oj st _ (Later.refl _), by rw [← put_put h2]; exact k4⟩
  · obtain ⟨v, k2, k4⟩ := h
    exact ⟨v, fun w' l => by rw [S.exec hs]; exact k2 w' l, Step.put oj st _ (Later.refl _), by rw [← put_put h2]; exact k4⟩
  · obtain ⟨v, k1, k2⟩ := h
    refine ⟨v, fun w => by rw [S.exec hs]; exact k1 w, Step.put oj st _ (Later.refl _), ?_⟩
    rw [← put_put h2, S.res]
    exact k2
theorem swapGA {st : St} {d : Option Nat} {sv : SV} (h1 : ∀ k, d = some k → k ∉ oj.looksAt ops) (h2 : ∀ k, d = some k → oj.dst ≠ some k)
    (h : vG P ops R oj (st.put d sv) w K) : vG P ops R oj st w (fun st' w' => Step oj st st' w w' ∧ K (st'.put d sv) w') := by
  unfold vG at *
  split at h
  · exact swapA h1 h2 h
  · rename_i g t hg
    obtain ⟨e, x, k1, k2, k3, k4⟩ := h
    have he : (st.put d sv).env e = st.env e := by
      cases d with
      | none => rfl
      | some k => exact upd_ne _ _ (fun q => h1 k rfl (by subst q; exact List.mem_append_right _ (by simp [hg, k1])))
    rw [he] at k2
    exact ⟨e, x, k1, k2, fun q => swapA h1 h2 (k3 q), fun q => ⟨Step.put oj st _ (Later.refl _), by rw [← put_put h2]; exact k4 q⟩⟩
/-- A new variable may be laid ahead of any operation but a store. -/
theorem swapB {st : St} {d : Nat} {cs : List Value} (hm : st.mem d = none) (h1 : d ∉ oj.looksAt ops) (h2 : oj.dst ≠ some d) (hn : isStore oj.op = false)
    (h : ∀ b w', w.heap.size ≤ b → Later w w' → vOp P R oj (st.new d b cs) w' K) :
    vOp P R oj st w (fun st' w' => Step oj st st' w w' ∧ ∀ b w'', w'.heap.size ≤ b → Later w' w'' → K (st'.new d b cs) w'') := by
  have S : ∀ b, Sees oj (st.new d b cs) st := fun b => ⟨fun t ht => (upd_ne _ _ (fun e => h1 (by subst e; exact List.mem_append_left _ (List.mem_filterMap.2 ⟨.tmp t, by simpa using ht, rfl⟩)))).symm⟩
  have h0 := h w.heap.size w (Nat.le_refl _) (Later.refl w)
  refine ⟨(S _).known h0.1, h0.2.1, ?_⟩
  have hs := h0.2.1
  cases hop : oj.op with
  | alloc t =>
    simp only [vOp, hop] at h h0
    obtain ⟨_, _, e, z, k1, k2, k3, _⟩ := h0
    have hde : d ≠ e := fun q => h2 (by rw [k1, q])
    have k2' : st.mem e = none := by rw [← upd_ne st.mem _ (Ne.symm hde)]; exact k2
    refine ⟨e, z, k1, k2', k3, fun c w1 hc hl => ⟨Step.new k1 k2' c _ hl, fun b w2 hb hl2 => ?_⟩⟩
    obtain ⟨_, _, e', z', k1', _, k3', k4⟩ := h b w (by have := hl.size; omega) (Later.refl w)
    rw [k1] at k1'
    rw [k3] at k3'
    cases k1'
    cases k3'
    rw [← new_new hde]
    exact k4 c w2 hc (hl.trans hl2)
  | box t x =>
    simp only [vOp, hop] at h h0
    obtain ⟨_, _, e, k1, k2, _⟩ := h0
    have hde : d ≠ e := fun q => h2 (by rw [k1, q])
    have k2' : st.mem e = none := by rw [← upd_ne st.mem _ (Ne.symm hde)]; exact k2
    refine ⟨e, k1, k2', fun c w1 hc hl => ⟨Step.new k1 k2' c _ hl, fun b w2 hb hl2 => ?_⟩⟩
    obtain ⟨_, _, e', k1', _, k4⟩ := h b w (by have := hl.size; omega) (Later.refl w)
    rw [k1] at k1'
    cases k1'
    rw [← new_new hde, (S b).rho (by simp [hop, Op.operands])]
    exact k4 c w2 hc (hl.trans hl2)
  | load t x =>
    have hx : x ∈ oj.op.operands := by simp [hop, Op.operands]
    simp only [vOp, hop] at h h0
    rw [← (S _).ev hx] at h0
    cases hev : st.ev x with
    | inr q3 =>
      obtain ⟨g, b0, off⟩ := q3
      simp only [hev] at h0 ⊢
      have h' : ∀ b w', w.heap.size ≤ b → Later w w' → ∃ cs' v', (st.new d b cs).mem g = some (b0, cs') ∧ readOf P t cs' off = some v' ∧ K ((st.new d b cs).put oj.dst (.v v')) w' := by
        intro b w' hb hl
        have := (h b w' hb hl).2.2
        rw [← (S _).ev hx, hev] at this
        exact this
      obtain ⟨_, _, cs0, v, k2, k3, _⟩ := h0
      have hg : g ≠ d := fun q => by
        subst q
        obtain ⟨cs1, v', q2, _⟩ := h' (w.heap.size + 1) w (by omega) (Later.refl w)
        simp only [St.new, upd_same, Option.some.injEq, Prod.mk.injEq] at k2 q2
        omega
      have k2' : st.mem g = some (b0, cs0) := by rw [← upd_ne st.mem _ hg]; exact k2
      refine ⟨cs0, v, k2', k3, Step.put oj st _ (Later.refl _), fun b w2 hb hl2 => ?_⟩
      obtain ⟨cs1, v', q2, q3, q4⟩ := h' b w2 hb hl2
      have q2' : st.mem g = some (b0, cs1) := by rw [← upd_ne st.mem _ hg]; exact q2
      rw [k2'] at q2'
      cases q2'
      rw [k3] at q3
      cases q3
      rw [put_new h2]
      exact q4
    | inl y =>
      simp only [hev] at h0 ⊢
      have h' : ∀ b w', w.heap.size ≤ b → Later w w' → ∃ v', (∀ w'', Later w' w'' → (execOp (st.new d b cs).rho oj).run P w'' = .ok (.value v') w'') ∧ K ((st.new d b cs).put oj.dst (.v v')) w' := by
        intro b w' hb hl
        have := (h b w' hb hl).2.2
        rw [← (S _).ev hx, hev] at this
        exact this
      obtain ⟨_, _, v, k2, _⟩ := h0
      refine ⟨v, fun w' l => by rw [(S _).exec hs]; exact k2 w' l, Step.put oj st _ (Later.refl _), fun b w2 hb hl2 => ?_⟩
      obtain ⟨v', q2, q4⟩ := h' b w2 hb hl2
      have e1 := q2 w2 (Later.refl _)
      rw [← (S b).exec hs] at e1
      have e0 := k2 w2 hl2
      rw [← (S _).exec hs, e1] at e0
      cases e0
      rw [put_new h2]
      exact q4
  | store t x y => simp [hop, isStore] at hn
  | call c =>
    simp only [vOp, hop] at h h0
    refine ⟨fun wc hl => by rw [(S w.heap.size).runs hs]; exact h0.2.2.1 wc hl, fun v wc w1 w2 l1 l2 hR l3 => ⟨Step.put oj st _ ((l1.trans l2).trans l3), fun b w3 hb hl3 => ?_⟩⟩
    rw [put_new h2]
    exact (h b w (by have := l1.size; have := l2.size; have := l3.size; omega) (Later.refl w)).2.2.2 v wc w1 w3 l1 l2 hR (l3.trans hl3)
  | buildSlice a b c =>
    simp only [vOp, hop] at h h0
    refine ⟨fun wc hl => by rw [(S w.heap.size).runs hs]; exact h0.2.2.1 wc hl, fun v wc w1 w2 l1 l2 hR l3 => ⟨Step.put oj st _ ((l1.trans l2).trans l3), fun b w3 hb hl3 => ?_⟩⟩
    rw [put_new h2]
    exact (h b w (by have := l1.size; have := l2.size; have := l3.size; omega) (Later.refl w)).2.2.2 v wc w1 w3 l1 l2 hR (l3.trans hl3)
  | makeSlice a b c =>
    simp only [vOp, hop] at h h0
    refine ⟨fun wc hl => by rw [(S w.heap.size).runs hs]; exact h0.2.2.1 wc hl, fun v wc w1 w2 l1 l2 hR l3 => ⟨Step.put oj st _ ((l1.trans l2).trans l3), fun b w3 hb hl3 => ?_⟩⟩
    rw [put_new h2]
    exact (h b w (by have := l1.size; have := l2.size; have := l3.size; omega) (Later.refl w)).2.2.2 v wc w1 w3 l1 l2 hR (l3.trans hl3)
  | convert a b c =>
    simp only [vOp, hop] at h h0
    obtain ⟨_, _, v, k2, _⟩ := h0
    refine ⟨v, fun w' l => by rw [(S _).exec hs]; exact k2 w' l, Step.put oj st _ (Later.refl _), fun b w2 hb hl2 => ?_⟩
    obtain ⟨_, _, v', q2, q4⟩ := h b w2 hb hl2
    have e1 := q2 w2 (Later.refl _)
    rw [← (S b).exec hs] at e1
    have e0 := k2 w2 hl2
    rw [← (S _).exec hs, e1] at e0
    cases e0
    rw [put_new h2]
    exact q4
  | lookup a b c e =>
    simp only [vOp, hop] at h h0
    obtain ⟨_, _, v, k2, _⟩ := h0
    refine ⟨v, fun w' l => by rw [(S _).exec hs]; exact k2 w' l, Step.put oj st _ (Later.refl _), fun b w2 hb hl2 => ?_⟩
    obtain ⟨_, _, v', q2, q4⟩ := h b w2 hb hl2
    have e1 := q2 w2 (Later.refl _)
    rw [← (S b).exec hs] at e1
    have e0 := k2 w2 hl2
    rw [← (S _).exec hs, e1] at e0
    cases e0
    rw [put_new h2]
    exact q4
  | _ =>
    simp only [vOp, hop] at h h0
    obtain ⟨_, _, v, k1, _⟩ := h0
    refine ⟨v, fun w => by rw [(S _).exec hs]; exact k1 w, Step.put oj st _ (Later.refl _), fun b w2 hb hl2 => ?_⟩
    obtain ⟨_, _, v', q1, q2⟩ := h b w2 hb hl2
    have e1 := q1 w
    rw [← (S b).exec hs] at e1
    have e0 := k1 w
    rw [← (S _).exec hs, e1] at e0
    cases e0
    rw [put_new h2, (S b).res]
    exact q2
theorem swapGB {st : St} {d : Nat} {cs : List Value} (hm : st.mem d = none) (h1 : d ∉ oj.looksAt ops) (h2 : oj.dst ≠ some d) (hn : isStore oj.op = false)
    (h : ∀ b w', w.heap.size ≤ b → Later w w' → vG P ops R oj (st.new d b cs) w' K) :
    vG P ops R oj st w (fun st' w' => Step oj st st' w w' ∧ ∀ b w'', w'.heap.size ≤ b → Later w' w'' → K (st'.new d b cs) w'') := by
  unfold vG at *
  cases hg : oj.guard with
  | none =>
    simp only [hg] at h ⊢
    exact swapB hm h1 h2 hn h
  | some gt =>
    obtain ⟨g, t⟩ := gt
    simp only [hg] at h ⊢
    obtain ⟨e, x, k1, k2, _, _⟩ := h w.heap.size w (Nat.le_refl _) (Later.refl w)
    have he : ∀ b, (st.new d b cs).env e = st.env e := fun b => upd_ne _ _ (fun q => h1 (by subst q; exact List.mem_append_right _ (by simp [hg, k1])))
    rw [he] at k2
    have hall : ∀ b w', w.heap.size ≤ b → Later w w' → (x = .bool t → vOp P R oj (st.new d b cs) w' K) ∧ (x ≠ .bool t → K ((st.new d b cs).put oj.dst (.v undef)) w') := by
      intro b w' hb hl
      obtain ⟨e', x', q1, q2, q3, q4⟩ := h b w' hb hl
      rw [k1] at q1
      cases q1
      rw [he, k2] at q2
      cases q2
      exact ⟨q3, q4⟩
    refine ⟨e, x, k1, k2, fun q => swapB hm h1 h2 hn (fun b w' hb hl => (hall b w' hb hl).1 q), fun q => ⟨Step.put oj st _ (Later.refl _), fun b w2 hb hl => ?_⟩⟩
    rw [put_new h2]
    exact (hall b w2 hb hl).2 q
/-- Behind a step of j an operation i, that is apart from it, sees what it saw. -/
theorem Step.sees {st st' : St} {w w' : World} (h : Step oj st st' w w') (h3 : ∀ k, oj.dst = some k → k ∉ oi.looksAt ops) : Sees oi st st' :=
  ⟨fun t ht => h.env t (fun e => h3 t e (List.mem_append_left _ (List.mem_filterMap.2 ⟨.tmp t, by simpa using ht, rfl⟩)))⟩
theorem vOp_swap {st : St} (hl : lightOp oi.op = true) (hap : oi.apart ops oj = true) (hns : memOp oi.op = true → isStore oj.op = false)
    (h : vOp P Ri oi st w (fun st' w' => vG P ops Rj oj st' w' K)) : vG P ops Rj oj st w (fun st' w' => Step oj st st' w w' ∧ vOp P Ri oi st' w' K) := by
  obtain ⟨h1, h2, h3⟩ := Oper.apart_spec hap
  obtain ⟨hk, hs, h⟩ := h
  cases hop : oi.op with
  | alloc t =>
    simp only [hop] at h
    obtain ⟨d, z, k1, k2, k3, k4⟩ := h
    have hn := hns (by simp [hop, memOp])
    refine vG_mono (fun st' w' q => ⟨q.1, (q.1.sees h3).known hk, hs, ?_⟩) (swapGB k2 (h1 d k1) (h2 d k1) hn k4)
    simp only [hop]
    refine ⟨d, z, k1, ?_, k3, q.2⟩
    rcases q.1.mem hn d with e | e
    · exact absurd e.2 (h2 d k1)
    · rw [e]; exact k2
  | box t x =>
    simp only [hop] at h
    obtain ⟨d, k1, k2, k4⟩ := h
    have hn := hns (by simp [hop, memOp])
    refine vG_mono (fun st' w' q => ⟨q.1, (q.1.sees h3).known hk, hs, ?_⟩) (swapGB k2 (h1 d k1) (h2 d k1) hn k4)
    simp only [hop]
    refine ⟨d, k1, ?_, ?_⟩
    · rcases q.1.mem hn d with e | e
      · exact absurd e.2 (h2 d k1)
      · rw [e]; exact k2
    · rw [(q.1.sees h3).rho (by simp [hop, Op.operands])]
      exact q.2
  | load t x =>
    simp only [hop] at h
    have hn := hns (by simp [hop, memOp])
    have hxm : x ∈ oi.op.operands := by simp [hop, Op.operands]
    cases hx : st.ev x with
    | inr q3 =>
      obtain ⟨g, b, off⟩ := q3
      simp only [hx] at h
      obtain ⟨cs, v, k2, k3, k4⟩ := h
      refine vG_mono (fun st' w' q => ⟨q.1, (q.1.sees h3).known hk, hs, ?_⟩) (swapGA h1 h2 k4)
      simp only [hop]
      rw [(q.1.sees h3).ev hxm, hx]
      refine ⟨cs, v, ?_, k3, q.2⟩
      rcases q.1.mem hn g with e | e
      · rw [k2] at e; exact absurd e.1 (by simp)
      · rw [e]; exact k2
    | inl y =>
      simp only [hx] at h
      obtain ⟨v, k2, k4⟩ := h
      refine vG_mono (fun st' w' q => ⟨q.1, (q.1.sees h3).known hk, hs, ?_⟩) (swapGA h1 h2 k4)
      simp only [hop]
      rw [(q.1.sees h3).ev hxm, hx]
      exact ⟨v, fun w'' l => by rw [(q.1.sees h3).exec hs]; exact k2 w'' ((q.1.later hn).trans l), q.2⟩
  | store t x y => simp [hop, lightOp] at hl
  | call c => simp [hop, lightOp] at hl
  | buildSlice a b c => simp [hop, lightOp] at hl
  | makeSlice a b c => simp [hop, lightOp] at hl
  | select a b => simp [hop, lightOp] at hl
  | convert a b c =>
    simp only [hop] at h
    have hn := hns (by simp [hop, memOp])
    obtain ⟨v, k2, k4⟩ := h
    refine vG_mono (fun st' w' q => ⟨q.1, (q.1.sees h3).known hk, hs, ?_⟩) (swapGA h1 h2 k4)
    simp only [hop]
    exact ⟨v, fun w'' l => by rw [(q.1.sees h3).exec hs]; exact k2 w'' ((q.1.later hn).trans l), q.2⟩
  | lookup a b c e =>
    simp only [hop] at h
    have hn := hns (by simp [hop, memOp])
    obtain ⟨v, k2, k4⟩ := h
    refine vG_mono (fun st' w' q => ⟨q.1, (q.1.sees h3).known hk, hs, ?_⟩) (swapGA h1 h2 k4)
    simp only [hop]
    exact ⟨v, fun w'' l => by rw [(q.1.sees h3).exec hs]; exact k2 w'' ((q.1.later hn).trans l), q.2⟩
  | _ =>
    simp only [hop] at h
    obtain ⟨v, k1, k2⟩ := h
    refine vG_mono (fun st' w' q => ⟨q.1, (q.1.sees h3).known hk, hs, ?_⟩) (swapGA h1 h2 k2)
    simp only [hop]
    exact ⟨v, fun w => by rw [(q.1.sees h3).exec hs]; exact k1 w, by rw [(q.1.sees h3).res]; exact q.2⟩
theorem vG_swap {st : St} (hl : lightOp oi.op = true) (hap : oi.apart ops oj = true) (hns : memOp oi.op = true → isStore oj.op = false)
    (h : vG P ops Ri oi st w (fun st' w' => vG P ops Rj oj st' w' K)) : vG P ops Rj oj st w (fun st' w' => vG P ops Ri oi st' w' K) := by
  obtain ⟨h1, h2, h3⟩ := Oper.apart_spec hap
  cases hg : oi.guard with
  | none =>
    have h' : vOp P Ri oi st w (fun st' w' => vG P ops Rj oj st' w' K) := by unfold vG at h; simp only [hg] at h; exact h
    refine vG_mono (fun st' w' q => ?_) (vOp_swap hl hap hns h')
    unfold vG
    simp only [hg]
    exact q.2
  | some gt =>
    obtain ⟨g, t⟩ := gt
    have h' : ∃ d x, (ops[g]?).bind (·.dst) = some d ∧ st.env d = some (.v x) ∧ (x = .bool t → vOp P Ri oi st w (fun st' w' => vG P ops Rj oj st' w' K)) ∧ (x ≠ .bool t → vG P ops Rj oj (st.put oi.dst (.v undef)) w K) := by
      have h' := h
      unfold vG at h'
      simp only [hg] at h'
      obtain ⟨d, x, k1, k2, k3, k4⟩ := h'
      refine ⟨d, x, k1, k2, k3, fun q => ?_⟩
      unfold vG
      exact k4 q
    obtain ⟨d, x, k1, k2, k3, k4⟩ := h'
    have keep : ∀ st' w', Step oj st st' w w' → st'.env d = some (.v x) := fun st' w' q => by
      rw [q.env d (fun e => h3 d e (List.mem_append_right _ (by simp [hg, k1])))]
      exact k2
    by_cases hx : x = .bool t
    · refine vG_mono (fun st' w' q => ?_) (vOp_swap hl hap hns (k3 hx))
      unfold vG
      simp only [hg]
      exact ⟨d, x, k1, keep st' w' q.1, fun _ => q.2, fun e => absurd hx e⟩
    · refine vG_mono (fun st' w' q => ?_) (swapGA h1 h2 (k4 hx))
      unfold vG
      simp only [hg]
      exact ⟨d, x, k1, keep st' w' q.1, fun e => absurd e hx, fun _ => q.2⟩
end

/-- What lies ahead of block b is as it was. -/
structure Under (b : Nat) (w w' : World) : Prop where
  os : w'.os = w.os
  tape : w'.tape = w.tape
  output : w'.output = w.output
  block : ∀ k, k < b → w'.heap[k]? = w.heap[k]?
/-- Variable h has these cells now; of the others those that 'keep' names are known. -/
def St.cut (st : St) (h b : Nat) (cs : List Value) (keep : Nat → Bool) : St := ⟨st.env, fun g => bif Nat.beq g h then some (b, cs) else bif keep g then st.mem g else none⟩
def InMem (st : St) (w : World) : Prop := ∀ h b cs, st.mem h = some (b, cs) → Var w b cs
/-- An operation in a region whose order is the text's: it may read and lay any memory, or write a block that is no variable. -/
def vFree (P : Program) (B : Nat) (o : Oper) (st : St) (w : World) (K : St → World → Prop) : Prop :=
  known st o = true ∧ noSel o = true ∧
  ((InMem st w → ∃ R, RunsTo P o st w R ∧ ∀ v w1, R v w1 → Later w w1 → K (st.put o.dst (.v v)) w1) ∨
   (InMem st w → ∃ w' c, (execOp st.rho o).run P w = .ok .skip w' ∧ o.dst = none ∧ Stored c w w' ∧ B ≤ c ∧ (∀ h b cs, st.mem h = some (b, cs) → b ≠ c) ∧ K st w') ∨
   (InMem st w → ∃ v w' row, (execOp st.rho o).run P w = .ok (.value v) w' ∧ w.grownBy w' row ∧ (∀ k, row = some k → B ≤ k) ∧ (∀ h b cs, st.mem h = some (b, cs) → row ≠ some b) ∧ K (st.put o.dst (.v v)) w') ∨
   (InMem st w → ∃ f args h b b0 cs keep, (execOp st.rho o).run P w = .ok (.enter f args) w ∧ st.mem h = some (b, cs) ∧ ((b0 = b ∧ isH h = false) ∨ (b0 ≤ b ∧ B ≤ b0)) ∧ (∀ g c ds, keep g = true → g ≠ h → st.mem g = some (c, ds) → c < b0) ∧
     Calls P f args w (fun e w1 => ∃ v cs', e = .returned v ∧ Under b0 w w1 ∧ Var w1 b cs' ∧ K ((st.cut h b cs' keep).put o.dst (.v v)) w1)) ∨
   (InMem st w → ∃ f args h b cs, (execOp st.rho o).run P w = .ok (.enter f args) w ∧ st.mem h = some (b, cs) ∧
     Calls P f args w (fun e w1 => ∃ v cs', e = .returned v ∧ w.grownBy w1 (some b) ∧ Var w1 b cs' ∧ K ((st.set h b cs').put o.dst (.v v)) w1)))
/-- An operation's guard says yes. -/
def gok (ops : Array Oper) (st : St) : Option (Nat × Bool) → Bool
  | none => true
  | some (j, t) =>
    match (ops[j]?).bind (·.dst) with
    | some d => match st.env d with
      | some (Sum.inl (.bool c)) => c == t
      | _ => false
    | none => false
/-- An operation's guard says no. -/
def gno (ops : Array Oper) (st : St) : Option (Nat × Bool) → Bool
  | none => false
  | some (j, t) =>
    match (ops[j]?).bind (·.dst) with
    | some d => match st.env d with
      | some (Sum.inl (.bool c)) => c != t
      | some (Sum.inl (.tuple _)) => true
      | _ => false
    | none => false
/-- A region's operations in an order; 'lax': the text's. -/
def vOrd (P : Program) (B : Nat) (lax : Bool) (ops : Array Oper) (Rs : Nat → Value → World → Prop) (K : St → World → Prop) : List Nat → St → World → Prop
  | [], st, w => K st w
  | i :: rest, st, w => ∃ o, ops[i]? = some o ∧ (vG P ops (Rs i) o st w (vOrd P B lax ops Rs K rest) ∨ (lax = true ∧ gok ops st o.guard = true ∧ vFree P B o st w (vOrd P B lax ops Rs K rest)))
/-- R (a bit an operation): what can come ahead of i; nothing of it is in i's way. -/
def freeV (md : Region.Mode) (ops : Array Oper) (listed : Array Bool) (i : Nat) (oi : Oper) (R : Nat) : Bool :=
  (List.range ops.size).all fun j =>
    (!listed.getD j false || R.testBit j) && (j == i || match ops[j]? with
      | some oj => (R.testBit j || oj.after.any (fun e => Region.binds md e && !R.testBit e.on)) && (!R.testBit j || listed.getD j true || (oi.apart ops oj && (!memOp oi.op || !isStore oj.op)))
      | none => true)
def okOrder (md : Region.Mode) (ops : Array Oper) : Array Bool → List Nat → List Nat → Bool
  | listed, [], _ => (Region.ready md ops listed).isEmpty
  | listed, i :: rest, Rm =>
    (match ops[i]? with
     | some oi => (Region.ready md ops listed).contains i && ((lightOp oi.op && freeV md ops listed i oi (Rm.headD 0)) || (Region.ready md ops listed == [i]))
     | none => false) && okOrder md ops (listed.setIfInBounds i true) rest Rm.tail
/-- An order up to where two may come up, and an order behind each. -/
def okOrder2 (md : Region.Mode) (ops : Array Oper) : Array Bool → List Nat → List Nat → List Nat → List Nat → List Nat → List Nat → Bool
  | listed, [], _, l1, m1, l2, m2 =>
    match l1, l2 with
    | i :: r1, j :: r2 => (Region.ready md ops listed == [i, j]) && okOrder md ops (listed.setIfInBounds i true) r1 m1 && okOrder md ops (listed.setIfInBounds j true) r2 m2 && r1.length == r2.length
    | _, _ => false
  | listed, i :: rest, Rm, l1, m1, l2, m2 =>
    (match ops[i]? with
     | some oi => (Region.ready md ops listed).contains i && ((lightOp oi.op && freeV md ops listed i oi (Rm.headD 0)) || (Region.ready md ops listed == [i]))
     | none => false) && okOrder2 md ops (listed.setIfInBounds i true) rest Rm.tail l1 m1 l2 m2
section
variable {P : Program} {n B : Nat} {hol : List Nat} {w0 : World} {md : Region.Mode} {ops : Array Oper} {Rs : Nat → Value → World → Prop} {K : St → World → Prop} {Q : Exit → Act → World → Prop}
theorem vG_false {R : Value → World → Prop} {o : Oper} {st : St} {w : World} (hl : lightOp o.op = true) (h : vG P ops R o st w (fun _ _ => False)) : False := by
  have key : ∀ _ : vOp P R o st w (fun _ _ => False), False := by
    intro h
    obtain ⟨_, _, h⟩ := h
    split at h
    · obtain ⟨d, z, _, _, _, h⟩ := h; exact h _ w (Nat.le_refl _) (Later.refl w)
    · obtain ⟨d, _, _, h⟩ := h; exact h _ w (Nat.le_refl _) (Later.refl w)
    · split at h
      · obtain ⟨_, _, _, _, h⟩ := h; exact h
      · obtain ⟨_, _, h⟩ := h; exact h
    · rename_i hop; simp [hop, lightOp] at hl
    · rename_i hop; simp [hop, lightOp] at hl
    · rename_i hop; simp [hop, lightOp] at hl
    · rename_i hop; simp [hop, lightOp] at hl
    · obtain ⟨_, _, h⟩ := h; exact h
    · obtain ⟨_, _, h⟩ := h; exact h
    · obtain ⟨_, _, h⟩ := h; exact h
  unfold vG at h
  cases hg : o.guard with
  | none => simp only [hg] at h; exact key h
  | some gt =>
    simp only [hg] at h
    obtain ⟨d, x, _, _, h3, h4⟩ := h
    by_cases hx : x = .bool gt.2
    · exact key (h3 hx)
    · exact h4 hx
/-- What can come ahead of i is not in its way. -/
structure Way (md : Region.Mode) (ops : Array Oper) (listed : Array Bool) (i : Nat) (oi : Oper) (R : Nat → Bool) : Prop where
  done : ∀ j, listed.getD j false = true → R j = true
  closed : ∀ j oj, ops[j]? = some oj → j ≠ i → (∀ e ∈ oj.after, Region.binds md e = true → R e.on = true) → R j = true
  apart : ∀ j oj, ops[j]? = some oj → j ≠ i → R j = true → listed.getD j true = false → oi.apart ops oj = true ∧ (memOp oi.op = true → isStore oj.op = false)
theorem vAny_first {i : Nat} {oi : Oper} {R : Nat → Bool} (hi : ops[i]? = some oi) (hl : lightOp oi.op = true) :
    ∀ (fuel : Nat) (listed : Array Bool) (st : St) (w : World), Way md ops listed i oi R →
      i ∈ Region.ready md ops listed → vG P ops (Rs i) oi st w (vAny P md ops Rs K fuel (listed.setIfInBounds i true)) → vAny P md ops Rs K (fuel + 1) listed st w := by
  intro fuel
  induction fuel with
  | zero =>
    intro listed st w _ hr H
    refine ⟨fun h => (by rw [h] at hr; cases hr), fun j hj o ho => ?_⟩
    by_cases hji : j = i
    · subst hji; rw [hi] at ho; cases ho; exact H
    · have hmem := ready_mono hj hji
      exact (vG_false hl (vG_mono (fun st' w' q => by rw [q.1] at hmem; cases hmem) H)).elim
  | succ fuel ih =>
    intro listed st w hway hr H
    refine ⟨fun h => (by rw [h] at hr; cases hr), fun j hj o ho => ?_⟩
    by_cases hji : j = i
    · subst hji; rw [hi] at ho; cases ho; exact H
    · have hmem := ready_mono hj hji
      obtain ⟨hjun, oj, hoj, hall⟩ := mem_ready.1 hj
      rw [ho] at hoj
      cases hoj
      have hjR := hway.closed j o ho hji (fun e he hb => hway.done _ (hall e he hb))
      obtain ⟨hap, hns⟩ := hway.apart j o ho hji hjR hjun
      have h2 := vG_swap hl hap hns (vG_mono (fun st' w' q => q.2 j hmem o ho) H)
      have hway' : Way md ops (listed.setIfInBounds j true) i oi R := by
        refine ⟨fun k hk => ?_, hway.closed, fun k ok hk hki hR hun => hway.apart k ok hk hki hR ?_⟩
        · by_cases hjk : j = k
          · subst hjk; exact hjR
          · rw [getD_set_ne false hjk] at hk; exact hway.done k hk
        · by_cases hjk : j = k
          · subst hjk; exact hjun
          · rw [getD_set_ne true hjk] at hun; exact hun
      refine vG_mono (fun st' w' q => ih (listed.setIfInBounds j true) st' w' hway' (ready_mono hr (Ne.symm hji)) ?_) h2
      rw [Array.setIfInBounds_comm _ _ hji]
      exact q
theorem freeV_spec {listed : Array Bool} {i : Nat} {oi : Oper} {R : Nat} (hsz : listed.size ≤ ops.size) (h : freeV md ops listed i oi R = true) : Way md ops listed i oi R.testBit := by
  simp only [freeV, List.all_eq_true, List.mem_range, Bool.and_eq_true, Bool.or_eq_true, Bool.not_eq_true', beq_iff_eq] at h
  refine ⟨fun j hj => ?_, fun j oj ho hne hall => ?_, fun j oj ho hne hR hun => ?_⟩
  · have hlt : j < ops.size := by
      rcases Nat.lt_or_ge j listed.size with h' | h'
      · omega
      · simp [Array.getElem?_eq_none h'] at hj
    rcases (h j hlt).1 with e | e
    · rw [hj] at e; cases e
    · exact e
  · have hlt := (Array.getElem?_eq_some_iff.1 ho).1
    rcases (h j hlt).2 with e | e
    · exact absurd e hne
    · simp only [ho, Bool.and_eq_true, Bool.or_eq_true, Bool.not_eq_true'] at e
      rcases e.1 with e | e
      · exact e
      · obtain ⟨x, hx, hb⟩ := Array.any_eq_true'.1 e
        simp only [Bool.and_eq_true, Bool.not_eq_true'] at hb
        rw [hall x hx hb.1] at hb
        cases hb.2
  · have hlt := (Array.getElem?_eq_some_iff.1 ho).1
    rcases (h j hlt).2 with e | e
    · exact absurd e hne
    · simp only [ho, Bool.and_eq_true, Bool.or_eq_true, Bool.not_eq_true'] at e
      rcases e.2 with (e | e) | e
      · rw [hR] at e; cases e
      · rw [hun] at e; cases e
      · refine ⟨e.1, fun hm => ?_⟩
        rcases e.2 with q | q
        · rw [hm] at q; cases q
        · exact q
theorem vAny_step {i : Nat} {listed : Array Bool} {fuel R : Nat} {st : St} {w : World} {o : Oper} (hsz : listed.size ≤ ops.size) (ho : ops[i]? = some o)
    (hok : ((Region.ready md ops listed).contains i && ((lightOp o.op && freeV md ops listed i o R) || (Region.ready md ops listed == [i]))) = true)
    (h : vG P ops (Rs i) o st w (vAny P md ops Rs K fuel (listed.setIfInBounds i true))) : vAny P md ops Rs K (fuel + 1) listed st w := by
  simp only [Bool.and_eq_true, Bool.or_eq_true] at hok
  obtain ⟨hr, hc⟩ := hok
  rcases hc with ⟨hl, hf⟩ | hc
  · exact vAny_first ho hl _ listed st w (freeV_spec hsz hf) (by simpa using hr) h
  · have hc : Region.ready md ops listed = [i] := by simpa using hc
    refine ⟨fun e => (by rw [hc] at e; cases e), fun j hj o' ho' => ?_⟩
    rw [hc] at hj
    simp only [List.mem_singleton] at hj
    subst hj
    rw [ho] at ho'
    cases ho'
    exact h
theorem vAny_order : ∀ (order Rm : List Nat) (listed : Array Bool) (st : St) (w : World), listed.size ≤ ops.size → okOrder md ops listed order Rm = true → vOrd P B false ops Rs K order st w →
    vAny P md ops Rs K order.length listed st w
  | [], _, listed, st, w, _, hok, h => by
    simp only [okOrder, List.isEmpty_iff] at hok
    exact ⟨hok, h⟩
  | i :: rest, Rm, listed, st, w, hsz, hok, h => by
    obtain ⟨o, ho, h⟩ := h
    have h : vG P ops (Rs i) o st w (vOrd P B false ops Rs K rest) := h.resolve_right (fun q => by cases q.1)
    simp only [okOrder, ho] at hok
    rw [Bool.and_eq_true] at hok
    exact vAny_step hsz ho hok.1 (vG_mono (fun st' w' q => vAny_order rest _ _ st' w' (by simpa using hsz) hok.2 q) h)
theorem vAny_order2 {l1 m1 l2 m2 : List Nat} : ∀ (order Rm : List Nat) (listed : Array Bool) (st : St) (w : World), listed.size ≤ ops.size → okOrder2 md ops listed order Rm l1 m1 l2 m2 = true →
    vOrd P B false ops Rs (fun st w => vOrd P B false ops Rs K l1 st w ∧ vOrd P B false ops Rs K l2 st w) order st w → vAny P md ops Rs K (order.length + l1.length) listed st w
  | [], _, listed, st, w, hsz, hok, h => by
    simp only [okOrder2] at hok
    split at hok
    · rename_i i r1 j r2
      simp only [Bool.and_eq_true, beq_iff_eq] at hok
      obtain ⟨⟨⟨hr, h1⟩, h2⟩, hl⟩ := hok
      have hl : r1.length = r2.length := hl
      rw [List.length_nil, Nat.zero_add, List.length_cons]
      refine ⟨fun e => (by rw [hr] at e; cases e), fun k hk o ho => ?_⟩
      rw [hr] at hk
      simp only [List.mem_cons, List.not_mem_nil, or_false] at hk
      obtain ⟨k1, k2⟩ := h
      rcases hk with rfl | rfl
      · obtain ⟨o', ho', q⟩ := k1
        rw [ho] at ho'
        cases ho'
        have q := q.resolve_right (fun q => by cases q.1)
        exact vG_mono (fun st' w' q => vAny_order r1 _ _ st' w' (by simpa using hsz) h1 q) q
      · obtain ⟨o', ho', q⟩ := k2
        rw [ho] at ho'
        cases ho'
        have q := q.resolve_right (fun q => by cases q.1)
        rw [hl]
        exact vG_mono (fun st' w' q => vAny_order r2 _ _ st' w' (by simpa using hsz) h2 q) q
    · cases hok
  | i :: rest, Rm, listed, st, w, hsz, hok, h => by
    obtain ⟨o, ho, h⟩ := h
    have h := h.resolve_right (fun q => by cases q.1)
    simp only [okOrder2, ho] at hok
    rw [Bool.and_eq_true] at hok
    rw [List.length_cons, Nat.add_right_comm]
    exact vAny_step hsz ho hok.1 (vG_mono (fun st' w' q => vAny_order2 rest _ _ st' w' (by simpa using hsz) hok.2 q) h)
theorem vFree_sound {o : Oper} {st : St} {a : Act} {w : World} (H : Holds n hol w0 st a w) (hB : w0.heap.size ≤ B) (hd : ∀ k, o.dst = some k → k < n) (h : vFree P B o st w K) :
    o.wp P a w (fun a' w' => ∃ st', Holds n hol w0 st' a' w' ∧ K st' w') Q := by
  obtain ⟨hk, hs, h⟩ := h
  unfold Oper.wp
  rw [H.exec hk hs]
  rcases h with h | h | h | h | h
  · obtain ⟨R, hr, hK⟩ := h H.mem
    unfold RunsTo at hr
    split at hr
    · rename_i v w' hrun
      rw [hrun]
      exact ⟨_, (H.later hr.2).put o.dst hd (.v v), hK v w' hr.1 hr.2⟩
    · rename_i f args w' hrun
      rw [hrun]
      refine Calls.mono hr (fun e w'' he => ?_)
      obtain ⟨v, rfl, hR, hl⟩ := he
      exact ⟨_, (H.later hl).put o.dst hd (.v v), hK v w'' hR hl⟩
    · rename_i row args w' hrun
      rw [hrun]
      refine Rows.mono hr (fun v w'' he => ?_)
      exact ⟨_, (H.later he.2).put o.dst hd (.v v), hK v w'' he.1 he.2⟩
    · exact hr.elim
  · obtain ⟨w', c, hr, hdst, hst, hc, hne, hK⟩ := h H.mem
    rw [hr]
    simp only [Oper.upon, hdst]
    refine ⟨st, ⟨H.size, H.defers, H.env, fun g b cs e => ?_, H.own, H.inj, hst.grown H.old (.inl (by omega))⟩, hK⟩
    obtain ⟨t, ht⟩ := H.mem g b cs e
    exact ⟨t, by rw [hst.block b (hne g b cs e)]; exact ht⟩
  · obtain ⟨v, w', row, hr, hgr, hB', hne, hK⟩ := h H.mem
    rw [hr]
    simp only [Oper.upon]
    have hold : Grown w0 w' hol := ⟨hgr.os.trans H.old.os, hgr.tape.trans H.old.tape, hgr.output.trans H.old.output, Nat.le_trans H.old.size hgr.size, fun k hk hr => (hgr.block k (Nat.lt_of_lt_of_le hk H.old.size) (fun e => by have := hB' k e.symm; omega)).trans (H.old.block k hk hr)⟩
    have H1 : Holds n hol w0 st a w' := ⟨H.size, H.defers, H.env, fun g b cs e => by
      have hv := H.mem g b cs e
      have hlt := hv.lt
      obtain ⟨t, ht⟩ := hv
      exact ⟨t, by rw [hgr.block b hlt (fun q => hne g b cs e q.symm)]; exact ht⟩, H.own, H.inj, hold⟩
    exact ⟨_, H1.put o.dst hd (.v v), hK⟩
  · obtain ⟨f, args, h, b, b0, cs, keep, hr, hm, hb0, hlt, hc⟩ := h H.mem
    rw [hr]
    simp only [Oper.upon]
    refine Calls.mono hc (fun e w1 he => ?_)
    obtain ⟨v, cs', rfl, hu, hv, hK⟩ := he
    have hown := H.own h b cs hm
    have hown0 : w0.heap.size ≤ b0 := by
      rcases hb0 with e | e
      · rw [e.1]
        rcases hown with q | q
        · exact q
        · rw [q.1] at e; exact absurd e.2 (by decide)
      · omega
    have key : ∀ g c ds, (st.cut h b cs' keep).mem g = some (c, ds) → (g = h ∧ c = b ∧ ds = cs') ∨ (g ≠ h ∧ keep g = true ∧ st.mem g = some (c, ds)) := by
      intro g c ds e
      by_cases q : g = h
      · subst q
        simp only [St.cut, show Nat.beq g g = true by simp, cond, Option.some.injEq, Prod.mk.injEq] at e
        exact .inl ⟨rfl, e.1.symm, e.2.symm⟩
      · have q' : Nat.beq g h = false := by
          cases hh : Nat.beq g h with
          | false => rfl
          | true => exact absurd (Nat.eq_of_beq_eq_true hh) q
        simp only [St.cut, q', cond] at e
        split at e
        · rename_i hkeep; exact .inr ⟨q, hkeep, e⟩
        · cases e
    have H1 : Holds n hol w0 (st.cut h b cs' keep) a w1 := by
      refine ⟨H.size, H.defers, H.env, fun g c ds e => ?_, fun g c ds e => ?_, fun g c ds g' c' ds' e e' hne => ?_, ?_⟩
      · rcases key g c ds e with ⟨rfl, rfl, rfl⟩ | ⟨q, hk, e⟩
        · exact hv
        · obtain ⟨t, ht⟩ := H.mem g c ds e
          exact ⟨t, by rw [hu.block c (hlt g c ds hk q e)]; exact ht⟩
      · rcases key g c ds e with ⟨rfl, rfl, rfl⟩ | ⟨q, hk, e⟩
        · exact hown
        · exact H.own g c ds e
      · have back : ∀ g c ds, (st.cut h b cs' keep).mem g = some (c, ds) → ∃ ds', st.mem g = some (c, ds') := by
          intro g c ds e
          rcases key g c ds e with ⟨rfl, rfl, rfl⟩ | ⟨q, hk, e⟩
          · exact ⟨cs, hm⟩
          · exact ⟨ds, e⟩
        obtain ⟨x, hx⟩ := back g c ds e
        obtain ⟨y, hy⟩ := back g' c' ds' e'
        exact H.inj g c x g' c' y hx hy hne
      · have hb1 := hv.lt
        exact ⟨hu.os.trans H.old.os, hu.tape.trans H.old.tape, hu.output.trans H.old.output, by
          rcases hb0 with e | e
          · omega
          · omega, fun k hk hr => (hu.block k (by omega)).trans (H.old.block k hk hr)⟩
    exact ⟨_, H1.put o.dst hd (.v v), hK⟩
  · obtain ⟨f, args, h, b, cs, hr, hm, hc⟩ := h H.mem
    rw [hr]
    simp only [Oper.upon]
    refine Calls.mono hc (fun e w1 he => ?_)
    obtain ⟨v, cs', rfl, hgr, hv, hK⟩ := he
    exact ⟨_, (H.turned hm hgr hv).put o.dst hd (.v v), hK⟩
theorem vOrd_sound (hd : dstsIn n ops = true) (hB : w0.heap.size ≤ B) (hq : ∀ st a w, Holds n hol w0 st a w → K st w → Q .normal a w) :
    ∀ (l : List Nat) (st : St) (a : Act) (w : World), Holds n hol w0 st a w → vOrd P B true ops Rs K l st w → wpOps P ops Q l a w
  | [], _, _, _, H, h => hq _ _ _ H h
  | i :: rest, _, _, _, H, h => by
    obtain ⟨o, ho, h⟩ := h
    rw [wpOps_cons]
    refine wpOp_mono (K := fun a' w' => ∃ st', Holds n hol w0 st' a' w' ∧ vOrd P B true ops Rs K rest st' w') (fun a' w' ⟨st', H', h'⟩ => vOrd_sound hd hB hq rest st' a' w' H' h') ?_
    rcases h with h | ⟨_, hg, h⟩
    · exact vG_sound ho H (dstsIn_spec hd ho) h
    · unfold wpOp
      simp only [ho]
      rw [if_pos (by
        simp only [Region.wanted]
        cases hgd : o.guard with
        | none => rfl
        | some gt =>
          obtain ⟨j, t⟩ := gt
          rw [hgd] at hg
          simp only [gok] at hg
          split at hg
          · rename_i d hj
            split at hg
            · rename_i c hc
              have hy := H.env _ _ hc
              simp only [yielded, hj, Option.bind_some, hy, SV.val]
              simpa using hg
            · cases hg
          · cases hg)]
      exact .inl (vFree_sound H hB (dstsIn_spec hd ho) h)
end

/-! ### Code -/
def Wp (P : Program) (n : Nat) (hol : List Nat) (w0 : World) (c : Code) (st : St) (w : World) (K : Exit → St → World → Prop) : Prop :=
  ∀ a, Holds n hol w0 st a w → c.wp P (fun x a' w' => ∃ st', Holds n hol w0 st' a' w' ∧ K x st' w') a w
@[reducible] def thenK (next : St → World → Prop) (K : Exit → St → World → Prop) : Exit → St → World → Prop
  | .normal, st, w => next st w
  | e, st, w => K e st w
@[reducible] def blockK (id : Nat) (K : Exit → St → World → Prop) : Exit → St → World → Prop
  | .exit id', st, w => if id' = id then K .normal st w else K (.exit id') st w
  | e, st, w => K e st w
def St.of (env : List (Nat × SV)) (mem : List (Nat × Nat × List Value)) : St := ⟨fun s => env.lookup s, fun h => mem.lookup h⟩
/-- The one knows no more than the other. -/
structure St.le (st st' : St) : Prop where
  env : ∀ s x, st.env s = some x → st'.env s = some x
  mem : ∀ h x, st.mem h = some x → st'.mem h = some x
section
variable {P : Program} {n B : Nat} {hol : List Nat} {w0 w : World} {st st' : St} {K K' : Exit → St → World → Prop} {a : Act}
theorem St.le.refl (st : St) : st.le st := ⟨fun _ _ h => h, fun _ _ h => h⟩
theorem lookup_mem {α : Type} {l : List (Nat × α)} {s : Nat} {x : α} (h : l.lookup s = some x) : (s, x) ∈ l := by
  induction l with
  | nil => cases h
  | cons p l ih =>
    obtain ⟨k, y⟩ := p
    rw [List.lookup_cons] at h
    split at h
    · rename_i e
      have : s = k := by simpa using e
      cases h
      subst this
      exact List.mem_cons_self
    · exact List.mem_cons_of_mem _ (ih h)
theorem St.of_le {env : List (Nat × SV)} {mem : List (Nat × Nat × List Value)} (h1 : ∀ p ∈ env, st.env p.1 = some p.2) (h2 : ∀ p ∈ mem, st.mem p.1 = some p.2) : (St.of env mem).le st :=
  ⟨fun s x h => h1 (s, x) (lookup_mem h), fun g x h => h2 (g, x) (lookup_mem h)⟩
def AllIn {α : Type} (f : Nat → Option α) : List (Nat × α) → Prop
  | [] => True
  | p :: r => f p.1 = some p.2 ∧ AllIn f r
theorem AllIn.mem {α : Type} {f : Nat → Option α} : ∀ {l : List (Nat × α)}, AllIn f l → ∀ p ∈ l, f p.1 = some p.2
  | [], _, p, hp => by cases hp
  | q :: r, h, p, hp => by
    rcases List.mem_cons.1 hp with e | e
    · subst e; exact h.1
    · exact AllIn.mem h.2 p e
theorem St.of_le' {env : List (Nat × SV)} {mem : List (Nat × Nat × List Value)} (h1 : AllIn st.env env) (h2 : AllIn st.mem mem) : (St.of env mem).le st := St.of_le h1.mem h2.mem
theorem Holds.le (H : Holds n hol w0 st a w) (h : st'.le st) : Holds n hol w0 st' a w :=
  ⟨H.size, H.defers, fun s x e => H.env s x (h.env s x e), fun g b cs e => H.mem g b cs (h.mem g _ e), fun g b cs e => H.own g b cs (h.mem g _ e), fun g b cs g' b' cs' e e' => H.inj g b cs g' b' cs' (h.mem g _ e) (h.mem g' _ e'), H.old⟩
theorem Wp.le {c : Code} (h : Wp P n hol w0 c st' w K) (l : st'.le st) : Wp P n hol w0 c st w K := fun a H => h a (H.le l)
theorem Wp.mono {c : Code} (h : Wp P n hol w0 c st w K) (hk : ∀ e st w, K e st w → K' e st w) : Wp P n hol w0 c st w K' :=
  fun a H => Code.wp_mono (fun _ _ _ ⟨st', H', q⟩ => ⟨st', H', hk _ _ _ q⟩) (h a H)
theorem Wp.seq {x y : Code} (h : Wp P n hol w0 x st w (thenK (fun st' w' => Wp P n hol w0 y st' w' K) K)) : Wp P n hol w0 (.seq x y) st w K := fun a H =>
  wp_seq (Code.wp_mono (fun e a' w' ⟨st', H', q⟩ => by
    cases e with
    | normal => exact q a' H'
    | _ => exact ⟨st', H', q⟩) (h a H))
theorem Wp.cond {c : Operand} {x y : Code} {t : Bool} (hc : st.ev c = .v (.bool t)) (hk : ∀ s, c = .tmp s → (st.env s).isSome = true)
    (h1 : t = true → Wp P n hol w0 x st w K) (h2 : t = false → Wp P n hol w0 y st w K) : Wp P n hol w0 (.cond c x y) st w K := fun a H =>
  wp_cond_split (t := t) (by rw [H.eval hk, St.rho, hc]; rfl) (fun e => h1 e a H) (fun e => h2 e a H)
def okOpd (st : St) : Operand → Bool
  | .tmp t => (st.env t).isSome
  | _ => true
theorem okOpd_spec {c : Operand} (h : okOpd st c = true) : ∀ s, c = .tmp s → (st.env s).isSome = true := fun s e => by subst e; exact h
theorem Wp.condT {c : Operand} {x y : Code} (hc : st.ev c = .v (.bool true)) (hk : okOpd st c = true) (h1 : Wp P n hol w0 x st w K) : Wp P n hol w0 (.cond c x y) st w K :=
  Wp.cond hc (okOpd_spec hk) (fun _ => h1) (fun e => by cases e)
theorem Wp.condF {c : Operand} {x y : Code} (hc : st.ev c = .v (.bool false)) (hk : okOpd st c = true) (h1 : Wp P n hol w0 y st w K) : Wp P n hol w0 (.cond c x y) st w K :=
  Wp.cond hc (okOpd_spec hk) (fun e => by cases e) (fun _ => h1)
theorem Wp.block {id : Nat} {c : Code} (h : Wp P n hol w0 c st w (blockK id K)) : Wp P n hol w0 (.block id c) st w K := fun a H =>
  wp_block (Code.wp_mono (fun e a' w' ⟨st', H', q⟩ => by
    cases e with
    | exit id' =>
      simp only [blockK] at q
      simp only [Exit.inBlock]
      split at q <;> rename_i hid <;> simp only [hid, if_true, if_false] <;> exact ⟨st', H', q⟩
    | _ => exact ⟨st', H', q⟩) (h a H))
theorem Wp.skip (h : K .normal st w) : Wp P n hol w0 .skip st w K := fun _ H => wp_skip ⟨st, H, h⟩
theorem Wp.exit {id : Nat} (h : K (.exit id) st w) : Wp P n hol w0 (.exit id) st w K := fun _ H => wp_exit ⟨st, H, h⟩
theorem Wp.ret (h : K .ret st w) : Wp P n hol w0 .ret st w K := fun _ H => wp_ret ⟨st, H, h⟩
/-- A region whose order is the text's. -/
theorem Wp.region {id : Nat} {ops : Array Oper} (order : List Nat) (hd : dstsIn n ops = true) (ho : List.range ops.size = order) (h : vOrd P w0.heap.size true ops (fun _ _ _ => True) (K .normal) order st w) : Wp P n hol w0 (.region id ops false) st w K := fun _ H =>
  wp_region (by
    rw [ho]
    exact vOrd_sound hd (Nat.le_refl _) (fun st _ _ H' q => ⟨st, H', q⟩) _ _ _ _ H h)
/-- A region that draws its order. -/
theorem Wp.drawn {id : Nat} {ops : Array Oper} (hm : P.follows .mixedOrders = true) (hd : dstsIn n ops = true) (order Rm : List Nat) (hl : order.length = ops.size) (ho : okOrder .any ops (Array.replicate ops.size false) order Rm = true)
    (Rs : Nat → Value → World → Prop) (h : ∀ w', Later w w' → vOrd P w0.heap.size false ops Rs (K .normal) order st w') : Wp P n hol w0 (.region id ops true) st w K := fun a H =>
  wp_region_any hm (by
    have l : Later w { w with drawn := w.drawn + 1 } := Below.drew (Below.refl _ _)
    have q := vAny_order order Rm _ _ _ (by simp) ho (h _ l)
    rw [hl] at q
    exact vAny_sound hd (fun st _ _ H' q => ⟨st, H', q⟩) _ _ _ _ _ (H.later l) q)
/-- A region that draws its order, in which two may come up at one place. -/
theorem Wp.drawn2 {id : Nat} {ops : Array Oper} (hm : P.follows .mixedOrders = true) (hd : dstsIn n ops = true) (order Rm l1 m1 l2 m2 : List Nat) (hl : order.length + l1.length = ops.size) (ho : okOrder2 .any ops (Array.replicate ops.size false) order Rm l1 m1 l2 m2 = true)
    (Rs : Nat → Value → World → Prop) (h : ∀ w', Later w w' → vOrd P w0.heap.size false ops Rs (fun st w => vOrd P w0.heap.size false ops Rs (K .normal) l1 st w ∧ vOrd P w0.heap.size false ops Rs (K .normal) l2 st w) order st w') : Wp P n hol w0 (.region id ops true) st w K := fun a H =>
  wp_region_any hm (by
    have l : Later w { w with drawn := w.drawn + 1 } := Below.drew (Below.refl _ _)
    have q := vAny_order2 order Rm _ _ _ (by simp) ho (h _ l)
    rw [hl] at q
    exact vAny_sound hd (fun st _ _ H' q => ⟨st, H', q⟩) _ _ _ _ _ (H.later l) q)
theorem exists_least {p : Nat → Prop} (h : ∃ k, p k) : ∃ m, p m ∧ ∀ k, p k → m ≤ k := by
  obtain ⟨k, hk⟩ := h
  induction k using Nat.strongRecOn with
  | _ k ih =>
    by_cases g : ∃ j, j < k ∧ p j
    · obtain ⟨j, hj, pj⟩ := g
      exact ih j hj pj
    · exact ⟨k, hk, fun j pj => Nat.le_of_not_lt (fun hj => g ⟨j, hj, pj⟩)⟩
/-- A loop: each round begins with Inv, of a number that falls. -/
theorem Wp.loop {c : Code} (Inv : Nat → St → World → Prop) (h0 : ∃ k st0, St.le st0 st ∧ Inv k st0 w)
    (round : ∀ k st w, Inv k st w → Wp P n hol w0 c st w (thenK (fun st' w' => ∃ k' st1, k' < k ∧ St.le st1 st' ∧ Inv k' st1 w') K)) : Wp P n hol w0 (.loop c) st w K := by
  intro a H
  let I : Act → World → Prop := fun a w => ∃ k, ∃ st, Holds n hol w0 st a w ∧ Inv k st w
  let μ : Act → World → Nat := fun a w => @dite _ (I a w) (Classical.propDecidable _) (fun h => Classical.choose (exists_least h)) (fun _ => 0)
  have hμ : ∀ a w (h : I a w), μ a w = Classical.choose (exists_least h) := fun a w h => dif_pos h
  refine wp_loop I μ ?_ (fun a w hI => ?_)
  · obtain ⟨k, st0, hle, hi⟩ := h0
    exact ⟨k, st0, H.le hle, hi⟩
  · obtain ⟨⟨st, H', hi⟩, _⟩ := Classical.choose_spec (exists_least hI)
    refine Code.wp_mono (fun e a' w' ⟨st', H'', q⟩ => ?_) (round _ st w hi a H')
    cases e with
    | normal =>
      obtain ⟨k', st1, hlt, hle, hi'⟩ := q
      have hI' : I a' w' := ⟨k', st1, H''.le hle, hi'⟩
      refine ⟨hI', ?_⟩
      rw [hμ a w hI, hμ a' w' hI']
      exact Nat.lt_of_le_of_lt ((Classical.choose_spec (exists_least hI')).2 k' ⟨st1, H''.le hle, hi'⟩) hlt
    | _ => exact ⟨st', H'', q⟩
end

def Res1 (P : Program) (st : St) : ResultVar → Value → Prop
  | .tmp t, v => ∃ x, st.env t = some x ∧ x.val = v
  | .cell p t, v => ∃ h b off cs, st.env p = some (.p h b off) ∧ st.mem h = some (b, cs) ∧ readOf P t cs off = some v
section
variable {P : Program} {n : Nat} {hol : List Nat} {w0 w : World} {st : St} {a : Act} {fn : Func}
theorem Holds.slot (H : Holds n hol w0 st a w) {s : Nat} {x : SV} (h : st.env s = some x) : a.tmps[s]?.getD undef = x.val := by rw [H.env s x h]; rfl
def resM (tmps : Array Value) : ResultVar → Sem Value
  | .tmp t => pure (tmps.getD t undef)
  | .cell q t => do loadVar t (← asAddr (tmps.getD q undef))
theorem results_eq (fn : Func) (tmps : Array Value) : results fn tmps = (do let vs ← fn.results.mapM (resM tmps); pure (if h : vs.size = 1 then vs[0] else .tuple vs)) := by
  unfold results
  congr
theorem res1_run (H : Holds n hol w0 st a w) {r : ResultVar} {v : Value} (h : Res1 P st r v) : (resM a.tmps r).run P w = .ok v w := by
  cases r with
  | tmp t =>
    obtain ⟨x, h1, h2⟩ := h
    have := H.slot h1
    simp [resM, this, h2]
  | cell q t =>
    obtain ⟨g, b, off, cs, h1, h2, h3⟩ := h
    have e := H.slot h1
    have hl := run_readOf (P := P) (H.mem g b cs h2) h3
    simp [resM, e, SV.val, asAddr, hl]
def Resd (P : Program) (st : St) : List ResultVar → Value → Prop
  | [], v => v = .tuple #[]
  | [r], v => Res1 P st r v
  | [r, s], v => ∃ x y, Res1 P st r x ∧ Res1 P st s y ∧ v = .tuple #[x, y]
  | [r, s, t], v => ∃ x y z, Res1 P st r x ∧ Res1 P st s y ∧ Res1 P st t z ∧ v = .tuple #[x, y, z]
  | [r, s, t, q], v => ∃ x y z u, Res1 P st r x ∧ Res1 P st s y ∧ Res1 P st t z ∧ Res1 P st q u ∧ v = .tuple #[x, y, z, u]
  | _, _ => False
theorem resd_run (H : Holds n hol w0 st a w) {v : Value} (h : Resd P st fn.results.toList v) : (results fn a.tmps).run P w = .ok v w := by
  have e : fn.results = fn.results.toList.toArray := by simp
  generalize fn.results.toList = l at *
  unfold Resd at h
  split at h
  · subst h; simp [results_eq, e]
  · have h1 := res1_run H h
    simp [results_eq, e, h1]
  · obtain ⟨x, y, h1, h2, rfl⟩ := h
    have h1 := res1_run H h1
    have h2 := res1_run H h2
    simp [results_eq, e, h1, h2]
  · obtain ⟨x, y, z, h1, h2, h3, rfl⟩ := h
    have h1 := res1_run H h1
    have h2 := res1_run H h2
    have h3 := res1_run H h3
    simp [results_eq, e, h1, h2, h3]
  · obtain ⟨x, y, z, u, h1, h2, h3, h4, rfl⟩ := h
    have h1 := res1_run H h1
    have h2 := res1_run H h2
    have h3 := res1_run H h3
    have h4 := res1_run H h4
    simp [results_eq, e, h1, h2, h3, h4]
  · exact h.elim
def St.args (args : List Value) : St := ⟨fun s => (args[s]?).map .v, fun _ => none⟩
/-- A whole function. -/
theorem calls_Wp {f : FuncId} {c : Code} {args : List Value} {R : Ending → World → Prop} (hf : P.funcs[f]? = some fn) (hb : fn.body = some c) (hn : fn.ntmps = n) (ha : args.length ≤ n)
    (h : Wp P n (holO none) w c (St.args args) w (fun e st' w' => (e = .normal ∨ e = .ret) ∧ (Later w w' → ∃ v, Resd P st' fn.results.toList v ∧ R (.returned v) w'))) : Calls P f args.toArray w R := by
  have H0 : Holds n (holO none) w (St.args args) { tmps := args.toArray ++ Array.replicate (fn.ntmps - args.toArray.size) undef, defers := [] } w := by
    refine ⟨by simp [hn]; omega, rfl, fun s x hs => ?_, fun h b cs e => (by cases e), fun h b cs e => (by cases e), fun h b cs h' b' cs' e => (by cases e), Grown.of_later (Later.refl w) _⟩
    simp only [St.args, Option.map_eq_some_iff] at hs
    obtain ⟨y, hy, rfl⟩ := hs
    have hlt := (List.getElem?_eq_some_iff.1 hy).1
    simp [Array.getElem?_append, hlt, SV.val, (List.getElem?_eq_some_iff.1 hy).2]
  refine calls_of_wp hf hb (Code.wp_mono (fun e a' w' q => ?_) (h _ H0))
  obtain ⟨st', H', he, q⟩ := q
  obtain ⟨v, hv, hR⟩ := q H'.old.later
  have hr := resd_run H' hv
  rcases he with rfl | rfl <;> exact ⟨H'.defers, v, hr, hR⟩
/-- The world up to block b. -/
def upTo (w : World) (b : Nat) : World := { w with heap := w.heap.extract 0 b }
theorem upTo_size {b : Nat} (h : b ≤ w.heap.size) : (upTo w b).heap.size = b := by simp [upTo, h]
theorem upTo_later {b : Nat} (h : b ≤ w.heap.size) : Later (upTo w b) w := by
  refine ⟨rfl, rfl, rfl, by rw [upTo_size h]; exact h, fun k hk => ?_⟩
  rw [upTo_size h] at hk
  simp [upTo, Array.getElem?_extract]
  omega
/-- The arguments of a method of a pointer to a variable (that its caller has): the variable is as its own. -/
def St.argsP (b : Nat) (cs : List Value) (args : List Value) : St := ⟨fun s => match s with | 0 => some (.p 900 b 0) | s + 1 => (args[s]?).map .v, fun h => bif Nat.beq h 900 then some (b, cs) else none⟩
theorem calls_WpB {f : FuncId} {c : Code} {args : List Value} {R : Ending → World → Prop} {b : Nat} {cs : List Value} (hv : Var w b cs) (hf : P.funcs[f]? = some fn) (hb : fn.body = some c) (hn : fn.ntmps = n) (ha : args.length + 1 ≤ n)
    (h : Wp P n (holO none) (upTo w b) c (St.argsP b cs args) w (fun e st' w' => (e = .normal ∨ e = .ret) ∧ (InMem st' w' → Under b w w' → ∃ v, Resd P st' fn.results.toList v ∧ R (.returned v) w'))) : Calls P f (Value.pointer (some ⟨b, 0, none⟩) :: args).toArray w R := by
  have hle : b ≤ w.heap.size := Nat.le_of_lt hv.lt
  have H0 : Holds n (holO none) (upTo w b) (St.argsP b cs args) { tmps := (Value.pointer (some ⟨b, 0, none⟩) :: args).toArray ++ Array.replicate (fn.ntmps - (Value.pointer (some ⟨b, 0, none⟩) :: args).toArray.size) undef, defers := [] } w := by
    have key : ∀ h b' cs', (St.argsP b cs args).mem h = some (b', cs') → h = 900 ∧ b' = b ∧ cs' = cs := fun h b' cs' e => by
      simp only [St.argsP] at e
      cases hh : Nat.beq h 900 with
      | false => rw [hh] at e; cases e
      | true =>
        rw [hh] at e
        simp only [cond, Option.some.injEq, Prod.mk.injEq] at e
        exact ⟨Nat.eq_of_beq_eq_true hh, e.1.symm, e.2.symm⟩
    refine ⟨by simp [hn]; omega, rfl, fun s x hs => ?_, fun h b' cs' e => ?_, fun h b' cs' e => ?_, fun h b' cs' h' b'' cs'' e e' hne => ?_, Grown.of_later (upTo_later hle) _⟩
    · cases s with
      | zero =>
        simp only [St.argsP, Option.some.injEq] at hs
        subst hs
        rw [Array.getElem?_append_left (by simp)]
        simp [SV.val]
      | succ s =>
        simp only [St.argsP, Option.map_eq_some_iff] at hs
        obtain ⟨y, hy, rfl⟩ := hs
        have hlt := (List.getElem?_eq_some_iff.1 hy).1
        simp [Array.getElem?_append, hlt, SV.val, (List.getElem?_eq_some_iff.1 hy).2]
    · obtain ⟨rfl, rfl, rfl⟩ := key h b' cs' e
      exact hv
    · obtain ⟨rfl, rfl, rfl⟩ := key h b' cs' e
      rw [upTo_size hle]; exact .inl (Nat.le_refl _)
    · exact absurd ((key h b' cs' e).1.trans (key h' b'' cs'' e').1.symm) hne
  refine calls_of_wp hf hb (Code.wp_mono (fun e a' w' q => ?_) (h _ H0))
  obtain ⟨st', H', he, q⟩ := q
  have hu : Under b w w' := ⟨H'.old.os, H'.old.tape, H'.old.output, fun k hk => by
    have h1 := H'.old.later.block k (by rw [upTo_size hle]; exact hk)
    rw [h1]
    simp [upTo, Array.getElem?_extract]
    omega⟩
  obtain ⟨v, hv', hR⟩ := q H'.mem hu
  have hr := resd_run H' hv'
  rcases he with rfl | rfl <;> exact ⟨H'.defers, v, hr, hR⟩
/-- The arguments of a method of a pointer to a variable of its caller's that is all of its caller's memory that it turns. -/
def St.argsH (b : Nat) (cs : List Value) (args : List Value) : St := ⟨fun s => match s with | 0 => some (.p 899 b 0) | s + 1 => (args[s]?).map .v, fun h => bif Nat.beq h 899 then some (b, cs) else none⟩
theorem calls_WpH {f : FuncId} {c : Code} {args : List Value} {R : Ending → World → Prop} {b : Nat} {cs : List Value} (hv : Var w b cs) (hf : P.funcs[f]? = some fn) (hb : fn.body = some c) (hn : fn.ntmps = n) (ha : args.length + 1 ≤ n)
    (h : Wp P n (holO (some b)) w c (St.argsH b cs args) w (fun e st' w' => (e = .normal ∨ e = .ret) ∧ (InMem st' w' → w.grownBy w' (some b) → ∃ v, Resd P st' fn.results.toList v ∧ R (.returned v) w'))) : Calls P f (Value.pointer (some ⟨b, 0, none⟩) :: args).toArray w R := by
  have H0 : Holds n (holO (some b)) w (St.argsH b cs args) { tmps := (Value.pointer (some ⟨b, 0, none⟩) :: args).toArray ++ Array.replicate (fn.ntmps - (Value.pointer (some ⟨b, 0, none⟩) :: args).toArray.size) undef, defers := [] } w := by
    have key : ∀ h b' cs', (St.argsH b cs args).mem h = some (b', cs') → h = 899 ∧ b' = b ∧ cs' = cs := fun h b' cs' e => by
      simp only [St.argsH] at e
      cases hh : Nat.beq h 899 with
      | false => rw [hh] at e; cases e
      | true =>
        rw [hh] at e
        simp only [cond, Option.some.injEq, Prod.mk.injEq] at e
        exact ⟨Nat.eq_of_beq_eq_true hh, e.1.symm, e.2.symm⟩
    refine ⟨by simp [hn]; omega, rfl, fun s x hs => ?_, fun h b' cs' e => ?_, fun h b' cs' e => ?_, fun h b' cs' h' b'' cs'' e e' hne => ?_, Grown.of_later (Later.refl w) _⟩
    · cases s with
      | zero =>
        simp only [St.argsH, Option.some.injEq] at hs
        subst hs
        rw [Array.getElem?_append_left (by simp)]
        simp [SV.val]
      | succ s =>
        simp only [St.argsH, Option.map_eq_some_iff] at hs
        obtain ⟨y, hy, rfl⟩ := hs
        have hlt := (List.getElem?_eq_some_iff.1 hy).1
        simp [Array.getElem?_append, hlt, SV.val, (List.getElem?_eq_some_iff.1 hy).2]
    · obtain ⟨rfl, rfl, rfl⟩ := key h b' cs' e
      exact hv
    · obtain ⟨rfl, rfl, rfl⟩ := key h b' cs' e
      exact .inr ⟨rfl, by simp [holO]⟩
    · exact absurd ((key h b' cs' e).1.trans (key h' b'' cs'' e').1.symm) hne
  refine calls_of_wp hf hb (Code.wp_mono (fun e a' w' q => ?_) (h _ H0))
  obtain ⟨st', H', he, q⟩ := q
  obtain ⟨v, hv', hR⟩ := q H'.mem H'.old.by
  have hr := resd_run H' hv'
  rcases he with rfl | rfl <;> exact ⟨H'.defers, v, hr, hR⟩
end

section
variable {P : Program} {B : Nat} {lax : Bool} {ops : Array Oper} {Rs : Nat → Value → World → Prop} {K : St → World → Prop} {i : Nat} {rest : List Nat} {st : St} {w : World}
variable {d : Nat} {ty : TypeId} {pos : String} {aft : Array Edge} {g : Option (Nat × Bool)}
/-- The list itself, laid out. -/
def forceL : List Value → Option (List Value)
  | [] => some []
  | a :: r => match forceL r with | some l => some (a :: l) | none => none
theorem forceL_eq : ∀ {l l' : List Value}, forceL l = some l' → l = l'
  | [], _, h => by simp only [forceL, Option.some.injEq] at h; exact h
  | a :: r, l', h => by
    unfold forceL at h
    split at h
    · rename_i l hl
      rw [Option.some.injEq] at h
      rw [← h, forceL_eq hl]
    · cases h
def takeL : Nat → List Value → Option (List Value)
  | 0, _ => some []
  | _ + 1, [] => none
  | n + 1, a :: r => match takeL n r with | some l => some (a :: l) | none => none
theorem takeL_eq : ∀ {n : Nat} {l l' : List Value}, takeL n l = some l' → n ≤ l.length ∧ l.take n = l'
  | 0, _, _, h => by simp only [takeL, Option.some.injEq] at h; subst h; simp
  | _ + 1, [], _, h => by cases h
  | n + 1, a :: r, l', h => by
    unfold takeL at h
    split at h
    · rename_i l hl
      rw [Option.some.injEq] at h
      have := takeL_eq hl
      subst h
      rw [List.length_cons, List.take_succ_cons, this.2]
      exact ⟨by omega, rfl⟩
    · cases h
def nthL : List Value → Nat → Option Value
  | a :: _, 0 => some a
  | _ :: r, k + 1 => nthL r k
  | [], _ => none
theorem nthL_eq : ∀ (l : List Value) (k : Nat), nthL l k = l[k]?
  | [], _ => by simp [nthL]
  | _ :: _, 0 => by simp [nthL]
  | _ :: r, k + 1 => by simp [nthL, nthL_eq r k]
/-- What a variable reads, laid out. -/
def readL (P : Program) (t : TypeId) (cs : List Value) (off : Nat) : Option Value :=
  match isAggT P t with
  | some true =>
    match P.info? t with
    | some i => match takeL i.size (cs.drop off) with | some l => some (.agg l.toArray) | none => none
    | none => none
  | some false => nthL cs off
  | none => none
theorem readL_eq {P : Program} {t : TypeId} {cs : List Value} {off : Nat} {v : Value} (ho : off ≤ cs.length) (h : readL P t cs off = some v) : readOf P t cs off = some v := by
  unfold readL at h
  unfold readOf
  cases ha : isAggT P t with
  | none => simp only [ha] at h; cases h
  | some x =>
    cases x with
    | false => simp only [ha] at h ⊢; rw [nthL_eq] at h; exact h
    | true =>
      simp only [ha] at h ⊢
      cases hi : P.info? t with
      | none => simp only [hi] at h; cases h
      | some i =>
        simp only [hi] at h ⊢
        split at h
        · rename_i l hl
          rw [Option.some.injEq] at h
          have := takeL_eq hl
          rw [List.length_drop] at this
          rw [if_pos (by omega), this.2, h]
        · cases h
def writeL (P : Program) (t : TypeId) (cs : List Value) (off : Nat) (v : Value) : Option (List Value) :=
  match writeOf P t cs off v with
  | some l => forceL l
  | none => none
theorem writeL_eq {P : Program} {t : TypeId} {cs cs' : List Value} {off : Nat} {v : Value} (h : writeL P t cs off v = some cs') : writeOf P t cs off v = some cs' := by
  unfold writeL at h
  split at h
  · rename_i l hl
    rw [hl, forceL_eq h]
  · cases h
theorem vOrd_nil (h : K st w) : vOrd P B lax ops Rs K [] st w := h
theorem vOrd_op {o : Oper} (ho : ops[i]? = some o) (hg : gok ops st o.guard = true) (h : vOp P (Rs i) o st w (vOrd P B lax ops Rs K rest)) :
    vOrd P B lax ops Rs K (i :: rest) st w := by
  refine ⟨o, ho, .inl ?_⟩
  unfold vG
  cases hgd : o.guard with
  | none => exact h
  | some gt =>
    obtain ⟨j, t⟩ := gt
    rw [hgd] at hg
    simp only [gok] at hg
    split at hg
    · rename_i d hj
      split at hg
      · rename_i c hc
        have : c = t := by simpa using hg
        exact ⟨d, .bool c, hj, hc, fun _ => h, fun q => absurd (by rw [this]) q⟩
      · cases hg
    · cases hg
/-- An operation whose guard says no. -/
theorem s_skip {o : Oper} {dd : Option Nat} (ho : ops[i]? = some o) (hd : o.dst = dd) (hg : gno ops st o.guard = true) (h : vOrd P B lax ops Rs K rest (st.put dd (.v undef)) w) : vOrd P B lax ops Rs K (i :: rest) st w := by
  subst hd
  refine ⟨o, ho, .inl ?_⟩
  unfold vG
  cases hgd : o.guard with
  | none => rw [hgd] at hg; cases hg
  | some gt =>
    obtain ⟨j, t⟩ := gt
    rw [hgd] at hg
    simp only [gno] at hg
    split at hg
    · rename_i d hj
      split at hg
      · rename_i c hc
        have : c ≠ t := by simpa using hg
        exact ⟨d, .bool c, hj, hc, fun q => absurd (by simpa using q) this, fun _ => h⟩
      · rename_i vs hc
        exact ⟨d, .tuple vs, hj, hc, fun q => (by cases q), fun _ => h⟩
      · cases hg
    · cases hg
/-- What a slot holds, laid out. -/
def evF (st : St) (x : Operand) : Option SV :=
  match st.ev x with
  | Sum.inl v => some (.v v)
  | Sum.inr (h, b, off) => some (.p h b off)
theorem evF_eq {st : St} {x : Operand} {sv : SV} (h : evF st x = some sv) : st.ev x = sv := by
  unfold evF at h
  split at h <;> rename_i e <;> rw [Option.some.injEq] at h <;> exact e.trans h
theorem s_move {x : Operand} {sv : SV} (ho : ops[i]? = some ⟨some d, .move x, ty, pos, aft, g⟩) (hg : gok ops st g = true) (hk : known st ⟨some d, .move x, ty, pos, aft, g⟩ = true) (hx : evF st x = some sv)
    (h : vOrd P B lax ops Rs K rest (st.put (some d) sv) w) : vOrd P B lax ops Rs K (i :: rest) st w := by
  have hx := evF_eq hx
  subst hx
  exact vOrd_op ho hg ⟨hk, rfl, st.rho x, fun w => by simp [execOp], h⟩
theorem s_assign {x : Operand} {sv : SV} (ho : ops[i]? = some ⟨some d, .assign x, ty, pos, aft, g⟩) (hg : gok ops st g = true) (hk : known st ⟨some d, .assign x, ty, pos, aft, g⟩ = true) (hx : evF st x = some sv)
    (h : vOrd P B lax ops Rs K rest (st.put (some d) sv) w) : vOrd P B lax ops Rs K (i :: rest) st w := by
  have hx := evF_eq hx
  subst hx
  exact vOrd_op ho hg ⟨hk, rfl, st.rho x, fun w => by simp [execOp], h⟩
theorem s_alloc {t : TypeId} {z : Value} {cs : List Value} (ho : ops[i]? = some ⟨some d, .alloc t, ty, pos, aft, g⟩) (hg : gok ops st g = true) (hm : st.mem d = none) (hz : zeroOf P t = some z) (hc : forceL z.cells.toList = some cs)
    (h : ∀ b w', w.heap.size ≤ b → Later w w' → vOrd P B lax ops Rs K rest (st.new d b cs) w') : vOrd P B lax ops Rs K (i :: rest) st w := by
  have hc := forceL_eq hc
  subst hc
  exact vOrd_op ho hg ⟨rfl, rfl, d, z, rfl, hm, hz, h⟩
theorem s_box {t : TypeId} {x : Operand} {v : Value} {cs : List Value} (ho : ops[i]? = some ⟨some d, .box t x, ty, pos, aft, g⟩) (hg : gok ops st g = true) (hk : known st ⟨some d, .box t x, ty, pos, aft, g⟩ = true) (hm : st.mem d = none) (hx : st.ev x = .v v) (hc : forceL v.cells.toList = some cs)
    (h : ∀ b w', w.heap.size ≤ b → Later w w' → vOrd P B lax ops Rs K rest (st.new d b cs) w') : vOrd P B lax ops Rs K (i :: rest) st w := by
  have hc := forceL_eq hc
  subst hc
  have e : st.rho x = v := by rw [St.rho, hx]; rfl
  subst e
  exact vOrd_op ho hg ⟨hk, rfl, d, rfl, hm, h⟩
theorem s_load {t : TypeId} {x : Operand} {q b off : Nat} {cs : List Value} {v : Value} (ho : ops[i]? = some ⟨some d, .load t x, ty, pos, aft, g⟩) (hg : gok ops st g = true) (hk : known st ⟨some d, .load t x, ty, pos, aft, g⟩ = true) (hx : st.ev x = .p q b off) (hm : st.mem q = some (b, cs)) (hl : Nat.ble off cs.length = true) (hr : readL P t cs off = some v)
    (h : vOrd P B lax ops Rs K rest (st.put (some d) (.v v)) w) : vOrd P B lax ops Rs K (i :: rest) st w :=
  vOrd_op ho hg ⟨hk, rfl, by simp only [hx]; exact ⟨cs, v, hm, readL_eq (Nat.le_of_ble_eq_true hl) hr, h⟩⟩
theorem s_store {t : TypeId} {x y : Operand} {q b off : Nat} {cs cs' : List Value} {v : Value} (ho : ops[i]? = some ⟨none, .store t x y, ty, pos, aft, g⟩) (hg : gok ops st g = true) (hk : known st ⟨none, .store t x y, ty, pos, aft, g⟩ = true) (hx : st.ev x = .p q b off) (hy : st.ev y = .v v) (hm : st.mem q = some (b, cs)) (hr : writeL P t cs off v = some cs')
    (h : ∀ w', Stored b w w' → Var w b cs → vOrd P B lax ops Rs K rest (st.set q b cs') w') : vOrd P B lax ops Rs K (i :: rest) st w := by
  have e : st.rho y = v := by rw [St.rho, hy]; rfl
  subst e
  exact vOrd_op ho hg ⟨hk, rfl, q, b, off, cs, cs', by rw [St.rho, hx]; rfl, hm, writeL_eq hr, rfl, h⟩
def fieldK (P : Program) (t : TypeId) (f : Nat) : Option Nat :=
  match P.underlying t with
  | some (.struct fields) =>
    match fields[f]? with
    | some fd => match P.info? fd.type with
      | some i => if i.size = 0 then none else some fd.offset
      | none => none
    | none => none
  | _ => none
theorem fieldK_run {t : TypeId} {f k : Nat} (h : fieldK P t f = some k) (b off : Nat) (w : World) : (Instr.fieldAt t (.pointer (some ⟨b, off, none⟩)) f).run P w = .ok (.pointer (some ⟨b, off + k, none⟩)) w := by
  unfold fieldK at h
  split at h
  · rename_i fields hu
    split at h
    · rename_i fd hf
      split at h
      · rename_i i hi
        split at h
        · cases h
        · rename_i hz
          rw [Option.some.injEq] at h
          subst h
          simp [Instr.fieldAt, run_underlying hu w, hf, Instr.sureAddr, fieldPlace, sizeOf, typeInfo, hi, hz, addr_add]
      · cases h
    · cases h
  · cases h
theorem s_field {t : TypeId} {x : Operand} {f q b off : Nat} (k : Nat) (ho : ops[i]? = some ⟨some d, .fieldAddr t x f, ty, pos, aft, g⟩) (hg : gok ops st g = true) (hk : known st ⟨some d, .fieldAddr t x f, ty, pos, aft, g⟩ = true) (hx : st.ev x = .p q b off)
    (hr : (fieldK P t f).map (off + ·) = some k)
    (h : vOrd P B lax ops Rs K rest (st.put (some d) (.p q b k)) w) : vOrd P B lax ops Rs K (i :: rest) st w := by
  refine vOrd_op ho hg ⟨hk, rfl, .pointer (some ⟨b, k, none⟩), fun w => ?_, ?_⟩
  · have e : st.rho x = .pointer (some ⟨b, off, none⟩) := by rw [St.rho, hx]; rfl
    rw [Option.map_eq_some_iff] at hr
    obtain ⟨k', h1, h2⟩ := hr
    subst h2
    simp [execOp, e, fieldK_run h1 b off w]
  · simp only [resSV, hx]
    exact h
def pureOp : Op → Bool
  | .move .. | .assign .. | .fieldAddr .. | .indexAddr .. | .nilCheck .. | .alloc .. | .box .. | .load .. | .store .. | .call .. | .buildSlice .. | .makeSlice .. | .select .. => false
  | _ => true
/-- An operation that only reckons. -/
theorem s_val {op : Op} {v : Value} (ho : ops[i]? = some ⟨some d, op, ty, pos, aft, g⟩) (hg : gok ops st g = true) (hp : pureOp op = true) (hk : known st ⟨some d, op, ty, pos, aft, g⟩ = true)
    (hr : ∀ w, (execOp st.rho ⟨some d, op, ty, pos, aft, g⟩).run P w = .ok (.value v) w)
    (h : vOrd P B lax ops Rs K rest (st.put (some d) (.v v)) w) : vOrd P B lax ops Rs K (i :: rest) st w := by
  refine vOrd_op ho hg ?_
  cases op <;> simp only [pureOp, Bool.false_eq_true] at hp <;> first | exact ⟨hk, rfl, v, hr, h⟩ | exact ⟨hk, rfl, v, fun w' _ => hr w', h⟩
/-- The address of an element, of what is no variable of the call's own. -/
theorem s_addr {t : TypeId} {x ix : Operand} {u v : Value} (ho : ops[i]? = some ⟨some d, .indexAddr t x ix, ty, pos, aft, g⟩) (hg : gok ops st g = true) (hk : known st ⟨some d, .indexAddr t x ix, ty, pos, aft, g⟩ = true) (hx : st.ev x = .v u)
    (hr : ∀ w, (execOp st.rho ⟨some d, .indexAddr t x ix, ty, pos, aft, g⟩).run P w = .ok (.value v) w)
    (h : vOrd P B lax ops Rs K rest (st.put (some d) (.v v)) w) : vOrd P B lax ops Rs K (i :: rest) st w := by
  refine vOrd_op ho hg ⟨hk, rfl, v, hr, ?_⟩
  simp only [resSV, hx]
  exact h
/-- A conversion that reads memory. -/
theorem s_read {a b : TypeId} {x : Operand} {v : Value} (ho : ops[i]? = some ⟨some d, .convert a b x, ty, pos, aft, g⟩) (hg : gok ops st g = true) (hk : known st ⟨some d, .convert a b x, ty, pos, aft, g⟩ = true)
    (hr : ∀ w', Later w w' → (execOp st.rho ⟨some d, .convert a b x, ty, pos, aft, g⟩).run P w' = .ok (.value v) w')
    (h : vOrd P B lax ops Rs K rest (st.put (some d) (.v v)) w) : vOrd P B lax ops Rs K (i :: rest) st w :=
  vOrd_op ho hg ⟨hk, rfl, v, hr, h⟩
theorem s_extract {x : Operand} {vs : Array Value} {v : Value} {k : Nat} (ho : ops[i]? = some ⟨some d, .extract x k, ty, pos, aft, g⟩) (hg : gok ops st g = true) (hk : known st ⟨some d, .extract x k, ty, pos, aft, g⟩ = true) (hx : st.ev x = .v (.tuple vs)) (hv : nthL vs.toList k = some v)
    (h : vOrd P B lax ops Rs K rest (st.put (some d) (.v v)) w) : vOrd P B lax ops Rs K (i :: rest) st w := by
  refine s_val ho hg rfl hk (fun w => ?_) h
  have e : st.rho x = .tuple vs := by rw [St.rho, hx]; rfl
  rw [nthL_eq, Array.getElem?_toList] at hv
  simp [execOp, e, Instr.extract, hv]
def cmpB : BinOp → Int → Int → Option Bool
  | .eql, a, b => some (a == b)
  | .neq, a, b => some (a != b)
  | .lss, a, b => some (decide (a < b))
  | .leq, a, b => some (decide (a ≤ b))
  | .gtr, a, b => some (decide (a > b))
  | .geq, a, b => some (decide (a ≥ b))
  | _, _, _ => none
theorem s_cmp {op : BinOp} {xt yt : TypeId} {x y : Operand} {k : IntKind} {m l : Int} {c : Bool} (ho : ops[i]? = some ⟨some d, .binOp op xt x y yt, ty, pos, aft, g⟩) (hg : gok ops st g = true) (hk : known st ⟨some d, .binOp op xt x y yt, ty, pos, aft, g⟩ = true)
    (hx : st.ev x = .v (.int k m)) (hy : st.ev y = .v (.int k l)) (hc : cmpB op m l = some c)
    (h : vOrd P B lax ops Rs K rest (st.put (some d) (.v (.bool c))) w) : vOrd P B lax ops Rs K (i :: rest) st w := by
  refine s_val ho hg rfl hk (fun w => ?_) h
  have ex : st.rho x = .int k m := by rw [St.rho, hx]; rfl
  have ey : st.rho y = .int k l := by rw [St.rho, hy]; rfl
  cases op <;> simp only [cmpB, Option.some.injEq, reduceCtorEq] at hc <;> subst hc <;> simp [execOp, ex, ey, binOp, eqGuard, Op.intCmp]
theorem s_eqv {op : BinOp} {xt yt : TypeId} {x y : Operand} {u v : Value} {c : Bool} (ho : ops[i]? = some ⟨some d, .binOp op xt x y yt, ty, pos, aft, g⟩) (hg : gok ops st g = true) (hk : known st ⟨some d, .binOp op xt x y yt, ty, pos, aft, g⟩ = true)
    (hx : st.ev x = .v u) (hy : st.ev y = .v v) (hq : ∀ w, (eqGuard op xt x y u v).run P w = .ok () w) (he : ∀ w, (binOp op xt u v).run P w = .ok (.bool c) w)
    (h : vOrd P B lax ops Rs K rest (st.put (some d) (.v (.bool c))) w) : vOrd P B lax ops Rs K (i :: rest) st w := by
  refine s_val ho hg rfl hk (fun w => ?_) h
  have ex : st.rho x = u := by rw [St.rho, hx]; rfl
  have ey : st.rho y = v := by rw [St.rho, hy]; rfl
  simp [execOp, ex, ey, hq w, he w]
def arithB : BinOp → IntKind → Int → Int → Option Int
  | .add, k, a, b => some (k.wrap (a + b))
  | .sub, k, a, b => some (k.wrap (a - b))
  | .mul, k, a, b => some (k.wrap (a * b))
  | _, _, _, _ => none
theorem s_arith {op : BinOp} {xt yt : TypeId} {x y : Operand} {k : IntKind} {m l c : Int} (ho : ops[i]? = some ⟨some d, .binOp op xt x y yt, ty, pos, aft, g⟩) (hg : gok ops st g = true) (hk : known st ⟨some d, .binOp op xt x y yt, ty, pos, aft, g⟩ = true)
    (hx : st.ev x = .v (.int k m)) (hy : st.ev y = .v (.int k l)) (hc : arithB op k m l = some c)
    (h : vOrd P B lax ops Rs K rest (st.put (some d) (.v (.int k c))) w) : vOrd P B lax ops Rs K (i :: rest) st w := by
  refine s_val ho hg rfl hk (fun w => ?_) h
  have ex : st.rho x = .int k m := by rw [St.rho, hx]; rfl
  have ey : st.rho y = .int k l := by rw [St.rho, hy]; rfl
  cases op <;> simp only [arithB, Option.some.injEq, reduceCtorEq] at hc <;> subst hc <;> simp [execOp, ex, ey, binOp, eqGuard, Op.intArith]
theorem s_neg {t : TypeId} {x : Operand} {k : IntKind} {m c : Int} (ho : ops[i]? = some ⟨some d, .unOp .neg t x, ty, pos, aft, g⟩) (hg : gok ops st g = true) (hk : known st ⟨some d, .unOp .neg t x, ty, pos, aft, g⟩ = true) (hx : st.ev x = .v (.int k m)) (hc : k.wrap (-m) = c)
    (h : vOrd P B lax ops Rs K rest (st.put (some d) (.v (.int k c))) w) : vOrd P B lax ops Rs K (i :: rest) st w := by
  refine s_val ho hg rfl hk (fun w => ?_) h
  have ex : st.rho x = .int k m := by rw [St.rho, hx]; rfl
  simp [execOp, ex, Op.unary, Op.intArith, hc]
theorem s_not {t : TypeId} {x : Operand} {c : Bool} (ho : ops[i]? = some ⟨some d, .unOp .not t x, ty, pos, aft, g⟩) (hg : gok ops st g = true) (hk : known st ⟨some d, .unOp .not t x, ty, pos, aft, g⟩ = true) (hx : st.ev x = .v (.bool c))
    (h : vOrd P B lax ops Rs K rest (st.put (some d) (.v (.bool (!c)))) w) : vOrd P B lax ops Rs K (i :: rest) st w := by
  refine s_val ho hg rfl hk (fun w => ?_) h
  have ex : st.rho x = .bool c := by rw [St.rho, hx]; rfl
  simp [execOp, ex, Op.unary]
def goFn (P : Program) (f : FuncId) : Bool :=
  match P.funcs[f]? with
  | some fn => !(fn.name == "runtime.NumGoroutine") && fn.body.isSome
  | none => false
theorem run_call {f : FuncId} {xs : Array Operand} {ts : Array TypeId} (hf : goFn P f = true) (st : St) (w : World) :
    (execOp st.rho ⟨some d, .call ⟨.value (.func f), xs, ts⟩, ty, pos, aft, g⟩).run P w = .ok (.enter f (xs.map st.rho)) w := by
  unfold goFn at hf
  cases hp : P.funcs[f]? with
  | none => simp [hp] at hf
  | some fn =>
    simp only [hp, Bool.and_eq_true, Bool.not_eq_true'] at hf
    have hb : fn.body ≠ none := by intro h; simp [h] at hf
    have hn : ¬ fn.name = "runtime.NumGoroutine" := by simpa using hf.1
    have e : st.rho (.func f) = .func (.func f) #[] #[] := rfl
    simp [execOp, resolve, invoke, e, Deferred.ofValue, callFunc, hp, hn, hb]
/-- The arguments, laid out. -/
def evL (st : St) : List Operand → Option (List Value)
  | [] => some []
  | x :: r =>
    match st.ev x, evL st r with
    | Sum.inl v, some l => some (v :: l)
    | Sum.inr (_, b, off), some l => some (.pointer (some ⟨b, off, none⟩) :: l)
    | _, none => none
theorem evL_eq : ∀ {xs : List Operand} {l : List Value}, evL st xs = some l → xs.map st.rho = l
  | [], _, h => by simp only [evL, Option.some.injEq] at h; subst h; rfl
  | x :: r, l', h => by
    unfold evL at h
    split at h
    · rename_i v l hx hl
      rw [Option.some.injEq] at h
      rw [List.map_cons, evL_eq hl, ← h, St.rho, hx]; rfl
    · rename_i g b off l hx hl
      rw [Option.some.injEq] at h
      rw [List.map_cons, evL_eq hl, ← h, St.rho, hx]; rfl
    · cases h
theorem evL_arr {xs : Array Operand} {l : List Value} (h : evL st xs.toList = some l) : xs.map st.rho = l.toArray := by
  have e : xs = xs.toList.toArray := by simp
  rw [← evL_eq h, e, List.map_toArray]
/-- A call of a Go function in a region whose order is the text's. -/
theorem s_call {f : FuncId} {xs : Array Operand} {ts : Array TypeId} {args : List Value} (ho : ops[i]? = some ⟨some d, .call ⟨.value (.func f), xs, ts⟩, ty, pos, aft, g⟩) (hg : gok ops st g = true) (hk : known st ⟨some d, .call ⟨.value (.func f), xs, ts⟩, ty, pos, aft, g⟩ = true) (hf : goFn P f = true) (hx : evL st xs.toList = some args)
    (h : Calls P f args.toArray w fun e w' => ∃ v, e = .returned v ∧ Below w.heap.size w w' ∧ vOrd P B true ops Rs K rest (st.put (some d) (.v v)) w') : vOrd P B true ops Rs K (i :: rest) st w := by
  refine ⟨_, ho, .inr ⟨rfl, hg, hk, rfl, .inl (fun _ => ⟨fun v w' => vOrd P B true ops Rs K rest (st.put (some d) (.v v)) w', ?_, fun v w1 q _ => q⟩)⟩⟩
  unfold RunsTo
  rw [run_call hf, evL_arr hx]
  exact Calls.mono h (fun e w' ⟨v, h1, h2, h3⟩ => ⟨v, h1, h3, h2⟩)
/-- A call of a Go function in a region that draws its order; R: what is known of what it returns. -/
theorem s_callD {f : FuncId} {xs : Array Operand} {ts : Array TypeId} {args : List Value} (ho : ops[i]? = some ⟨some d, .call ⟨.value (.func f), xs, ts⟩, ty, pos, aft, g⟩) (hg : gok ops st g = true) (hk : known st ⟨some d, .call ⟨.value (.func f), xs, ts⟩, ty, pos, aft, g⟩ = true) (hf : goFn P f = true) (hx : evL st xs.toList = some args)
    (hc : ∀ wc, Later w wc → Calls P f args.toArray wc fun e w' => ∃ v, e = .returned v ∧ Rs i v w' ∧ Below wc.heap.size wc w')
    (h : ∀ v w1 w2, Rs i v w1 → Later w w1 → Later w1 w2 → vOrd P B lax ops Rs K rest (st.put (some d) (.v v)) w2) : vOrd P B lax ops Rs K (i :: rest) st w := by
  refine vOrd_op ho hg ⟨hk, rfl, fun wc l => ?_, fun v wc w1 w2 l1 l2 hR l3 => h v w1 w2 hR (l1.trans l2) l3⟩
  unfold RunsTo
  rw [run_call hf, evL_arr hx]
  exact hc wc l
theorem s_pick {c x y : Operand} {t : Bool} {v : Value} (ho : ops[i]? = some ⟨some d, .pick c x y, ty, pos, aft, g⟩) (hg : gok ops st g = true) (hk : known st ⟨some d, .pick c x y, ty, pos, aft, g⟩ = true) (hc : st.ev c = .v (.bool t)) (hx : evF st (bif t then x else y) = some (.v v))
    (h : vOrd P B lax ops Rs K rest (st.put (some d) (.v v)) w) : vOrd P B lax ops Rs K (i :: rest) st w := by
  refine s_val ho hg rfl hk (fun w => ?_) h
  have ec : st.rho c = .bool t := by rw [St.rho, hc]; rfl
  have ex := evF_eq hx
  cases t
  · have ey : st.rho y = v := by simp only [cond] at ex; rw [St.rho, ex]; rfl
    simp [execOp, ec, ey, asBool]
  · have ey : st.rho x = v := by simp only [cond] at ex; rw [St.rho, ex]; rfl
    simp [execOp, ec, ey, asBool]
end
section
variable {P : Program} {st : St}
theorem res_tmp {t : Nat} {v : Value} (h : evF st (.tmp t) = some (.v v)) (hk : (st.env t).isSome = true) : Res1 P st (.tmp t) v := by
  have e := evF_eq h
  simp only [St.ev] at e
  cases hs : st.env t with
  | none => rw [hs] at hk; cases hk
  | some x => rw [hs] at e; exact ⟨x, hs, by simp only [Option.getD_some] at e; rw [e]; rfl⟩
theorem res_cell {p t h b off : Nat} {cs : List Value} {v : Value} (h1 : st.env p = some (.p h b off)) (h2 : st.mem h = some (b, cs)) (h3 : Nat.ble off cs.length = true) (h4 : readL P t cs off = some v) : Res1 P st (.cell p t) v :=
  ⟨h, b, off, cs, h1, h2, readL_eq (Nat.le_of_ble_eq_true h3) h4⟩
end

def RowIs (w : World) (c : Nat) (t : TypeId) (cs : List Value) : Prop := w.heap[c]? = some (.cells cs.toArray t (0, 0))
section
variable {w w' : World} {c : Nat} {t : TypeId} {cs : List Value}
theorem RowIs.lt (h : RowIs w c t cs) : c < w.heap.size := (Array.getElem?_eq_some_iff.1 h).1
theorem RowIs.later (h : RowIs w c t cs) (l : Later w w') : RowIs w' c t cs := by rw [RowIs, l.block c h.lt]; exact h
theorem RowIs.stored {b : Nat} (h : RowIs w c t cs) (s : Stored b w w') (hb : c ≠ b) : RowIs w' c t cs := by rw [RowIs, s.block c hb]; exact h
theorem RowIs.var (h : RowIs w c t cs) : Var w c cs := ⟨t, h⟩
/-- A row that was stored into is of the same kind. -/
theorem RowIs.turn {cs' : List Value} (h : RowIs w c t cs) (s : Stored c w w') (v : Var w' c cs') : RowIs w' c t cs' := by
  obtain ⟨ds, hd⟩ := s.ty _ _ _ h
  obtain ⟨t', hv⟩ := v
  rw [hd] at hv
  cases hv
  exact hd
end
theorem run_writeOf' {P : Program} {w : World} {t ty : TypeId} {b off : Nat} {cs cs' : List Value} {v : Value} (hg : RowIs w b ty cs) (h : writeOf P t cs off v = some cs') :
    ∃ w', (storeVar t ⟨b, off, none⟩ v).run P w = .ok () w' ∧ Stored b w w' ∧ RowIs w' b ty cs' := by
  obtain ⟨w', h1, h2, t', h3⟩ := run_writeOf (P := P) hg.var h
  refine ⟨w', h1, h2, ?_⟩
  unfold writeOf at h
  cases hi : P.info? t with
  | none => simp [hi] at h
  | some i =>
    simp only [hi] at h
    split at h
    · rename_i hc
      obtain ⟨hs, hle, hone⟩ := hc
      have hst := run_storeCells_at (P := P) b off ty v.cells.toList 0 cs.toArray w hg (by simp; omega) (fun x hx => List.all_eq_true.1 hone x hx)
      simp only [Nat.add_zero, Array.length_toList] at hst
      have hrun : (storeVar t ⟨b, off, none⟩ v).run P w = .ok () (w.setRow b (cs.take off ++ v.cells.toList ++ cs.drop (off + v.cells.size)).toArray) := by
        simp [storeVar, Sem.run_bind, sizeOf, typeInfo, hi, hs, hst]
      rw [hrun] at h1
      cases h1
      have hw := setRow_heap w b cs.toArray (cs.take off ++ v.cells.toList ++ cs.drop (off + v.cells.size)).toArray ty (0, 0) hg
      rw [hw] at h3
      rw [RowIs, hw]
      simp only [Option.some.injEq, Obj.cells.injEq] at h3 ⊢
      exact ⟨h3.1, trivial, trivial⟩
    · cases h
/-- Each variable of the call's own lies behind c. -/
def Avoid (c : Nat) (st : St) : Prop := ∀ h b cs, st.mem h = some (b, cs) → c < b
theorem Avoid.nil (c : Nat) (env : List (Nat × SV)) : Avoid c (St.of env []) := fun _ _ _ e => by cases e
theorem Avoid.put {c : Nat} {st : St} {d : Option Nat} {x : SV} (h : Avoid c st) : Avoid c (st.put d x) := fun g b cs e => h g b cs (by rw [put_mem] at e; exact e)
theorem Avoid.new {c : Nat} {st : St} {d b : Nat} {cs : List Value} (h : Avoid c st) (hb : c < b) : Avoid c (st.new d b cs) := fun g b' cs' e => by
  by_cases q : g = d
  · subst q; simp only [St.new, upd_same, Option.some.injEq, Prod.mk.injEq] at e; omega
  · simp only [St.new, upd_ne _ _ q] at e; exact h g b' cs' e
theorem Avoid.set {c : Nat} {st : St} {d b : Nat} {cs : List Value} (h : Avoid c st) (hb : c < b) : Avoid c (st.set d b cs) := fun g b' cs' e => by
  by_cases q : g = d
  · subst q; simp only [St.set, upd_same, Option.some.injEq, Prod.mk.injEq] at e; omega
  · simp only [St.set, upd_ne _ _ q] at e; exact h g b' cs' e

section
variable {P : Program} {B : Nat} {lax : Bool} {ops : Array Oper} {Rs : Nat → Value → World → Prop} {K : St → World → Prop} {i : Nat} {rest : List Nat} {st : St} {w : World}
variable {d : Nat} {ty : TypeId} {pos : String} {aft : Array Edge} {g : Option (Nat × Bool)}
/-- An operation that yields a value and leaves the world as it is (in a region whose order is the text's). -/
theorem s_run {op : Op} {v : Value} (ho : ops[i]? = some ⟨some d, op, ty, pos, aft, g⟩) (hg : gok ops st g = true) (hk : known st ⟨some d, op, ty, pos, aft, g⟩ = true) (hs : noSel ⟨some d, op, ty, pos, aft, g⟩ = true)
    (hr : (execOp st.rho ⟨some d, op, ty, pos, aft, g⟩).run P w = .ok (.value v) w) (h : vOrd P B true ops Rs K rest (st.put (some d) (.v v)) w) : vOrd P B true ops Rs K (i :: rest) st w := by
  refine ⟨_, ho, .inr ⟨rfl, hg, hk, hs, .inl (fun _ => ⟨fun u w1 => u = v ∧ w1 = w, ?_, ?_⟩)⟩⟩
  · unfold RunsTo; rw [hr]; exact ⟨⟨rfl, rfl⟩, Later.refl w⟩
  · rintro u w1 ⟨rfl, rfl⟩ _; exact h
theorem s_make {t e : TypeId} {ii : TypeInfo} {z : Value} {xl xc : Operand} {k1 k2 : IntKind} {n : Nat} (ho : ops[i]? = some ⟨some d, .makeSlice t xl xc, ty, pos, aft, g⟩) (hg : gok ops st g = true) (hk : known st ⟨some d, .makeSlice t xl xc, ty, pos, aft, g⟩ = true)
    (hl : st.ev xl = .v (.int k1 n)) (hc : st.ev xc = .v (.int k2 n)) (ht : P.underlying t = some (.slice e)) (hi : P.info? e = some ii) (hz : ii.zero = some z) (hb : (ii.bytes : Int) * n ≤ 281474976710656) (hn : n ≤ 9223372036854775807)
    (h : ∀ c w1, w.heap.size ≤ c → Later w w1 → RowIs w1 c e (madeCells z.cells (n * ii.size)).toList → vOrd P B true ops Rs K rest (st.put (some d) (.v (.slice (some ⟨c, 0, none⟩) n n))) w1) : vOrd P B true ops Rs K (i :: rest) st w := by
  have e1 : st.rho xl = .int k1 n := by rw [St.rho, hl]; rfl
  have e2 : st.rho xc = .int k2 n := by rw [St.rho, hc]; rfl
  have hr := run_make (P := P) w t e ii z ht hi hz k1 k2 n n (by omega) (by omega) hb (by omega)
  refine ⟨_, ho, .inr ⟨rfl, hg, hk, rfl, .inl (fun _ => ⟨fun u w1 => u = .slice (some ⟨w.heap.size, 0, none⟩) n n ∧ w1 = w.alloc (.cells (madeCells z.cells (n * ii.size)) e), ?_, ?_⟩)⟩⟩
  · unfold RunsTo
    have : (execOp st.rho ⟨some d, .makeSlice t xl xc, ty, pos, aft, g⟩).run P w = .ok (.value (.slice (some ⟨w.heap.size, 0, none⟩) n n)) (w.alloc (.cells (madeCells z.cells (n * ii.size)) e)) := by
      simp only [Int.toNat_natCast] at hr
      simp [execOp, e1, e2, hr]
    rw [this]
    exact ⟨⟨rfl, rfl⟩, Later.alloc _ _⟩
  · rintro u w1 ⟨rfl, rfl⟩ l
    refine h _ _ (Nat.le_refl _) l ?_
    show (w.heap.push _)[_]? = _
    simp
theorem s_idx {t e : TypeId} {x ix : Operand} {b off len cap sz : Nat} {k : IntKind} {j : Int} (o : Nat) (ho : ops[i]? = some ⟨some d, .indexAddr t x ix, ty, pos, aft, g⟩) (hg : gok ops st g = true) (hk : known st ⟨some d, .indexAddr t x ix, ty, pos, aft, g⟩ = true)
    (hx : st.ev x = .v (.slice (some ⟨b, off, none⟩) len cap)) (hi : st.ev ix = .v (.int k j)) (hu : P.underlying t = some (.slice e)) (hs : (P.info? e).map (·.size) = some sz) (h0 : 0 ≤ j) (h1 : j < len) (he : off + j.toNat * sz = o)
    (h : vOrd P B lax ops Rs K rest (st.put (some d) (.v (.pointer (some ⟨b, o, none⟩)))) w) : vOrd P B lax ops Rs K (i :: rest) st w := by
  subst he
  refine s_addr ho hg hk hx (fun w => ?_) h
  have ex : st.rho x = .slice (some ⟨b, off, none⟩) len cap := by rw [St.rho, hx]; rfl
  have ey : st.rho ix = .int k j := by rw [St.rho, hi]; rfl
  cases hp : P.info? e with
  | none => rw [hp] at hs; cases hs
  | some ii =>
    rw [hp] at hs
    simp only [Option.map_some, Option.some.injEq] at hs
    simp [execOp, ex, ey, Instr.indexAt, asIntOf, run_underlying hu w, h0, h1, sizeOf, typeInfo, hp, hs, addr_add]
theorem run_loadU {t : TypeId} {x : Operand} {b off : Nat} {cs : List Value} {v : Value} (hx : st.ev x = .v (.pointer (some ⟨b, off, none⟩))) (hv : Var w b cs) (hr : readOf P t cs off = some v) :
    (execOp st.rho ⟨some d, .load t x, ty, pos, aft, g⟩).run P w = .ok (.value v) w := by
  have e : st.rho x = .pointer (some ⟨b, off, none⟩) := by rw [St.rho, hx]; rfl
  have hl := run_readOf (P := P) hv hr
  simp [execOp, e, Instr.loadAt, Instr.sureAddr, hl]
theorem s_ldU {t : TypeId} {x : Operand} {b off : Nat} {cs : List Value} {v : Value} (ho : ops[i]? = some ⟨some d, .load t x, ty, pos, aft, g⟩) (hg : gok ops st g = true) (hk : known st ⟨some d, .load t x, ty, pos, aft, g⟩ = true)
    (hx : st.ev x = .v (.pointer (some ⟨b, off, none⟩))) (hv : Var w b cs) (hr : readOf P t cs off = some v)
    (h : vOrd P B lax ops Rs K rest (st.put (some d) (.v v)) w) : vOrd P B lax ops Rs K (i :: rest) st w :=
  vOrd_op ho hg ⟨hk, rfl, by simp only [hx]; exact ⟨v, fun w' l => run_loadU hx (hv.later l) hr, h⟩⟩
theorem s_stU {t tt : TypeId} {x y : Operand} {b off : Nat} {cs cs' : List Value} {v : Value} (ho : ops[i]? = some ⟨none, .store t x y, ty, pos, aft, g⟩) (hg : gok ops st g = true) (hk : known st ⟨none, .store t x y, ty, pos, aft, g⟩ = true)
    (hx : st.ev x = .v (.pointer (some ⟨b, off, none⟩))) (hy : st.ev y = .v v) (hrow : RowIs w b tt cs) (hw : writeOf P t cs off v = some cs') (hB : B ≤ b) (ha : Avoid b st)
    (h : ∀ w', Stored b w w' → RowIs w' b tt cs' → vOrd P B true ops Rs K rest st w') : vOrd P B true ops Rs K (i :: rest) st w := by
  have ex : st.rho x = .pointer (some ⟨b, off, none⟩) := by rw [St.rho, hx]; rfl
  have ey : st.rho y = v := by rw [St.rho, hy]; rfl
  obtain ⟨w', h1, h2, h3⟩ := run_writeOf' (P := P) hrow hw
  refine ⟨_, ho, .inr ⟨rfl, hg, hk, rfl, .inr (.inl (fun _ => ⟨w', b, ?_, rfl, h2, hB, fun g' b' cs1 e => Nat.ne_of_gt (ha g' b' cs1 e), h w' h2 h3⟩))⟩⟩
  simp [execOp, ex, ey, Instr.storeAt, Instr.sureAddr, h1]
/-- A slice that is laid with its elements. -/
theorem s_bs {t e : TypeId} {len : Nat} {parts : Array (Nat × Operand)} {cs : List Value} (ho : ops[i]? = some ⟨some d, .buildSlice t len parts, ty, pos, aft, g⟩) (hg : gok ops st g = true) (hk : known st ⟨some d, .buildSlice t len parts, ty, pos, aft, g⟩ = true)
    (hr : ∀ w, (execOp st.rho ⟨some d, .buildSlice t len parts, ty, pos, aft, g⟩).run P w = .ok (.value (.slice (some ⟨w.heap.size, 0, none⟩) len len)) (w.alloc (.cells cs.toArray e)))
    (h : ∀ c w1, w.heap.size ≤ c → Later w w1 → RowIs w1 c e cs → vOrd P B true ops Rs K rest (st.put (some d) (.v (.slice (some ⟨c, 0, none⟩) len len))) w1) : vOrd P B true ops Rs K (i :: rest) st w := by
  refine ⟨_, ho, .inr ⟨rfl, hg, hk, rfl, .inl (fun _ => ⟨fun u w1 => u = .slice (some ⟨w.heap.size, 0, none⟩) len len ∧ w1 = w.alloc (.cells cs.toArray e), ?_, ?_⟩)⟩⟩
  · unfold RunsTo; rw [hr]; exact ⟨⟨rfl, rfl⟩, Later.alloc _ _⟩
  · rintro u w1 ⟨rfl, rfl⟩ l
    refine h _ _ (Nat.le_refl _) l ?_
    show (w.heap.push _)[_]? = _
    simp
theorem s_bsD {t e : TypeId} {len : Nat} {parts : Array (Nat × Operand)} {cs : List Value} (ho : ops[i]? = some ⟨some d, .buildSlice t len parts, ty, pos, aft, g⟩) (hg : gok ops st g = true) (hk : known st ⟨some d, .buildSlice t len parts, ty, pos, aft, g⟩ = true)
    (hr : ∀ w, (execOp st.rho ⟨some d, .buildSlice t len parts, ty, pos, aft, g⟩).run P w = .ok (.value (.slice (some ⟨w.heap.size, 0, none⟩) len len)) (w.alloc (.cells cs.toArray e)))
    (hR : ∀ c w', Later w w' → RowIs w' c e cs → Rs i (.slice (some ⟨c, 0, none⟩) len len) w')
    (h : ∀ v w1 w2, Rs i v w1 → Later w w1 → Later w1 w2 → vOrd P B lax ops Rs K rest (st.put (some d) (.v v)) w2) : vOrd P B lax ops Rs K (i :: rest) st w := by
  refine vOrd_op ho hg ⟨hk, rfl, fun wc l => ?_, fun v wc w1 w2 l1 l2 hq l3 => h v w1 w2 hq (l1.trans l2) l3⟩
  unfold RunsTo
  rw [hr]
  refine ⟨hR _ _ (l.trans (Later.alloc _ _)) ?_, Later.alloc _ _⟩
  show (wc.heap.push _)[_]? = _
  simp
end
/-! ### Rows of equal parts -/
theorem flat_len {k : Nat} : ∀ {G : List (List Value)}, (∀ g ∈ G, g.length = k) → G.flatten.length = G.length * k
  | [], _ => by simp
  | g :: G, h => by
    rw [List.flatten_cons, List.length_append, h g List.mem_cons_self, flat_len (fun x hx => h x (List.mem_cons_of_mem _ hx)), List.length_cons, Nat.add_mul]
    omega
theorem flat_at {k : Nat} : ∀ {G : List (List Value)} {j : Nat} {g : List Value}, (∀ g ∈ G, g.length = k) → G[j]? = some g → (G.flatten.drop (j * k)).take k = g ∧ j * k + k ≤ G.flatten.length
  | [], _, _, _, hj => by simp at hj
  | a :: G, 0, g, h, hj => by
    simp only [List.getElem?_cons_zero, Option.some.injEq] at hj
    subst hj
    have hl := h a List.mem_cons_self
    have hs := flat_len h
    rw [List.length_cons, Nat.add_mul] at hs
    refine ⟨?_, by omega⟩
    rw [Nat.zero_mul, List.drop_zero, List.flatten_cons, List.take_append_of_le_length (by omega), ← hl, List.take_length]
  | a :: G, j + 1, g, h, hj => by
    simp only [List.getElem?_cons_succ] at hj
    have hl := h a List.mem_cons_self
    obtain ⟨h1, h2⟩ := flat_at (fun x hx => h x (List.mem_cons_of_mem _ hx)) hj
    rw [List.flatten_cons, Nat.add_mul, Nat.one_mul, Nat.add_comm (j * k) k, ← List.drop_drop, List.drop_append_of_le_length (by omega), ← hl, List.drop_length, List.nil_append, hl]
    refine ⟨h1, ?_⟩
    rw [List.length_append]; omega
theorem flat_set {k : Nat} : ∀ {G : List (List Value)} {j : Nat} {g : List Value}, (∀ g ∈ G, g.length = k) → j < G.length → G.flatten.take (j * k) ++ g ++ G.flatten.drop (j * k + k) = (G.set j g).flatten
  | [], _, _, _, hj => by simp at hj
  | a :: G, 0, g, h, _ => by
    have hl := h a List.mem_cons_self
    rw [Nat.zero_mul, Nat.zero_add, List.take_zero, List.nil_append, List.set_cons_zero, List.flatten_cons, List.flatten_cons, List.drop_append_of_le_length (by omega), ← hl, List.drop_length, List.nil_append]
  | a :: G, j + 1, g, h, hj => by
    have hl := h a List.mem_cons_self
    have ih := flat_set (g := g) (fun x hx => h x (List.mem_cons_of_mem _ hx)) (j := j) (by simpa using hj)
    rw [List.set_cons_succ, List.flatten_cons, List.flatten_cons, ← ih, Nat.add_mul, Nat.one_mul, Nat.add_comm (j * k) k, List.take_append, List.take_of_length_le (by omega), List.append_assoc, List.append_assoc, List.append_assoc]
    congr 1
    rw [show k + j * k - a.length = j * k by omega, Nat.add_assoc, ← List.drop_drop, List.drop_append_of_le_length (by omega), ← hl, List.drop_length, List.nil_append, hl, Nat.add_comm (j * k) k]
theorem flat_of {k : Nat} : ∀ {n : Nat} {l : List Value}, l.length = n * k → ∃ G : List (List Value), G.length = n ∧ (∀ g ∈ G, g.length = k) ∧ l = G.flatten
  | 0, l, h => ⟨[], rfl, fun g hg => (by cases hg), by rw [Nat.zero_mul] at h; simpa using List.eq_nil_of_length_eq_zero h⟩
  | n + 1, l, h => by
    rw [Nat.add_mul, Nat.one_mul] at h
    obtain ⟨G, h1, h2, h3⟩ := flat_of (k := k) (n := n) (l := l.drop k) (by rw [List.length_drop]; omega)
    refine ⟨l.take k :: G, by simp [h1], fun g hg => ?_, ?_⟩
    · rcases List.mem_cons.1 hg with e | e
      · subst e; rw [List.length_take]; omega
      · exact h2 g e
    · rw [List.flatten_cons, ← h3, List.take_append_drop]
theorem read_flat {P : Program} {t : TypeId} {k j : Nat} {G : List (List Value)} {g : List Value} (ha : isAggT P t = some true) (hs : (P.info? t).map (·.size) = some k) (hk : ∀ g ∈ G, g.length = k) (hj : G[j]? = some g) : readOf P t G.flatten (j * k) = some (.agg g.toArray) := by
  obtain ⟨h1, h2⟩ := flat_at hk hj
  cases hp : P.info? t with
  | none => rw [hp] at hs; cases hs
  | some ii =>
    rw [hp] at hs
    simp only [Option.map_some, Option.some.injEq] at hs
    subst hs
    unfold readOf
    simp only [ha, hp]
    rw [if_pos h2, h1]
theorem write_flat {P : Program} {t : TypeId} {k j : Nat} {G : List (List Value)} {v : Value} (hs : (P.info? t).map (·.size) = some k) (hk : ∀ g ∈ G, g.length = k) (hj : j < G.length) (hv : v.cells.size = k) (h1 : v.cells.toList.all (·.oneCell') = true) : writeOf P t G.flatten (j * k) v = some (G.set j v.cells.toList).flatten := by
  have h2 : j * k + k ≤ G.flatten.length := (flat_at hk (List.getElem?_eq_getElem hj)).2
  have h3 := flat_set (g := v.cells.toList) hk hj
  cases hp : P.info? t with
  | none => rw [hp] at hs; cases hs
  | some ii =>
    rw [hp] at hs
    simp only [Option.map_some, Option.some.injEq] at hs
    subst hs
    unfold writeOf
    simp only [hp]
    rw [if_pos ⟨hv, h2, h1⟩]
    split
    · rename_i hz
      rw [← h3, hz.1, List.take_zero, List.nil_append, Nat.zero_add, List.drop_of_length_le (by omega), List.append_nil]
    · rw [h3]
/-! ### Many at a time -/
section
variable {P : Program} {B : Nat} {lax : Bool} {ops : Array Oper} {Rs : Nat → Value → World → Prop} {K : St → World → Prop} {i : Nat} {rest : List Nat} {st : St} {w : World}
variable {d : Nat} {ty : TypeId} {pos : String} {aft : Array Edge} {g : Option (Nat × Bool)}
/-- A pointer to a variable of the call's own is not nil. -/
theorem s_nil {x : Operand} {q b off : Nat} (ho : ops[i]? = some ⟨some d, .nilCheck x, ty, pos, aft, g⟩) (hg : gok ops st g = true) (hk : known st ⟨some d, .nilCheck x, ty, pos, aft, g⟩ = true) (hx : st.ev x = .p q b off)
    (h : vOrd P B lax ops Rs K rest (st.put (some d) (.p q b off)) w) : vOrd P B lax ops Rs K (i :: rest) st w := by
  have ex : st.rho x = .pointer (some ⟨b, off, none⟩) := by rw [St.rho, hx]; rfl
  refine vOrd_op ho hg ⟨hk, rfl, .pointer (some ⟨b, off, none⟩), fun w => ?_, ?_⟩
  · simp [execOp, ex]
  · simp only [resSV, hx]
    exact h
/-- What an operation that only reckons yields; the blocks that must be the same ones. -/
def pureV (P : Program) (st : St) : Op → Option (SV × List Nat × List Nat)
  | .move x => match evF st x with | some sv => some (sv, [], []) | none => none
  | .assign x => match evF st x with | some sv => some (sv, [], []) | none => none
  | .load t x =>
    match st.ev x with
    | Sum.inr (q, b, off) =>
      match st.mem q with
      | some (b', cs) => bif Nat.ble off cs.length then (match readL P t cs off with | some v => some (.v v, [b], [b']) | none => none) else none
      | none => none
    | Sum.inl _ => none
  | .fieldAddr t x f =>
    match st.ev x with
    | Sum.inr (q, b, off) => match fieldK P t f with | some k => some (.p q b (off + k), [], []) | none => none
    | Sum.inl _ => none
  | .nilCheck x =>
    match st.ev x with
    | Sum.inr (q, b, off) => some (.p q b off, [], [])
    | Sum.inl _ => none
  | .extract x k =>
    match st.ev x with
    | Sum.inl (.tuple vs) => match nthL vs.toList k with | some v => some (.v v, [], []) | none => none
    | _ => none
  | .pick c x y =>
    match st.ev c with
    | Sum.inl (.bool t) =>
      match evF st (bif t then x else y) with
      | some (Sum.inl v) => some (.v v, [], [])
      | _ => none
    | _ => none
  | .unOp .not _ x =>
    match st.ev x with
    | Sum.inl (.bool c) => some (.v (.bool (!c)), [], [])
    | _ => none
  | _ => none
theorem pureV_sound {o : Oper} {sv : SV} {a b : List Nat} (ho : ops[i]? = some o) (hd : o.dst = some d) (hg : gok ops st o.guard = true) (hk : known st o = true) (hp : pureV P st o.op = some (sv, a, b)) (hab : a = b)
    (h : vOrd P B lax ops Rs K rest (st.put (some d) sv) w) : vOrd P B lax ops Rs K (i :: rest) st w := by
  obtain ⟨dst, op, ty, pos, aft, g⟩ := o
  simp only at hd hg hp
  subst hd
  unfold pureV at hp
  split at hp
  · split at hp
    · rename_i hx
      simp only [Option.some.injEq, Prod.mk.injEq] at hp
      obtain ⟨rfl, -, -⟩ := hp
      exact s_move ho hg hk hx h
    · cases hp
  · split at hp
    · rename_i hx
      simp only [Option.some.injEq, Prod.mk.injEq] at hp
      obtain ⟨rfl, -, -⟩ := hp
      exact s_assign ho hg hk hx h
    · cases hp
  · split at hp
    · rename_i hx
      split at hp
      · rename_i hm
        cases hl : Nat.ble _ _ with
        | false => rw [hl] at hp; cases hp
        | true =>
          rw [hl] at hp
          simp only [cond] at hp
          split at hp
          · rename_i hr
            simp only [Option.some.injEq, Prod.mk.injEq] at hp
            obtain ⟨rfl, rfl, rfl⟩ := hp
            simp only [List.cons.injEq, and_true] at hab
            subst hab
            exact s_load ho hg hk hx hm hl hr h
          · cases hp
      · cases hp
    · cases hp
  · split at hp
    · rename_i hx
      split at hp
      · rename_i hr
        simp only [Option.some.injEq, Prod.mk.injEq] at hp
        obtain ⟨rfl, -, -⟩ := hp
        exact s_field _ ho hg hk hx (by rw [hr]; rfl) h
      · cases hp
    · cases hp
  · split at hp
    · rename_i hx
      simp only [Option.some.injEq, Prod.mk.injEq] at hp
      obtain ⟨rfl, -, -⟩ := hp
      exact s_nil ho hg hk hx h
    · cases hp
  · split at hp
    · rename_i hx
      split at hp
      · rename_i hv
        simp only [Option.some.injEq, Prod.mk.injEq] at hp
        obtain ⟨rfl, -, -⟩ := hp
        exact s_extract ho hg hk hx hv h
      · cases hp
    · cases hp
  · split at hp
    · rename_i hx
      split at hp
      · rename_i hv
        simp only [Option.some.injEq, Prod.mk.injEq] at hp
        obtain ⟨rfl, -, -⟩ := hp
        exact s_pick ho hg hk hx hv h
      · cases hp
    · cases hp
  · split at hp
    · rename_i hx
      simp only [Option.some.injEq, Prod.mk.injEq] at hp
      obtain ⟨rfl, -, -⟩ := hp
      exact s_not ho hg hk hx h
    · cases hp
  · cases hp
/-- n operations of an order; what is left of it, what is known then, the blocks that must be the same ones. -/
def runQ (P : Program) (ops : Array Oper) : Nat → List Nat → St → List Nat → List Nat → Option (List Nat × St × List Nat × List Nat)
  | 0, order, st, x, y => some (order, st, x, y)
  | _ + 1, [], _, _, _ => none
  | n + 1, i :: r, st, x, y =>
    match ops[i]? with
    | none => none
    | some o =>
      bif gno ops st o.guard then runQ P ops n r (st.put o.dst (.v undef)) x y else
      bif gok ops st o.guard then
        bif known st o then
          match o.dst with
          | some d =>
            match pureV P st o.op with
            | some (sv, a, b) => runQ P ops n r (st.put (some d) sv) (a ++ x) (b ++ y)
            | none => none
          | none => none
        else none
      else none
theorem runQ_sound : ∀ (n : Nat) (order : List Nat) (st : St) (x y : List Nat) {rest : List Nat} {st' : St} {c : List Nat}, x.length = y.length → runQ P ops n order st x y = some (rest, st', c, c) → (vOrd P B lax ops Rs K rest st' w → vOrd P B lax ops Rs K order st w) ∧ x = y
  | 0, order, st, x, y, rest, st', c, hl, h => by
    simp only [runQ, Option.some.injEq, Prod.mk.injEq] at h
    obtain ⟨rfl, rfl, rfl, rfl⟩ := h
    exact ⟨id, rfl⟩
  | n + 1, [], st, x, y, rest, st', c, hl, h => by simp only [runQ] at h; cases h
  | n + 1, i :: r, st, x, y, rest, st', c, hl, h => by
    simp only [runQ] at h
    split at h
    · cases h
    · rename_i o ho
      cases hn : gno ops st o.guard with
      | true =>
        rw [hn] at h
        obtain ⟨h1, h2⟩ := runQ_sound n r _ x y hl h
        exact ⟨fun q => s_skip ho rfl hn (h1 q), h2⟩
      | false =>
        rw [hn] at h
        simp only [cond] at h
        cases hg : gok ops st o.guard with
        | false => rw [hg] at h; cases h
        | true =>
          rw [hg] at h
          simp only at h
          cases hk : known st o with
          | false => rw [hk] at h; cases h
          | true =>
            rw [hk] at h
            simp only at h
            split at h
            · rename_i d hd
              split at h
              · rename_i sv a b hp
                have hlen : a.length = b.length := by
                  revert hp
                  unfold pureV
                  repeat' split
                  all_goals (intro hp; first | (cases hp; done) | (simp only [Option.some.injEq, Prod.mk.injEq] at hp; obtain ⟨-, rfl, rfl⟩ := hp; rfl) | skip)
                  all_goals (cases hb : Nat.ble _ _ <;> rw [hb] at hp <;> simp only [cond] at hp)
                  all_goals first | (cases hp; done) | skip
                  all_goals (simp only [Option.some.injEq, Prod.mk.injEq] at hp; obtain ⟨-, rfl, rfl⟩ := hp; rfl)
                obtain ⟨h1, h2⟩ := runQ_sound n r _ _ _ (by rw [List.length_append, List.length_append, hl, hlen]) h
                obtain ⟨h3, h4⟩ := List.append_inj h2 hlen
                exact ⟨fun q => pureV_sound ho hd hg hk hp h3 (h1 q), h4⟩
              · cases h
            · cases h
theorem sQ (k : Nat) {order : List Nat} {st' : St} {c : List Nat} (h : vOrd P B lax ops Rs K rest st' w) (e : runQ P ops k order st [] [] = some (rest, st', c, c) := by exact rfl) : vOrd P B lax ops Rs K order st w := (runQ_sound k order st [] [] rfl e).1 h
theorem sZ (k : Nat) {order : List Nat} {st' : St} {c : List Nat} (h : K st' w) (e : runQ P ops k order st [] [] = some ([], st', c, c) := by exact rfl) : vOrd P B lax ops Rs K order st w := (runQ_sound k order st [] [] rfl e).1 h
end
section
variable {P : Program} {n : Nat} {hol : List Nat} {w0 w : World} {st : St} {K : Exit → St → World → Prop}
theorem wQ {id : Nat} {ops : Array Oper} (k : Nat) {rest : List Nat} {st' : St} {c : List Nat} (h : vOrd P w0.heap.size true ops (fun _ _ _ => True) (K .normal) rest st' w) (e : runQ P ops k (List.range ops.size) st [] [] = some (rest, st', c, c) := by exact rfl) (hd : dstsIn n ops = true := by kernel_rfl) : Wp P n hol w0 (.region id ops false) st w K := Wp.region _ hd rfl (sQ k h e)
theorem wZ {id : Nat} {ops : Array Oper} {st' : St} {c : List Nat} (h : K .normal st' w) (e : runQ P ops ops.size (List.range ops.size) st [] [] = some ([], st', c, c) := by exact rfl) (hd : dstsIn n ops = true := by kernel_rfl) : Wp P n hol w0 (.region id ops false) st w K := Wp.region _ hd rfl (sZ ops.size h e)
theorem qZ {id : Nat} {ops : Array Oper} {y : Code} {st' : St} {c : List Nat} (h : Wp P n hol w0 y st' w K) (e : runQ P ops ops.size (List.range ops.size) st [] [] = some ([], st', c, c) := by exact rfl) (hd : dstsIn n ops = true := by kernel_rfl) : Wp P n hol w0 (.seq (.region id ops false) y) st w K := Wp.seq (wZ h e hd)
theorem qQ {id : Nat} {ops : Array Oper} {y : Code} (k : Nat) {rest : List Nat} {st' : St} {c : List Nat} (h : vOrd P w0.heap.size true ops (fun _ _ _ => True) (fun st'' w' => Wp P n hol w0 y st'' w' K) rest st' w) (e : runQ P ops k (List.range ops.size) st [] [] = some (rest, st', c, c) := by exact rfl) (hd : dstsIn n ops = true := by kernel_rfl) : Wp P n hol w0 (.seq (.region id ops false) y) st w K := Wp.seq (wQ k h e hd)
end
/-! ### Short forms -/
section
variable {P : Program} {B : Nat} {lax : Bool} {ops : Array Oper} {Rs : Nat → Value → World → Prop} {K : St → World → Prop} {i : Nat} {rest : List Nat} {st : St} {w : World}
variable {d : Nat} {ty : TypeId} {pos : String} {aft : Array Edge} {g : Option (Nat × Bool)}
theorem sM {x : Operand} {sv : SV} (h : vOrd P B lax ops Rs K rest (st.put (some d) sv) w) (ho : ops[i]? = some ⟨some d, .move x, ty, pos, aft, g⟩ := by exact rfl) (hg : gok ops st g = true := by exact rfl) (hk : known st ⟨some d, .move x, ty, pos, aft, g⟩ = true := by exact rfl) (hx : evF st x = some sv := by exact rfl) : vOrd P B lax ops Rs K (i :: rest) st w := s_move ho hg hk hx h
theorem sA {x : Operand} {sv : SV} (h : vOrd P B lax ops Rs K rest (st.put (some d) sv) w) (ho : ops[i]? = some ⟨some d, .assign x, ty, pos, aft, g⟩ := by exact rfl) (hg : gok ops st g = true := by exact rfl) (hk : known st ⟨some d, .assign x, ty, pos, aft, g⟩ = true := by exact rfl) (hx : evF st x = some sv := by exact rfl) : vOrd P B lax ops Rs K (i :: rest) st w := s_assign ho hg hk hx h
theorem sL {t : TypeId} {x : Operand} {q b off : Nat} {cs : List Value} {v : Value} (h : vOrd P B lax ops Rs K rest (st.put (some d) (.v v)) w) (ho : ops[i]? = some ⟨some d, .load t x, ty, pos, aft, g⟩ := by exact rfl) (hg : gok ops st g = true := by exact rfl) (hk : known st ⟨some d, .load t x, ty, pos, aft, g⟩ = true := by exact rfl) (hx : st.ev x = .p q b off := by exact rfl) (hm : st.mem q = some (b, cs) := by exact rfl) (hl : Nat.ble off cs.length = true := by exact rfl) (hr : readL P t cs off = some v := by exact rfl) : vOrd P B lax ops Rs K (i :: rest) st w := s_load ho hg hk hx hm hl hr h
theorem sS {t : TypeId} {x y : Operand} {q b off : Nat} {cs cs' : List Value} {v : Value} (h : ∀ w', Stored b w w' → Var w b cs → vOrd P B lax ops Rs K rest (st.set q b cs') w') (ho : ops[i]? = some ⟨none, .store t x y, ty, pos, aft, g⟩ := by exact rfl) (hg : gok ops st g = true := by exact rfl) (hk : known st ⟨none, .store t x y, ty, pos, aft, g⟩ = true := by exact rfl) (hx : st.ev x = .p q b off := by exact rfl) (hy : st.ev y = .v v := by exact rfl) (hm : st.mem q = some (b, cs) := by exact rfl) (hr : writeL P t cs off v = some cs' := by exact rfl) : vOrd P B lax ops Rs K (i :: rest) st w := s_store ho hg hk hx hy hm hr h
theorem sO {t : TypeId} {z : Value} {cs : List Value} (h : ∀ b w', w.heap.size ≤ b → Later w w' → vOrd P B lax ops Rs K rest (st.new d b cs) w') (ho : ops[i]? = some ⟨some d, .alloc t, ty, pos, aft, g⟩ := by exact rfl) (hg : gok ops st g = true := by exact rfl) (hm : st.mem d = none := by exact rfl) (hz : zeroOf P t = some z := by exact rfl) (hc : forceL z.cells.toList = some cs := by exact rfl) : vOrd P B lax ops Rs K (i :: rest) st w := s_alloc ho hg hm hz hc h
theorem sE {t : TypeId} {x : Operand} {v : Value} {cs : List Value} (h : ∀ b w', w.heap.size ≤ b → Later w w' → vOrd P B lax ops Rs K rest (st.new d b cs) w') (ho : ops[i]? = some ⟨some d, .box t x, ty, pos, aft, g⟩ := by exact rfl) (hg : gok ops st g = true := by exact rfl) (hk : known st ⟨some d, .box t x, ty, pos, aft, g⟩ = true := by exact rfl) (hm : st.mem d = none := by exact rfl) (hx : st.ev x = .v v := by exact rfl) (hc : forceL v.cells.toList = some cs := by exact rfl) : vOrd P B lax ops Rs K (i :: rest) st w := s_box ho hg hk hm hx hc h
theorem sX {x : Operand} {vs : Array Value} {v : Value} {k : Nat} (h : vOrd P B lax ops Rs K rest (st.put (some d) (.v v)) w) (ho : ops[i]? = some ⟨some d, .extract x k, ty, pos, aft, g⟩ := by exact rfl) (hg : gok ops st g = true := by exact rfl) (hk : known st ⟨some d, .extract x k, ty, pos, aft, g⟩ = true := by exact rfl) (hx : st.ev x = .v (.tuple vs) := by exact rfl) (hv : nthL vs.toList k = some v := by exact rfl) : vOrd P B lax ops Rs K (i :: rest) st w := s_extract ho hg hk hx hv h
theorem sP {c x y : Operand} {t : Bool} {v : Value} (h : vOrd P B lax ops Rs K rest (st.put (some d) (.v v)) w) (ho : ops[i]? = some ⟨some d, .pick c x y, ty, pos, aft, g⟩ := by exact rfl) (hg : gok ops st g = true := by exact rfl) (hk : known st ⟨some d, .pick c x y, ty, pos, aft, g⟩ = true := by exact rfl) (hc : st.ev c = .v (.bool t) := by exact rfl) (hx : evF st (bif t then x else y) = some (.v v) := by exact rfl) : vOrd P B lax ops Rs K (i :: rest) st w := s_pick ho hg hk hc hx h
theorem sK {o : Oper} {dd : Option Nat} (h : vOrd P B lax ops Rs K rest (st.put dd (.v undef)) w) (ho : ops[i]? = some o := by exact rfl) (hd : o.dst = dd := by exact rfl) (hg : gno ops st o.guard = true := by exact rfl) : vOrd P B lax ops Rs K (i :: rest) st w := s_skip ho hd hg h
theorem sF {t : TypeId} {x : Operand} {f q b off : Nat} (k : Nat) (h : vOrd P B lax ops Rs K rest (st.put (some d) (.p q b k)) w) (ho : ops[i]? = some ⟨some d, .fieldAddr t x f, ty, pos, aft, g⟩ := by exact rfl) (hg : gok ops st g = true := by exact rfl) (hk : known st ⟨some d, .fieldAddr t x f, ty, pos, aft, g⟩ = true := by exact rfl) (hx : st.ev x = .p q b off := by exact rfl) (hr : (fieldK P t f).map (off + ·) = some k := by exact rfl) : vOrd P B lax ops Rs K (i :: rest) st w := s_field k ho hg hk hx hr h
theorem sN {t : TypeId} {x : Operand} {c : Bool} (h : vOrd P B lax ops Rs K rest (st.put (some d) (.v (.bool (!c)))) w) (ho : ops[i]? = some ⟨some d, .unOp .not t x, ty, pos, aft, g⟩ := by exact rfl) (hg : gok ops st g = true := by exact rfl) (hk : known st ⟨some d, .unOp .not t x, ty, pos, aft, g⟩ = true := by exact rfl) (hx : st.ev x = .v (.bool c) := by exact rfl) : vOrd P B lax ops Rs K (i :: rest) st w := s_not ho hg hk hx h
theorem sD {f : FuncId} {xs : Array Operand} {ts : Array TypeId} {args : List Value} (hc : ∀ wc, Later w wc → Calls P f args.toArray wc fun e w' => ∃ v, e = .returned v ∧ Rs i v w' ∧ Below wc.heap.size wc w') (h : ∀ v w1 w2, Rs i v w1 → Later w w1 → Later w1 w2 → vOrd P B lax ops Rs K rest (st.put (some d) (.v v)) w2) (ho : ops[i]? = some ⟨some d, .call ⟨.value (.func f), xs, ts⟩, ty, pos, aft, g⟩ := by exact rfl) (hg : gok ops st g = true := by exact rfl) (hk : known st ⟨some d, .call ⟨.value (.func f), xs, ts⟩, ty, pos, aft, g⟩ = true := by exact rfl) (hx : evL st xs.toList = some args := by exact rfl) (hf : goFn P f = true := by kernel_rfl) : vOrd P B lax ops Rs K (i :: rest) st w := s_callD ho hg hk hf hx hc h
theorem sI {t e : TypeId} {x ix : Operand} {b off len cap sz : Nat} {k : IntKind} {j : Int} (o : Nat) (h : vOrd P B lax ops Rs K rest (st.put (some d) (.v (.pointer (some ⟨b, o, none⟩)))) w) (ho : ops[i]? = some ⟨some d, .indexAddr t x ix, ty, pos, aft, g⟩ := by exact rfl) (hg : gok ops st g = true := by exact rfl) (hk : known st ⟨some d, .indexAddr t x ix, ty, pos, aft, g⟩ = true := by exact rfl) (hx : st.ev x = .v (.slice (some ⟨b, off, none⟩) len cap) := by exact rfl) (hi : st.ev ix = .v (.int k j) := by exact rfl) (hu : P.underlying t = some (.slice e) := by exact rfl) (hs : (P.info? e).map (·.size) = some sz := by exact rfl) (h0 : 0 ≤ j := by omega) (h1 : j < len := by omega) (he : off + j.toNat * sz = o := by omega) : vOrd P B lax ops Rs K (i :: rest) st w := s_idx o ho hg hk hx hi hu hs h0 h1 he h
end
section
variable {P : Program} {n : Nat} {hol : List Nat} {w0 w : World} {st : St} {K : Exit → St → World → Prop}
theorem wR {id : Nat} {ops : Array Oper} (order : List Nat) (h : vOrd P w0.heap.size true ops (fun _ _ _ => True) (K .normal) order st w) (hd : dstsIn n ops = true := by kernel_rfl) (ho : List.range ops.size = order := by kernel_rfl) : Wp P n hol w0 (.region id ops false) st w K := Wp.region order hd ho h
theorem wD {id : Nat} {ops : Array Oper} (order : List Nat) (Rm : List Nat) (Rs : Nat → Value → World → Prop) (h : ∀ w', Later w w' → vOrd P w0.heap.size false ops Rs (K .normal) order st w') (hm : P.follows .mixedOrders = true := by kernel_rfl) (hd : dstsIn n ops = true := by kernel_rfl) (hl : order.length = ops.size := by kernel_rfl) (ho : okOrder .any ops (Array.replicate ops.size false) order Rm = true := by kernel_rfl) : Wp P n hol w0 (.region id ops true) st w K := Wp.drawn hm hd order Rm hl ho Rs h
end
end Go.Proofs.Ytlpenfganhaclaa
