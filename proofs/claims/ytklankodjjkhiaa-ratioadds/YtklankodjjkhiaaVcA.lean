/-
  A small logic of our own for walking a function of plain variables: what the walk knows of the frame and of the call's own variables ('St'), each operation in it ('vOp'), and that what is shown there holds of the machine. No conditions; no program is spoken of.
-/
import Derived.WalkKit
import Derived.WalkSpells
import Derived.WalkLawsBesides
import Derived.Handy
import Derived.Laws.CopyRow
import Derived.Laws.Rows
import Derived.Orders
namespace Go.Proofs.Ytklankodjjkhiaa
open Go.RowKit

/-! ### Worlds -/
/-- A later world: what was there is as it was. -/
def Later (w w' : World) : Prop := Below w.heap.size w w'
theorem Later.refl (w : World) : Later w w := Below.refl _ _
theorem Later.trans {a b c : World} (h : Later a b) (k : Later b c) : Later a c := Below.trans h (Below.mono k h.size)
theorem Later.alloc (w : World) (o : Obj) : Later w (w.alloc o) := (Below.refl _ _).alloc (Nat.le_refl _) o
/-- Only block b has turned. -/
structure Stored (b : Nat) (w w' : World) : Prop where
  os : w'.os = w.os
  tape : w'.tape = w.tape
  output : w'.output = w.output
  size : w'.heap.size = w.heap.size
  block : ∀ k, k ≠ b → w'.heap[k]? = w.heap[k]?
theorem Stored.below {b : Nat} {w0 w w' : World} (h : Stored b w w') (k : Below w0.heap.size w0 w) (hb : w0.heap.size ≤ b) : Below w0.heap.size w0 w' :=
  k.trans ⟨h.os, h.tape, h.output, Nat.le_of_eq h.size.symm, fun i hi => h.block i (by omega)⟩
theorem Stored.cell {b : Nat} {w w' : World} (h : Stored b w w') {p : Addr} (hp : p.block ≠ b) : w'.cell? p = w.cell? p := World.cell?_of_block (w := w) (h.block p.block hp)
/-- Block b is one of the call's own variables, and holds these cells. -/
def Var (w : World) (b : Nat) (cs : List Value) : Prop := ∃ t, w.heap[b]? = some (.cells cs.toArray t (0, 0))

/-! ### What the walk knows -/
/-- What a slot holds: a value, or the address of a variable of the call's own (its name, its block, the place in it). -/
inductive SV where
  | v (x : Value)
  | p (h b off : Nat)
def SV.val : SV → Value
  | .v x => x
  | .p _ b off => .pointer (some ⟨b, off, none⟩)
structure St where
  env : Nat → Option SV
  mem : Nat → Option (Nat × List Value)
def upd {α : Type} (f : Nat → Option α) (k : Nat) (x : α) : Nat → Option α := fun s => bif Nat.beq s k then some x else f s
theorem upd_same {α : Type} (f : Nat → Option α) (k : Nat) (x : α) : upd f k x k = some x := by simp [upd]
theorem upd_ne {α : Type} (f : Nat → Option α) {k s : Nat} (x : α) (h : s ≠ k) : upd f k x s = f s := by
  have : Nat.beq s k = false := by
    cases hh : Nat.beq s k with
    | false => rfl
    | true => exact absurd (Nat.eq_of_beq_eq_true hh) h
  simp [upd, this]
theorem upd_comm {α : Type} (f : Nat → Option α) {k l : Nat} (x y : α) (h : k ≠ l) : upd (upd f k x) l y = upd (upd f l y) k x := by
  funext s
  by_cases hk : s = k
  · subst hk; rw [upd_ne _ _ h, upd_same, upd_same]
  · by_cases hl : s = l
    · subst hl; rw [upd_same, upd_ne _ _ hk, upd_same]
    · rw [upd_ne _ _ hl, upd_ne _ _ hk, upd_ne _ _ hk, upd_ne _ _ hl]
def St.put (st : St) : Option Nat → SV → St
  | none, _ => st
  | some d, x => ⟨upd st.env d x, st.mem⟩
def St.new (st : St) (d b : Nat) (cs : List Value) : St := ⟨upd st.env d (.p d b 0), upd st.mem d (b, cs)⟩
def St.set (st : St) (h b : Nat) (cs : List Value) : St := ⟨st.env, upd st.mem h (b, cs)⟩
def St.ev (st : St) : Operand → SV
  | .tmp t => (st.env t).getD (.v undef)
  | .const v => .v v
  | x => .v ((⟨#[], []⟩ : Act).eval x)
def St.rho (st : St) (x : Operand) : Value := (st.ev x).val
def known (st : St) (o : Oper) : Bool := o.op.operands.toList.all fun | .tmp t => (st.env t).isSome | _ => true
def noSel (o : Oper) : Bool := match o.op with | .select .. => false | _ => true

/-- The frame and the world are as the walk knows them. -/
structure Holds (n : Nat) (w0 : World) (st : St) (a : Act) (w : World) : Prop where
  size : a.tmps.size = n
  defers : a.defers = []
  env : ∀ s x, st.env s = some x → a.tmps[s]? = some x.val
  mem : ∀ h b cs, st.mem h = some (b, cs) → Var w b cs
  own : ∀ h b cs, st.mem h = some (b, cs) → w0.heap.size ≤ b
  inj : ∀ h b cs h' b' cs', st.mem h = some (b, cs) → st.mem h' = some (b', cs') → h ≠ h' → b ≠ b'
  old : Later w0 w
section
variable {n : Nat} {w0 : World} {st : St} {a : Act} {w : World}
theorem Var.lt {b : Nat} {cs : List Value} (h : Var w b cs) : b < w.heap.size := by
  obtain ⟨t, ht⟩ := h
  exact (Array.getElem?_eq_some_iff.1 ht).1
theorem Var.later {b : Nat} {cs : List Value} {w' : World} (h : Var w b cs) (l : Later w w') : Var w' b cs := by
  have hl := h.lt
  obtain ⟨t, ht⟩ := h
  exact ⟨t, by rw [l.block b hl]; exact ht⟩
theorem Holds.eval (H : Holds n w0 st a w) {x : Operand} (hk : ∀ t, x = .tmp t → (st.env t).isSome = true) : a.eval x = st.rho x := by
  cases x with
  | tmp t =>
    have := hk t rfl
    cases he : st.env t with
    | none => rw [he] at this; cases this
    | some y =>
      have h1 := H.env t y he
      simp [Act.eval, St.rho, St.ev, he, h1]
  | _ => rfl
theorem Holds.exec (H : Holds n w0 st a w) {o : Oper} (hk : known st o = true) (hs : noSel o = true) : execOp a.eval o = execOp st.rho o := by
  refine execOp_congr o (fun cs b h => by simp [noSel, h] at hs) (fun x hx => H.eval (fun t ht => ?_))
  subst ht
  have := List.all_eq_true.1 hk (.tmp t) (by simpa using hx)
  simpa using this
theorem Holds.put (H : Holds n w0 st a w) (d : Option Nat) (hd : ∀ k, d = some k → k < n) (x : SV) : Holds n w0 (st.put d x) (a.put d x.val) w := by
  cases d with
  | none => exact H
  | some d =>
    have hlt := hd d rfl
    refine ⟨by simpa [Act.put] using H.size, H.defers, fun s y hs => ?_, H.mem, H.own, H.inj, H.old⟩
    by_cases e : s = d
    · subst e
      simp only [St.put, upd_same, Option.some.injEq] at hs
      subst hs
      simp [Act.put, H.size, hlt]
    · simp only [St.put, upd_ne _ _ e] at hs
      simp [Act.put, Array.getElem?_setIfInBounds_ne (Ne.symm e), H.env s y hs]
theorem Holds.later (H : Holds n w0 st a w) {w' : World} (l : Later w w') : Holds n w0 st a w' :=
  ⟨H.size, H.defers, H.env, fun h b cs e => (H.mem h b cs e).later l, H.own, H.inj, H.old.trans l⟩
theorem Holds.new (H : Holds n w0 st a w) (d : Nat) (hd : d < n) (hm : st.mem d = none) (cs : List Value) (t : TypeId) :
    Holds n w0 (st.new d w.heap.size cs) (a.put (some d) (.pointer (some ⟨w.heap.size, 0, none⟩))) (w.alloc (.cells cs.toArray t)) := by
  have H' := (H.later (Later.alloc w (.cells cs.toArray t))).put (some d) (fun k e => by cases e; exact hd) (.p d w.heap.size 0)
  refine ⟨H'.size, H'.defers, fun s y hs => H'.env s y hs, fun h b cs' e => ?_, fun h b cs' e => ?_, fun h b cs1 h' b' cs2 e e' hne => ?_, H'.old⟩
  · by_cases hh : h = d
    · subst hh
      simp only [St.new, upd_same, Option.some.injEq, Prod.mk.injEq] at e
      obtain ⟨rfl, rfl⟩ := e
      exact ⟨t, by show (w.heap.push _)[_]? = _; simp⟩
    · simp only [St.new, upd_ne _ _ hh] at e
      exact H'.mem h b cs' e
  · by_cases hh : h = d
    · subst hh
      simp only [St.new, upd_same, Option.some.injEq, Prod.mk.injEq] at e
      obtain ⟨rfl, rfl⟩ := e
      exact H.old.size
    · simp only [St.new, upd_ne _ _ hh] at e
      exact H.own h b cs' e
  · by_cases hh : h = d
    · subst hh
      simp only [St.new, upd_same, Option.some.injEq, Prod.mk.injEq] at e
      obtain ⟨rfl, rfl⟩ := e
      simp only [St.new, upd_ne _ _ (Ne.symm hne)] at e'
      have := (H.mem h' b' cs2 e').lt
      omega
    · simp only [St.new, upd_ne _ _ hh] at e
      by_cases hh' : h' = d
      · subst hh'
        simp only [St.new, upd_same, Option.some.injEq, Prod.mk.injEq] at e'
        obtain ⟨rfl, rfl⟩ := e'
        have := (H.mem h b cs1 e).lt
        omega
      · simp only [St.new, upd_ne _ _ hh'] at e'
        exact H.inj h b cs1 h' b' cs2 e e' hne
theorem Holds.set (H : Holds n w0 st a w) {h b : Nat} {cs cs' : List Value} {w' : World} (e : st.mem h = some (b, cs)) (k : Stored b w w') (hv : Var w' b cs') : Holds n w0 (st.set h b cs') a w' := by
  refine ⟨H.size, H.defers, H.env, fun g c ds e' => ?_, fun g c ds e' => ?_, fun g c ds g' c' ds' e1 e2 hne => ?_, k.below H.old (H.own h b cs e)⟩
  · by_cases hg : g = h
    · subst hg
      simp only [St.set, upd_same, Option.some.injEq, Prod.mk.injEq] at e'
      obtain ⟨rfl, rfl⟩ := e'
      exact hv
    · simp only [St.set, upd_ne _ _ hg] at e'
      obtain ⟨t, ht⟩ := H.mem g c ds e'
      exact ⟨t, by rw [k.block c (H.inj g c ds h b cs e' e hg)]; exact ht⟩
  · by_cases hg : g = h
    · subst hg
      simp only [St.set, upd_same, Option.some.injEq, Prod.mk.injEq] at e'
      obtain ⟨rfl, rfl⟩ := e'
      exact H.own g _ cs e
    · simp only [St.set, upd_ne _ _ hg] at e'
      exact H.own g c ds e'
  · have back : ∀ g c ds, (st.set h b cs').mem g = some (c, ds) → ∃ ds', st.mem g = some (c, ds') := by
      intro g c ds hg
      by_cases e' : g = h
      · subst e'
        simp only [St.set, upd_same, Option.some.injEq, Prod.mk.injEq] at hg
        obtain ⟨rfl, rfl⟩ := hg
        exact ⟨cs, e⟩
      · simp only [St.set, upd_ne _ _ e'] at hg
        exact ⟨ds, hg⟩
    obtain ⟨x, hx⟩ := back g c ds e1
    obtain ⟨y, hy⟩ := back g' c' ds' e2
    exact H.inj g c x g' c' y hx hy hne
end
end Go.Proofs.Ytklankodjjkhiaa
