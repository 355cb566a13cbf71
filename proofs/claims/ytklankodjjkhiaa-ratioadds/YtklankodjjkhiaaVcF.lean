/-
  The small logic: a whole function, and the steps that a walk takes in it. No conditions.
-/
import Derived.Test.YtklankodjjkhiaaVcE
namespace Go.Proofs.Ytklankodjjkhiaa
open Go.RowKit

def Res1 (P : Program) (st : St) : ResultVar → Value → Prop
  | .tmp t, v => ∃ x, st.env t = some x ∧ x.val = v
  | .cell p t, v => ∃ h b off cs, st.env p = some (.p h b off) ∧ st.mem h = some (b, cs) ∧ readOf P t cs off = some v
section
variable {P : Program} {n : Nat} {w0 w : World} {st : St} {a : Act} {fn : Func}
theorem Holds.slot (H : Holds n w0 st a w) {s : Nat} {x : SV} (h : st.env s = some x) : a.tmps[s]?.getD undef = x.val := by rw [H.env s x h]; rfl
def resM (tmps : Array Value) : ResultVar → Sem Value
  | .tmp t => pure (tmps.getD t undef)
  | .cell q t => do loadVar t (← asAddr (tmps.getD q undef))
theorem results_eq (fn : Func) (tmps : Array Value) : results fn tmps = (do let vs ← fn.results.mapM (resM tmps); pure (if h : vs.size = 1 then vs[0] else .tuple vs)) := by
  unfold results
  congr
theorem res1_run (H : Holds n w0 st a w) {r : ResultVar} {v : Value} (h : Res1 P st r v) : (resM a.tmps r).run P w = .ok v w := by
  cases r with
  | tmp t =>
    obtain ⟨x, h1, h2⟩ := h
    have := H.slot h1
    simp [resM, this, h2]
  | cell q t =>
    obtain ⟨g, b, off, cs, h1, h2, h3⟩ := h
    have e := H.slot h1
    have hl := run_readOf (P := P) (H.mem g b cs h2) h3
    simp [resM, e, SV.val, asAddr, hl]
def Resd (P : Program) (st : St) : List ResultVar → Value → Prop
  | [], v => v = .tuple #[]
  | [r], v => Res1 P st r v
  | [r, s], v => ∃ x y, Res1 P st r x ∧ Res1 P st s y ∧ v = .tuple #[x, y]
  | [r, s, t], v => ∃ x y z, Res1 P st r x ∧ Res1 P st s y ∧ Res1 P st t z ∧ v = .tuple #[x, y, z]
  | [r, s, t, q], v => ∃ x y z u, Res1 P st r x ∧ Res1 P st s y ∧ Res1 P st t z ∧ Res1 P st q u ∧ v = .tuple #[x, y, z, u]
  | _, _ => False
theorem resd_run (H : Holds n w0 st a w) {v : Value} (h : Resd P st fn.results.toList v) : (results fn a.tmps).run P w = .ok v w := by
  have e : fn.results = fn.results.toList.toArray := by simp
  generalize fn.results.toList = l at *
  unfold Resd at h
  split at h
  · subst h; simp [results_eq, e]
  · have h1 := res1_run H h
    simp [results_eq, e, h1]
  · obtain ⟨x, y, h1, h2, rfl⟩ := h
    have h1 := res1_run H h1
    have h2 := res1_run H h2
    simp [results_eq, e, h1, h2]
  · obtain ⟨x, y, z, h1, h2, h3, rfl⟩ := h
    have h1 := res1_run H h1
    have h2 := res1_run H h2
    have h3 := res1_run H h3
    simp [results_eq, e, h1, h2, h3]
  · obtain ⟨x, y, z, u, h1, h2, h3, h4, rfl⟩ := h
    have h1 := res1_run H h1
    have h2 := res1_run H h2
    have h3 := res1_run H h3
    have h4 := res1_run H h4
    simp [results_eq, e, h1, h2, h3, h4]
  · exact h.elim
def St.args (args : List Value) : St := ⟨fun s => (args[s]?).map .v, fun _ => none⟩
/-- A whole function. -/
theorem calls_Wp {f : FuncId} {c : Code} {args : List Value} {R : Ending → World → Prop} (hf : P.funcs[f]? = some fn) (hb : fn.body = some c) (hn : fn.ntmps = n) (ha : args.length ≤ n)
    (h : Wp P n w c (St.args args) w (fun e st' w' => (e = .normal ∨ e = .ret) ∧ (Later w w' → ∃ v, Resd P st' fn.results.toList v ∧ R (.returned v) w'))) : Calls P f args.toArray w R := by
  have H0 : Holds n w (St.args args) { tmps := args.toArray ++ Array.replicate (fn.ntmps - args.toArray.size) undef, defers := [] } w := by
    refine ⟨by simp [hn]; omega, rfl, fun s x hs => ?_, fun h b cs e => (by cases e), fun h b cs e => (by cases e), fun h b cs h' b' cs' e => (by cases e), Later.refl w⟩
    simp only [St.args, Option.map_eq_some_iff] at hs
    obtain ⟨y, hy, rfl⟩ := hs
    have hlt := (List.getElem?_eq_some_iff.1 hy).1
    simp [Array.getElem?_append, hlt, SV.val, (List.getElem?_eq_some_iff.1 hy).2]
  refine calls_of_wp hf hb (Code.wp_mono (fun e a' w' q => ?_) (h _ H0))
  obtain ⟨st', H', he, q⟩ := q
  obtain ⟨v, hv, hR⟩ := q H'.old
  have hr := resd_run H' hv
  rcases he with rfl | rfl <;> exact ⟨H'.defers, v, hr, hR⟩
end
end Go.Proofs.Ytklankodjjkhiaa
