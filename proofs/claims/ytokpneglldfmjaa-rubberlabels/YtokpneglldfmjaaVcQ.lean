/-
  More of the small logic: methods of a pointer to a variable of the caller's (s_nil, s_callB; calls_WpB in Vc), functions as values (s_mkfun, s_callF), a copy of a string (x_copyS, x_unsafeS), the index of a byte (x_ext). No conditions.
-/
import Derived.Test.YtokpneglldfmjaaVcY
import Derived.Laws.CopyRow
import Derived.Laws.Unary
import Derived.Lib.BufferWrite
import Derived.Lib.UnsafeStr
import Derived.Lib.Bytealg
namespace Go.Proofs.Ytokpneglldfmjaa
open Go.RowKit

section
variable {P : Program} {B : Nat} {lax : Bool} {ops : Array Oper} {Rs : Nat → Value → World → Prop} {K : St → World → Prop} {i : Nat} {rest : List Nat} {st : St} {w : World}
variable {d : Nat} {ty : TypeId} {pos : String} {aft : Array Edge} {g : Option (Nat × Bool)}
/-- A function with what it holds. -/
theorem s_mkfun {f : FuncId} {xs : Array Operand} {l : List Value} (ho : ops[i]? = some ⟨some d, .makeFunc (.func f) #[] xs, ty, pos, aft, g⟩) (hg : gok ops st g = true) (hk : known st ⟨some d, .makeFunc (.func f) #[] xs, ty, pos, aft, g⟩ = true) (hx : evL st xs.toList = some l)
    (h : vOrd P B lax ops Rs K rest (st.put (some d) (.v (.func (.func f) #[] l.toArray))) w) : vOrd P B lax ops Rs K (i :: rest) st w := by
  refine s_val ho hg rfl hk (fun w => ?_) h
  simp only [execOp, Instr.makeFunc, evL_arr hx]
  simp
theorem run_callF {f : FuncId} {x : Operand} {caps : Array Value} {xs : Array Operand} {ts : Array TypeId} (hf : goFn P f = true) (hx : st.ev x = .v (.func (.func f) #[] caps)) (w : World) :
    (execOp st.rho ⟨some d, .call ⟨.value x, xs, ts⟩, ty, pos, aft, g⟩).run P w = .ok (.enter f (xs.map st.rho ++ caps)) w := by
  unfold goFn at hf
  cases hp : P.funcs[f]? with
  | none => simp [hp] at hf
  | some fn =>
    simp only [hp, Bool.and_eq_true, Bool.not_eq_true'] at hf
    have hb : fn.body ≠ none := by intro h; simp [h] at hf
    have hn : ¬ fn.name = "runtime.NumGoroutine" := by simpa using hf.1
    have e : st.rho x = .func (.func f) #[] caps := by rw [St.rho, hx]; rfl
    simp [execOp, resolve, invoke, e, Deferred.ofValue, callFunc, hp, hn, hb]
/-- A call of a function that is a value. -/
theorem s_callF {f : FuncId} {x : Operand} {caps : List Value} {xs : Array Operand} {ts : Array TypeId} {args : List Value} {R : Value → World → Prop} (ho : ops[i]? = some ⟨some d, .call ⟨.value x, xs, ts⟩, ty, pos, aft, g⟩) (hg : gok ops st g = true) (hk : known st ⟨some d, .call ⟨.value x, xs, ts⟩, ty, pos, aft, g⟩ = true) (hf : goFn P f = true) (hfv : st.ev x = .v (.func (.func f) #[] caps.toArray)) (hx : evL st xs.toList = some args)
    (hc : Calls P f (args ++ caps).toArray w fun e w' => ∃ v, e = .returned v ∧ R v w' ∧ Below w.heap.size w w') (h : ∀ v w', R v w' → Later w w' → vOrd P B true ops Rs K rest (st.put (some d) (.v v)) w') : vOrd P B true ops Rs K (i :: rest) st w := by
  refine ⟨_, ho, .inr ⟨rfl, hg, hk, rfl, .inl (fun _ => ⟨fun v w' => vOrd P B true ops Rs K rest (st.put (some d) (.v v)) w', ?_, fun v w1 q _ => q⟩)⟩⟩
  unfold RunsTo
  rw [run_callF hf hfv, evL_arr hx]
  have e : args.toArray ++ caps.toArray = (args ++ caps).toArray := by simp
  rw [e]
  exact Calls.mono hc (fun e w' ⟨v, h1, h2, h3⟩ => ⟨v, h1, h v w' h2 h3, h3⟩)
end
/-! ### Regions with three orders -/
section
variable {P : Program} {n B : Nat} {hol : List Nat} {w0 w : World} {st : St} {md : Region.Mode} {ops : Array Oper} {Rs : Nat → Value → World → Prop}
end
end Go.Proofs.Ytokpneglldfmjaa
