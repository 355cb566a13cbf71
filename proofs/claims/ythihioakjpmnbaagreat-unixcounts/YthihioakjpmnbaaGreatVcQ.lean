/-
 More of the small logic: methods of a pointer to a variable of the caller's (s_nil, s_callB; calls_WpB in Vc), functions as values (s_mkfun, s_callF), a copy of a string (x_copyS, x_unsafeS), the index of a byte (x_ext). No conditions.
-/
import Derived.Test.YthihioakjpmnbaaGreatGregO
import Derived.Laws.BitsAllLaws
import Derived.Laws.Shifts
import Derived.Laws.OwnMore
import Derived.Laws.Slices
import Derived.Laws.StructEq
import Derived.Laws.CopyRow
import Derived.Laws.Unary
import Derived.Lib.BufferWrite
import Derived.Lib.UnsafeStr
import Derived.Lib.Bytealg
namespace Go.Proofs.YthihioakjpmnbaaGreat
open Go.RowKit

section
variable {P : Program} {B : Nat} {lax : Bool} {ops : Array Oper} {Rs : Nat → Value → World → Prop} {K : St → World → Prop} {i : Nat} {rest : List Nat} {st : St} {w : World}
variable {d : Nat} {ty : TypeId} {pos : String} {aft : Array Edge} {g : Option (Nat × Bool)}
theorem a_shr {xt yt : TypeId} {x y : Operand} {k k' : IntKind} {a s : Int} (p : Int) (ho : ops[i]? = some ⟨some d, .binOp .shr xt x y yt, ty, pos, aft, g⟩) (hg : gok ops st g = true) (hk : known st ⟨some d, .binOp .shr xt x y yt, ty, pos, aft, g⟩ = true) (hx : st.ev x = .v (.int k a)) (hy : st.ev y = .v (.int k' s)) (s0 : 0 ≤ s) (hp : (2 : Int) ^ min s.toNat k.bits = p)
  (h : vOrd P B lax ops Rs K rest (st.put (some d) (.v (.int k (a / p)))) w) : vOrd P B lax ops Rs K (i :: rest) st w := by
 refine s_val ho hg rfl hk (fun w => ?_) h
 have ex : st.rho x = .int k a := by rw [St.rho, hx]; rfl
 have ey : st.rho y = .int k' s := by rw [St.rho, hy]; rfl
 simp [execOp, ex, ey, eqGuard, binOp, shift_shr_any k k' a s s0, hp]
/-- A store into a row that is the call's own (adopted), at any place. -/
theorem s_storeR {t : TypeId} {x y : Operand} {b off : Nat} {cs cs' : List Value} {v : Value} (q : Nat) (ho : ops[i]? = some ⟨none, .store t x y, ty, pos, aft, g⟩) (hg : gok ops st g = true) (hk : known st ⟨none, .store t x y, ty, pos, aft, g⟩ = true) (hx : st.ev x = .v (.pointer (some ⟨b, off, none⟩))) (hy : st.ev y = .v v) (hm : st.mem q = some (b, cs)) (hw : writeOf P t cs off v = some cs')
  (h : ∀ w', Stored b w w' → Var w b cs → vOrd P B lax ops Rs K rest (st.set q b cs') w') : vOrd P B lax ops Rs K (i :: rest) st w := by
 have ey : st.rho y = v := by rw [St.rho, hy]; rfl
 exact vOrd_op ho hg ⟨hk, rfl, q, b, off, cs, cs', by rw [St.rho, hx]; rfl, hm, by rw [ey]; exact hw, rfl, h⟩
end
section
variable {P : Program} {n : Nat} {hol : List Nat} {w0 w : World} {st : St} {K : Exit → St → World → Prop} {c : Code}
/-- A row that the call has laid is taken as a variable of its own. -/
theorem Wp.adopt (h : Nat) {b : Nat} {cs : List Value} (hv : Var w b cs) (hb : w0.heap.size ≤ b) (hm : st.mem h = none) (hne : ∀ g d ds, st.mem g = some (d, ds) → d ≠ b) (k : Wp P n hol w0 c (st.set h b cs) w K) : Wp P n hol w0 c st w K := by
 intro a H
 have key : ∀ g d ds, (st.set h b cs).mem g = some (d, ds) → (g = h ∧ d = b ∧ ds = cs) ∨ (g ≠ h ∧ st.mem g = some (d, ds)) := by
  intro g d ds e
  by_cases q : g = h
  ·subst q
   simp only [St.set, upd_same, Option.some.injEq, Prod.mk.injEq] at e
   exact .inl ⟨rfl, e.1.symm, e.2.symm⟩
  ·simp only [St.set, upd_ne _ _ q] at e
   exact .inr ⟨q, e⟩
 refine k a ⟨H.size, H.defers, H.env, fun g d ds e => ?_, fun g d ds e => ?_, fun g d ds g' d' ds' e e' hn => ?_, H.old⟩
 ·rcases key g d ds e with ⟨rfl, rfl, rfl⟩ | ⟨_, q⟩
  ·exact hv
  ·exact H.mem g d ds q
 ·rcases key g d ds e with ⟨rfl, rfl, rfl⟩ | ⟨_, q⟩
  ·exact .inl hb
  ·exact H.own g d ds q
 ·rcases key g d ds e with ⟨rfl, rfl, rfl⟩ | ⟨_, q⟩
  ·rcases key g' d' ds' e' with ⟨rfl, rfl, rfl⟩ | ⟨_, q'⟩
   ·exact absurd rfl hn
   ·exact fun z => hne g' d' ds' q' z.symm
  ·rcases key g' d' ds' e' with ⟨rfl, rfl, rfl⟩ | ⟨_, q'⟩
   ·exact hne g d ds q
   ·exact H.inj g d ds g' d' ds' q q' hn
/-- What lies in a variable of the call's own. -/
theorem Wp.var {h b : Nat} {cs : List Value} (hm : st.mem h = some (b, cs)) (k : Var w b cs → Wp P n hol w0 c st w K) : Wp P n hol w0 c st w K := fun a H => k (H.mem h b cs hm) a H
end
/-! ### Blocks of the call's own variables -/
def AllMem (p : Nat → Prop) (st : St) : Prop := ∀ h b cs, st.mem h = some (b, cs) → p b
theorem AllMem.put {p : Nat → Prop} {st : St} {d : Option Nat} {x : SV} (h : AllMem p st) : AllMem p (st.put d x) := fun g b cs e => h g b cs (by rw [put_mem] at e; exact e)
theorem AllMem.set {p : Nat → Prop} {st : St} {d b : Nat} {cs : List Value} (h : AllMem p st) (hb : p b) : AllMem p (st.set d b cs) := fun g c ds e => by
 by_cases q : g = d
 ·subst q; simp only [St.set, upd_same, Option.some.injEq, Prod.mk.injEq] at e; rw [← e.1]; exact hb
 ·simp only [St.set, upd_ne _ _ q] at e; exact h g c ds e
theorem AllMem.new {p : Nat → Prop} {st : St} {d b : Nat} {cs : List Value} (h : AllMem p st) (hb : p b) : AllMem p (st.new d b cs) := fun g c ds e => by
 by_cases q : g = d
 ·subst q; simp only [St.new, upd_same, Option.some.injEq, Prod.mk.injEq] at e; rw [← e.1]; exact hb
 ·simp only [St.new, upd_ne _ _ q] at e; exact h g c ds e
def AllL (p : Nat → Prop) : List (Nat × Nat × List Value) → Prop
 | [] => True
 | x :: l => p x.2.1 ∧ AllL p l
theorem AllL.mem {p : Nat → Prop} : ∀ {l : List (Nat × Nat × List Value)}, AllL p l → ∀ x ∈ l, p x.2.1
 | [], _, x, h => by cases h
 | y :: l, hl, x, h => by
  rcases List.mem_cons.1 h with rfl | h
  ·exact hl.1
  ·exact AllL.mem hl.2 x h
theorem AllMem.of {p : Nat → Prop} {env : List (Nat × SV)} {mem : List (Nat × Nat × List Value)} (h : AllL p mem) : AllMem p (St.of env mem) := fun g b cs e => h.mem (g, b, cs) (lookup_mem e)
theorem AllMem.args {p : Nat → Prop} {l : List Value} : AllMem p (St.args l) := fun _ _ _ e => by cases e

/-! ### Bytes that are handed in -/
def BytesAt (w : World) (v : Value) (l : List UInt8) : Prop :=
 (∃ b off c, v = .slice (some ⟨b, off, none⟩) l.length c ∧ l.length ≤ c ∧ ∀ j x, l[j]? = some x → w.cell? ⟨b, off + j, none⟩ = some (.int .u8 x.toNat)) ∨ (v = .slice none 0 0 ∧ l = [])
theorem BytesAt.later {w w' : World} {v : Value} {l : List UInt8} (h : BytesAt w v l) (k : Later w w') : BytesAt w' v l := by
 rcases h with ⟨b, off, c, h1, h3, h2⟩ | h
 ·exact .inl ⟨b, off, c, h1, h3, fun j x hj => (World.cell?_of_block (k.block b (World.block_lt_of_cell? w _ (h2 j x hj)))).trans (h2 j x hj)⟩
 ·exact .inr h
theorem BytesAt.slice {w : World} {v : Value} {l : List UInt8} (h : BytesAt w v l) : ∃ a c, v = .slice a l.length c := by
 rcases h with ⟨b, off, c, h1, _, _⟩ | ⟨h1, h2⟩
 ·exact ⟨_, _, h1⟩
 ·subst h2; exact ⟨_, _, h1⟩
section
variable {P : Program} {B : Nat} {lax : Bool} {ops : Array Oper} {Rs : Nat → Value → World → Prop} {K : St → World → Prop} {i : Nat} {rest : List Nat} {st : St} {w : World}
variable {d : Nat} {ty : TypeId} {pos : String} {aft : Array Edge} {g : Option (Nat × Bool)}
/-- A slice's beginning, its rest, a part of it. -/
theorem x_to {t e : TypeId} {x y : Operand} {b off n c sz : Nat} {k : IntKind} {j : Int} (ho : ops[i]? = some ⟨some d, .slice t x none (some y) none, ty, pos, aft, g⟩) (hg : gok ops st g = true) (hk : known st ⟨some d, .slice t x none (some y) none, ty, pos, aft, g⟩ = true) (hx : st.ev x = .v (.slice (some ⟨b, off, none⟩) n c)) (hy : st.ev y = .v (.int k j)) (hu : P.underlying t = some (.slice e)) (hs : (P.info? e).map (·.size) = some sz) (h0 : 0 ≤ j) (h1 : j ≤ c)
  (h : vOrd P B lax ops Rs K rest (st.put (some d) (.v (.slice (some ⟨b, off, none⟩) j.toNat c))) w) : vOrd P B lax ops Rs K (i :: rest) st w := by
 refine s_val ho hg rfl hk (fun w => ?_) h
 have ex : st.rho x = .slice (some ⟨b, off, none⟩) n c := by rw [St.rho, hx]; rfl
 have ey : st.rho y = .int k j := by rw [St.rho, hy]; rfl
 cases hp : P.info? e with
 | none => rw [hp] at hs; cases hs
 | some ii => simp [execOp, ex, ey, Instr.sliceAt, Instr.slice, Instr.sliceBounds, run_sliceBound w k j c _ h0 h1, run_underlying hu w, sizeOf, typeInfo, hp, addr_add]
theorem x_from {t e : TypeId} {x y : Operand} {b off n c sz : Nat} {k : IntKind} {j : Int} (ho : ops[i]? = some ⟨some d, .slice t x (some y) none none, ty, pos, aft, g⟩) (hg : gok ops st g = true) (hk : known st ⟨some d, .slice t x (some y) none none, ty, pos, aft, g⟩ = true) (hx : st.ev x = .v (.slice (some ⟨b, off, none⟩) n c)) (hy : st.ev y = .v (.int k j)) (hu : P.underlying t = some (.slice e)) (hs : (P.info? e).map (·.size) = some sz) (h0 : 0 ≤ j) (h1 : j ≤ n) (h2 : n ≤ c)
  (h : ∀ off', (j < n → off' = off + j.toNat * sz) → vOrd P B lax ops Rs K rest (st.put (some d) (.v (.slice (some ⟨b, off', none⟩) (n - j.toNat) (c - j.toNat)))) w) : vOrd P B lax ops Rs K (i :: rest) st w := by
 have ex : st.rho x = .slice (some ⟨b, off, none⟩) n c := by rw [St.rho, hx]; rfl
 have ey : st.rho y = .int k j := by rw [St.rho, hy]; rfl
 cases hp : P.info? e with
 | none => rw [hp] at hs; cases hs
 | some ii =>
  rw [hp] at hs
  simp only [Option.map_some, Option.some.injEq] at hs
  by_cases q : c = j.toNat
  ·refine s_val ho hg rfl hk (fun w => ?_) (h off (fun q' => by omega))
   simp [execOp, ex, ey, Instr.sliceAt, Instr.slice, Instr.sliceBounds, run_sliceBound w k j n _ h0 h1, run_underlying hu w, sizeOf, typeInfo, hp, q]
  ·refine s_val ho hg rfl hk (fun w => ?_) (h (off + j.toNat * sz) (fun _ => rfl))
   simp [execOp, ex, ey, Instr.sliceAt, Instr.slice, Instr.sliceBounds, run_sliceBound w k j n _ h0 h1, run_underlying hu w, sizeOf, typeInfo, hp, q, addr_add, hs]
end
end Go.Proofs.YthihioakjpmnbaaGreat

namespace Go.Proofs.YthihioakjpmnbaaGreat
open Go.RowKit

section
variable {P : Program} {B : Nat} {lax : Bool} {ops : Array Oper} {Rs : Nat → Value → World → Prop} {K : St → World → Prop} {i : Nat} {rest : List Nat} {st : St} {w : World}
variable {d : Nat} {ty : TypeId} {pos : String} {aft : Array Edge} {g : Option (Nat × Bool)}
/-- A function with what it holds. -/
theorem s_mkfun {f : FuncId} {xs : Array Operand} {l : List Value} (ho : ops[i]? = some ⟨some d, .makeFunc (.func f) #[] xs, ty, pos, aft, g⟩) (hg : gok ops st g = true) (hk : known st ⟨some d, .makeFunc (.func f) #[] xs, ty, pos, aft, g⟩ = true) (hx : evL st xs.toList = some l)
  (h : vOrd P B lax ops Rs K rest (st.put (some d) (.v (.func (.func f) #[] l.toArray))) w) : vOrd P B lax ops Rs K (i :: rest) st w := by
 refine s_val ho hg rfl hk (fun w => ?_) h
 simp only [execOp, Instr.makeFunc, evL_arr hx]
 simp
theorem run_callF {f : FuncId} {x : Operand} {caps : Array Value} {xs : Array Operand} {ts : Array TypeId} (hf : goFn P f = true) (hx : st.ev x = .v (.func (.func f) #[] caps)) (w : World) :
  (execOp st.rho ⟨some d, .call ⟨.value x, xs, ts⟩, ty, pos, aft, g⟩).run P w = .ok (.enter f (xs.map st.rho ++ caps)) w := by
 unfold goFn at hf
 cases hp : P.funcs[f]? with
 | none => simp [hp] at hf
 | some fn =>
  simp only [hp, Bool.and_eq_true, Bool.not_eq_true'] at hf
  have hb : fn.body ≠ none := by intro h; simp [h] at hf
  have hn : ¬ fn.name = "runtime.NumGoroutine" := by simpa using hf.1
  have e : st.rho x = .func (.func f) #[] caps := by rw [St.rho, hx]; rfl
  simp [execOp, resolve, invoke, e, Deferred.ofValue, callFunc, hp, hn, hb]
/-- A call of a function that is a value. -/
theorem s_callF {f : FuncId} {x : Operand} {caps : List Value} {xs : Array Operand} {ts : Array TypeId} {args : List Value} {R : Value → World → Prop} (ho : ops[i]? = some ⟨some d, .call ⟨.value x, xs, ts⟩, ty, pos, aft, g⟩) (hg : gok ops st g = true) (hk : known st ⟨some d, .call ⟨.value x, xs, ts⟩, ty, pos, aft, g⟩ = true) (hf : goFn P f = true) (hfv : st.ev x = .v (.func (.func f) #[] caps.toArray)) (hx : evL st xs.toList = some args)
  (hc : Calls P f (args ++ caps).toArray w fun e w' => ∃ v, e = .returned v ∧ R v w' ∧ Below w.heap.size w w') (h : ∀ v w', R v w' → Later w w' → vOrd P B true ops Rs K rest (st.put (some d) (.v v)) w') : vOrd P B true ops Rs K (i :: rest) st w := by
 refine ⟨_, ho, .inr ⟨rfl, hg, hk, rfl, .inl (fun _ => ⟨fun v w' => vOrd P B true ops Rs K rest (st.put (some d) (.v v)) w', ?_, fun v w1 q _ => q⟩)⟩⟩
 unfold RunsTo
 rw [run_callF hf hfv, evL_arr hx]
 have e : args.toArray ++ caps.toArray = (args ++ caps).toArray := by simp
 rw [e]
 exact Calls.mono hc (fun e w' ⟨v, h1, h2, h3⟩ => ⟨v, h1, h v w' h2 h3, h3⟩)
/-- A call of a method of a pointer to a variable of the call's own that turns, of what was there, that variable alone. -/
theorem s_callH {f : FuncId} {xs : Array Operand} {ts : Array TypeId} {args : List Value} {R : Value → List Value → World → Prop} {b : Nat} {cs : List Value} (h : Nat) (ho : ops[i]? = some ⟨some d, .call ⟨.value (.func f), xs, ts⟩, ty, pos, aft, g⟩) (hg : gok ops st g = true) (hk : known st ⟨some d, .call ⟨.value (.func f), xs, ts⟩, ty, pos, aft, g⟩ = true) (hf : goFn P f = true) (hx : evL st xs.toList = some args)
  (hm : st.mem h = some (b, cs)) (hc : Var w b cs → Calls P f args.toArray w fun e w' => ∃ v, e = .returned v ∧ (∃ cs', R v cs' w' ∧ Var w' b cs') ∧ w.grownBy w' (some b))
  (hK : ∀ v cs' w', R v cs' w' → w.grownBy w' (some b) → Var w' b cs' → vOrd P B true ops Rs K rest ((st.set h b cs').put (some d) (.v v)) w') : vOrd P B true ops Rs K (i :: rest) st w := by
 refine ⟨_, ho, .inr ⟨rfl, hg, hk, rfl, .inr (.inr (.inr (.inr (fun hmem => ⟨f, args.toArray, h, b, cs, ?_, hm, ?_⟩))))⟩⟩
 ·rw [run_call hf, evL_arr hx]
 ·exact Calls.mono (hc (hmem h b cs hm)) (fun e w' ⟨v, h1, ⟨cs', h2, h3⟩, h4⟩ => ⟨v, cs', h1, h4, h3, hK v cs' w' h2 h4 h3⟩)
end
/-! ### Regions with three orders -/
section
variable {P : Program} {n B : Nat} {hol : List Nat} {w0 w : World} {st : St} {md : Region.Mode} {ops : Array Oper} {Rs : Nat → Value → World → Prop}
end
end Go.Proofs.YthihioakjpmnbaaGreat
