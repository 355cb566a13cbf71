/-
 The small logic in a round of a range over a function, ahead of such a loop, and behind it. No conditions; no program is spoken of.
-/
import Derived.Test.YthihioakjpmnbaaGreatEntA
import Derived.Test.YthihioakjpmnbaaGreatVcM
import Derived.RangeFuncNested
import Derived.RangeFuncLeaves
import Derived.RangeFuncBound
import Derived.OrdersIn
import Derived.Scope
namespace Go.Proofs.YthihioakjpmnbaaGreat
open Go.RowKit
set_option maxRecDepth 100000

section
variable {P : Program} {n : Nat} {hol : List Nat} {w0 w : World} {st : St} {K : Exit → St → World → Prop} {c : Code}
theorem Wp.label {l : Nat} (h : K .normal st w) : Wp P n hol w0 (.label l) st w K := fun _ H => wp_label ⟨st, H, h⟩
@[reducible] def scopeK (K : Exit → St → World → Prop) : Exit → St → World → Prop
 | .goto _, _, _ => False
 | e, st, w => K e st w
theorem Wp.scope (h : Wp P n hol w0 c st w (scopeK K)) : Wp P n hol w0 (.scope c) st w K := fun a H =>
 wp_scope_straight (Code.wp_mono (fun e a' w' ⟨st', H', q⟩ => by
  cases e with
  | goto l => exact q.elim
  | _ => exact ⟨st', H', q⟩) (h a H))
end

/-! ### Operations in a round, and where calls are deferred -/
/-- A fence that keeps nothing out; in a round, or in none. -/
def fen (r : Option Nat) : Fence := { Fence.wide with round := r }
def und (ds : List Deferred) (a : Act) : Act := { a with defers := a.defers ++ ds }
theorem und_eval (ds : List Deferred) (a : Act) : (und ds a).eval = a.eval := funext fun x => by cases x <;> rfl
theorem und_put (ds : List Deferred) (a : Act) (d : Option Tmp) (v : Value) : (und ds a).put d v = und ds (a.put d v) := by cases d <;> rfl
def noDef (ops : Array Oper) : Bool := ops.toList.all fun o => match o.op with | .defer _ => false | _ => true
theorem noDef_spec {ops : Array Oper} (h : noDef ops = true) {i : Nat} {o : Oper} (ho : ops[i]? = some o) : ∀ c, o.op ≠ .defer c := fun c e => by
 have := List.all_eq_true.1 h o (by rw [← Array.getElem?_toList] at ho; exact List.mem_of_getElem? ho)
 rw [e] at this
 cases this
theorem calls_fen {r : Option Nat} {m : Nat} {P : Program} {f : FuncId} {args : Array Value} {w : World} {R : Ending → World → Prop} (h : Calls P f args w R) : CallsIn (fen r) m P f args w R :=
 ⟨trivial, fun cs _ => (callsIn_wide (n := m).2 h).2 cs (room_wide _)⟩
theorem rows_fen {r : Option Nat} {m : Nat} {P : Program} {row : String} {args : Array Value} {w : World} {R : Value → World → Prop} (h : Rows P row args w R) : RowsIn (fen r) m P row args w R := by
 intro c cs _
 obtain ⟨v, w', hR, hs⟩ := h c cs
 exact ⟨v, w', hR, stepsIn_wide.2 hs⟩
section
variable {r : Option Nat} {m : Nat} {P : Program} {ops : Array Oper} {Q : Exit → Act → World → Prop} {ds : List Deferred}
/-- What is left is what is left, with other deferred calls beneath. -/
def undQ (ds : List Deferred) (Q : Exit → Act → World → Prop) : Exit → Act → World → Prop := fun e a' w => ∃ a, a' = und ds a ∧ Q e a w
theorem oper_in {o : Oper} {a : Act} {w : World} {K K' : Act → World → Prop} (hd : ∀ c, o.op ≠ .defer c) (hK : ∀ a w, K a w → K' (und ds a) w) (h : o.wp P a w K Q) : o.wpIn (fen r) m P (und ds a) w K' (undQ ds Q) := by
 refine ⟨fun _ _ => trivial, ?_⟩
 rw [Oper.semAt_eq _ _ _ hd, und_eval]
 unfold Oper.wp at h
 generalize (execOp a.eval o).run P w = x at h ⊢
 cases x with
 | ok x w' =>
  cases x <;> simp only [Oper.upon, Oper.uponIn] at h ⊢
  case value v => rw [und_put]; exact hK _ _ h
  case skip => rw [und_put]; exact hK _ _ h
  case defer d =>
   have k := hK _ _ h
   rw [← und_put] at k
   exact k
  case enter f args =>
   refine ⟨fun e => (by cases e), calls_fen (Calls.mono h (fun e w'' he => ?_))⟩
   cases e with
   | returned v => simp only at he ⊢; rw [und_put]; exact hK _ _ he
   | panicked ch => exact ⟨_, rfl, he⟩
   | outgrown => obtain ⟨b, v, q⟩ := he; exact ⟨_, v, _, rfl, q⟩
  case row row args =>
   refine ⟨fun e => (by cases e), rows_fen (Rows.mono h (fun v w'' he => ?_))⟩
   rw [und_put]
   exact hK _ _ he
 | halt x w' =>
  cases x <;> simp only [Oper.upon, Oper.uponIn] at h ⊢
  exact ⟨_, rfl, h⟩
theorem ops_in (hd : noDef ops = true) (hQ : ¬ LetsOut Q) : ∀ (l : List Nat) (a : Act) (w : World), wpOps P ops Q l a w → wpOpsIn (fen r) m P ops (undQ ds Q) l (und ds a) w
 | [], a, w, h => ⟨a, rfl, h⟩
 | i :: l, a, w, h => by
  simp only [wpOps, wpOpsIn] at h ⊢
  cases ho : ops[i]? with
  | none => simp only [ho] at h ⊢; exact ops_in hd hQ l a w h
  | some o =>
   simp only [ho] at h ⊢
   have et : (und ds a).tmps = a.tmps := rfl
   rw [et]
   split at h
   ·rename_i hw
    rw [if_pos hw]
    rcases h with h | h
    ·exact oper_in (noDef_spec hd ho) (ops_in hd hQ l) h
    ·exact absurd h.2 hQ
   ·rename_i hw
    rw [if_neg hw, und_put]
    exact ⟨fun _ _ => trivial, ops_in hd hQ l _ w h⟩
theorem any_in {md : Region.Mode} (hd : noDef ops = true) (hQ : ¬ LetsOut Q) : ∀ (fuel : Nat) (listed : Array Bool) (a : Act) (w : World), wpAny P md ops Q fuel listed a w → wpAnyIn (fen r) m P md ops (undQ ds Q) fuel listed (und ds a) w
 | 0, listed, a, w, h => ⟨h.1, _, rfl, h.2⟩
 | fuel + 1, listed, a, w, h => by
  refine ⟨fun q => ⟨_, rfl, h.1 q⟩, fun i hi => ?_⟩
  have k := h.2 i hi
  unfold wpOp at k
  unfold wpOpIn
  cases ho : ops[i]? with
  | none => simp only [ho] at k ⊢; exact any_in hd hQ fuel _ a w k
  | some o =>
   simp only [ho] at k ⊢
   have et : (und ds a).tmps = a.tmps := rfl
   rw [et]
   split at k
   ·rename_i hw
    rw [if_pos hw]
    rcases k with k | k
    ·exact oper_in (noDef_spec hd ho) (any_in hd hQ fuel _) k
    ·exact absurd k.2 hQ
   ·rename_i hw
    rw [if_neg hw, und_put]
    exact ⟨fun _ _ => trivial, any_in hd hQ fuel _ _ w k⟩
end

/-! ### Code in a round -/
/-- As Wp, in a round (r), with calls deferred (ds). -/
def WpF (r : Option Nat) (ds : List Deferred) (P : Program) (n : Nat) (hol : List Nat) (w0 : World) (c : Code) (st : St) (w : World) (K : Exit → St → World → Prop) : Prop :=
 ∀ (m : Nat) (a : Act), Holds n hol w0 st a w → c.wpIn (fen r) m P (fun e a' w' => ∃ a'' st', a' = und ds a'' ∧ Holds n hol w0 st' a'' w' ∧ K e st' w') (und ds a) w
section
variable {r : Option Nat} {ds : List Deferred} {P : Program} {n : Nat} {hol : List Nat} {w0 w : World} {st st' : St} {K K' : Exit → St → World → Prop} {c x y : Code}
theorem WpF.le (h : WpF r ds P n hol w0 c st' w K) (l : st'.le st) : WpF r ds P n hol w0 c st w K := fun m a H => h m a (H.le l)
theorem WpF.mono (h : WpF r ds P n hol w0 c st w K) (hk : ∀ e st w, K e st w → K' e st w) : WpF r ds P n hol w0 c st w K' :=
 fun m a H => wpIn_mono (h m a H) (fun _ _ _ ⟨a'', st', e, H', q⟩ => ⟨a'', st', e, H', hk _ _ _ q⟩)
theorem WpF.seq (h : WpF r ds P n hol w0 x st w (thenK (fun st' w' => WpF r ds P n hol w0 y st' w' K) K)) : WpF r ds P n hol w0 (.seq x y) st w K := fun m a H =>
 wpIn_seq (wpIn_mono (h m a H) (fun e a' w' ⟨a'', st', q1, H', q⟩ => by
  cases e with
  | normal => subst q1; exact q m a'' H'
  | _ => exact ⟨a'', st', q1, H', q⟩))
theorem WpF.block {id : Nat} (h : WpF r ds P n hol w0 c st w (blockK id K)) : WpF r ds P n hol w0 (.block id c) st w K := fun m a H =>
 wpIn_block (wpIn_mono (h m a H) (fun e a' w' ⟨a'', st', q1, H', q⟩ => by
  cases e with
  | exit id' =>
   simp only [blockK] at q
   simp only [Exit.inBlock]
   split at q <;> rename_i hid <;> simp only [hid, if_true, if_false] <;> exact ⟨a'', st', q1, H', q⟩
  | _ => exact ⟨a'', st', q1, H', q⟩))
theorem WpF.cond {c : Operand} {t : Bool} (hc : st.ev c = .v (.bool t)) (hk : ∀ s, c = .tmp s → (st.env s).isSome = true)
  (h1 : t = true → WpF r ds P n hol w0 x st w K) (h2 : t = false → WpF r ds P n hol w0 y st w K) : WpF r ds P n hol w0 (.cond c x y) st w K := fun m a H =>
 wpIn_cond_split (t := t) (by rw [und_eval, H.eval hk, St.rho, hc]; rfl) (fun e => h1 e m a H) (fun e => h2 e m a H)
theorem WpF.condT {c : Operand} (hc : st.ev c = .v (.bool true)) (hk : okOpd st c = true) (h1 : WpF r ds P n hol w0 x st w K) : WpF r ds P n hol w0 (.cond c x y) st w K :=
 WpF.cond hc (okOpd_spec hk) (fun _ => h1) (fun e => by cases e)
theorem WpF.condF {c : Operand} (hc : st.ev c = .v (.bool false)) (hk : okOpd st c = true) (h1 : WpF r ds P n hol w0 y st w K) : WpF r ds P n hol w0 (.cond c x y) st w K :=
 WpF.cond hc (okOpd_spec hk) (fun e => by cases e) (fun _ => h1)
theorem WpF.skip (h : K .normal st w) : WpF r ds P n hol w0 .skip st w K := fun _ a H => wpIn_skip ⟨a, st, rfl, H, h⟩
theorem WpF.exit {id : Nat} (h : K (.exit id) st w) : WpF r ds P n hol w0 (.exit id) st w K := fun _ a H => wpIn_exit ⟨a, st, rfl, H, h⟩
theorem WpF.ret (h : K .ret st w) : WpF r ds P n hol w0 .ret st w K := fun _ a H => wpIn_ret ⟨a, st, rfl, H, h⟩
theorem lets_not {R : Act → World → Prop} : ¬ LetsOut (fun (e : Exit) a w => e = .normal ∧ R a w) := fun ⟨_, _, q⟩ => by cases q.1
def nrm (n : Nat) (hol : List Nat) (w0 : World) (J : St → World → Prop) : Exit → Act → World → Prop := fun e a w => e = .normal ∧ ∃ st', Holds n hol w0 st' a w ∧ J st' w
theorem nrm_not {J : St → World → Prop} : ¬ LetsOut (nrm n hol w0 J) := lets_not
theorem nrm_out (e : Exit) (a' : Act) (w' : World) (h : undQ ds (nrm n hol w0 (K .normal)) e a' w') : ∃ a'' st', a' = und ds a'' ∧ Holds n hol w0 st' a'' w' ∧ K e st' w' := by
 obtain ⟨a'', e1, e2, st', H', q⟩ := h
 subst e2
 exact ⟨a'', st', e1, H', q⟩
theorem WpF.region {id : Nat} {ops : Array Oper} (order : List Nat) (hd : dstsIn n ops = true) (ho : List.range ops.size = order) (h : vOrd P w0.heap.size true ops (fun _ _ _ => True) (K .normal) order st w) (hn : noDef ops = true := by kernel_rfl) : WpF r ds P n hol w0 (.region id ops false) st w K := fun m a H =>
 wpIn_mono (wpIn_region (by
  rw [ho]
  exact ops_in hn nrm_not _ _ _ (vOrd_sound (Q := nrm n hol w0 (K .normal)) hd (Nat.le_refl _) (fun st _ _ H' q => ⟨rfl, st, H', q⟩) _ _ _ _ H h))) nrm_out
theorem WpF.drawn {id : Nat} {ops : Array Oper} (hm : P.follows .mixedOrders = true) (hd : dstsIn n ops = true) (order Rm : List Nat) (hl : order.length = ops.size) (ho : okOrder .any ops (Array.replicate ops.size false) order Rm = true)
  (Rs : Nat → Value → World → Prop) (h : ∀ w', Later w w' → vOrd P w0.heap.size false ops Rs (K .normal) order st w') (hn : noDef ops = true := by kernel_rfl) : WpF r ds P n hol w0 (.region id ops true) st w K := fun m a H =>
 wpIn_mono (wpIn_region_any hm (by
  have l : Later w { w with drawn := w.drawn + 1 } := Below.drew (Below.refl _ _)
  have q := vAny_order order Rm _ _ _ (by simp) ho (h _ l)
  rw [hl] at q
  exact any_in hn nrm_not _ _ _ _ (vAny_sound (Q := nrm n hol w0 (K .normal)) hd (fun st _ _ H' q => ⟨rfl, st, H', q⟩) _ _ _ _ _ (H.later l) q))) nrm_out
theorem WpF.drawn2 {id : Nat} {ops : Array Oper} (hm : P.follows .mixedOrders = true) (hd : dstsIn n ops = true) (order Rm l1 m1 l2 m2 : List Nat) (hl : order.length + l1.length = ops.size) (ho : okOrder2 .any ops (Array.replicate ops.size false) order Rm l1 m1 l2 m2 = true)
  (Rs : Nat → Value → World → Prop) (h : ∀ w', Later w w' → vOrd P w0.heap.size false ops Rs (fun st w => vOrd P w0.heap.size false ops Rs (K .normal) l1 st w ∧ vOrd P w0.heap.size false ops Rs (K .normal) l2 st w) order st w') (hn : noDef ops = true := by kernel_rfl) : WpF r ds P n hol w0 (.region id ops true) st w K := fun m a H =>
 wpIn_mono (wpIn_region_any hm (by
  have l : Later w { w with drawn := w.drawn + 1 } := Below.drew (Below.refl _ _)
  have q := vAny_order2 order Rm _ _ _ (by simp) ho (h _ l)
  rw [hl] at q
  exact any_in hn nrm_not _ _ _ _ (vAny_sound (Q := nrm n hol w0 (K .normal)) hd (fun st _ _ H' q => ⟨rfl, st, H', q⟩) _ _ _ _ _ (H.later l) q))) nrm_out
theorem WpF.drawnX {id : Nat} {ops : Array Oper} (hm : P.follows .mixedOrders = true) (hd : dstsIn n ops = true) (hs : Region.noSelect ops = true) (E : List Nat) (m : Nat) (L : Array Bool) (hl : E.length + m = ops.size) (ho : okE .any ops (Array.replicate ops.size false) E = true) (hL : toEnd (Array.replicate ops.size false) E = L)
  (h : ∀ w', Later w w' → vOrd P w0.heap.size false ops (fun _ _ _ => True) (vTree P .any w0.heap.size ops (fun _ _ _ => True) (K .normal) m L) E st w') (hn : noDef ops = true := by kernel_rfl) : WpF r ds P n hol w0 (.region id ops true) st w K := fun m' a H =>
 wpIn_mono (wpIn_region_any hm (by
  have l : Later w { w with drawn := w.drawn + 1 } := Below.drew (Below.refl _ _)
  subst hL
  have q := vE_sound hd hs (Q := nrm n hol w0 (K .normal)) (fun c a w q => by cases q.1) E _ _ _ _ (H.later l) ho (h _ l) (fun st a w H' q => vTree_sound hd (Nat.le_refl _) (fun st a w H q => ⟨rfl, st, H, q⟩) _ _ _ _ _ H' q)
  rw [hl] at q
  exact any_in hn nrm_not _ _ _ _ q)) nrm_out
theorem WpF.old (h : Grown w0 w hol → WpF r ds P n hol w0 c st w K) : WpF r ds P n hol w0 c st w K := fun m a H => h H.old m a H
theorem WpF.var {h b : Nat} {cs : List Value} (hm : st.mem h = some (b, cs)) (k : Var w b cs → WpF r ds P n hol w0 c st w K) : WpF r ds P n hol w0 c st w K := fun m a H => k (H.mem h b cs hm) m a H
/-- A walk that ends normally alone goes on with whatever code is behind. -/
theorem WpF.out {Q : Exit → Act → World → Prop} {m : Nat} {a : Act} (h : WpF r ds P n hol w0 c st w K) (H : Holds n hol w0 st a w) (hQ : ∀ e a st' w', Holds n hol w0 st' a w' → K e st' w' → Q e (und ds a) w') : c.wpIn (fen r) m P Q (und ds a) w :=
 wpIn_mono (h m a H) (fun e a' w' ⟨a'', st', e1, H', q⟩ => by subst e1; exact hQ e a'' st' w' H' q)
end

/-! ### Code ahead of the loop -/
/-- What is left is said of the machine. -/
def WpQ (P : Program) (n : Nat) (hol : List Nat) (w0 : World) (c : Code) (st : St) (w : World) (Q : Exit → Act → World → Prop) : Prop := ∀ a, Holds n hol w0 st a w → c.wp P Q a w
section
variable {P : Program} {n : Nat} {hol : List Nat} {w0 w : World} {st st' : St} {Q : Exit → Act → World → Prop} {c x y z : Code}
theorem WpQ.seq (h : Wp P n hol w0 x st w (thenK (fun st' w' => WpQ P n hol w0 y st' w' Q) (fun _ _ _ => False))) : WpQ P n hol w0 (.seq x y) st w Q := fun a H =>
 wp_seq (Code.wp_mono (fun e a' w' ⟨st', H', q⟩ => by
  cases e with
  | normal => exact q a' H'
  | _ => exact q.elim) (h a H))
theorem WpQ.nest (h : WpQ P n hol w0 (.seq x y) st w (Exit.then (fun a w => z.wp P Q a w) Q)) : WpQ P n hol w0 (.seq (.seq x y) z) st w Q := fun a H => wp_seq (h a H)
theorem WpQ.le (h : WpQ P n hol w0 c st' w Q) (l : st'.le st) : WpQ P n hol w0 c st w Q := fun a H => h a (H.le l)
theorem WpQ.block {id : Nat} (h : WpQ P n hol w0 c st w (Exit.inBlock id Q)) : WpQ P n hol w0 (.block id c) st w Q := fun a H => wp_block (h a H)
theorem WpQ.old (h : Later w0 w → WpQ P n (holO none) w0 c st w Q) : WpQ P n (holO none) w0 c st w Q := fun a H => h H.old.later a H
theorem WpQ.var {h b : Nat} {cs : List Value} (hm : st.mem h = some (b, cs)) (k : Var w b cs → WpQ P n hol w0 c st w Q) : WpQ P n hol w0 c st w Q := fun a H => k (H.mem h b cs hm) a H
end
/-- A function that has a range over a function in it. -/
theorem calls_WpQ {P : Program} {n : Nat} {fn : Func} {w : World} {f : FuncId} {c : Code} {args : List Value} {R : Ending → World → Prop} (hf : P.funcs[f]? = some fn) (hb : fn.body = some c) (hn : fn.ntmps = n) (ha : args.length ≤ n) (m : Nat)
  (h : WpQ P n (holO none) w c (St.args args) w (bodyPostM Fence.wide m P fn R)) : Calls P f args.toArray w R := by
 have H0 : Holds n (holO none) w (St.args args) { tmps := args.toArray ++ Array.replicate (fn.ntmps - args.toArray.size) undef, defers := [] } w := by
  refine ⟨by simp [hn]; omega, rfl, fun s x hs => ?_, fun h b cs e => (by cases e), fun h b cs e => (by cases e), fun h b cs h' b' cs' e => (by cases e), Grown.of_later (Later.refl w) _⟩
  simp only [St.args, Option.map_eq_some_iff] at hs
  obtain ⟨y, hy, rfl⟩ := hs
  have hlt := (List.getElem?_eq_some_iff.1 hy).1
  simp [Array.getElem?_append, hlt, SV.val, (List.getElem?_eq_some_iff.1 hy).2]
 exact callsIn_wide.1 (callsIn_of_wp_marks (n := m) hf hb trivial (wpIn_wide.2 (h _ H0)))
/-- A frame of variables that are the caller's, at a round's beginning. -/
theorem Holds.make {n : Nat} {hol : List Nat} {W : World} {a : Act} {env : List (Nat × SV)} {mem : List (Nat × Nat × List Value)} (hs : a.tmps.size = n) (hd : a.defers = []) (he : ∀ p ∈ env, a.tmps[p.1]? = some p.2.val)
  (hm : ∀ p ∈ mem, isH p.1 = true ∧ p.2.1 ∈ hol ∧ Var W p.2.1 p.2.2) (hi : mem.Pairwise (fun p q => p.2.1 ≠ q.2.1)) : Holds n hol W (St.of env mem) a W := by
 refine ⟨hs, hd, fun s x e => he (s, x) (lookup_mem e), fun h b cs e => (hm (h, b, cs) (lookup_mem e)).2.2, fun h b cs e => .inr ⟨(hm (h, b, cs) (lookup_mem e)).1, (hm (h, b, cs) (lookup_mem e)).2.1⟩, fun h b cs h' b' cs' e e' hne => ?_, Grown.of_later (Later.refl W) _⟩
 have q1 := lookup_mem e
 have q2 := lookup_mem e'
 clear hm he hs hd e e'
 induction mem with
 | nil => cases q1
 | cons p mem ih =>
  rw [List.pairwise_cons] at hi
  rcases List.mem_cons.1 q1 with g | g
  ·rcases List.mem_cons.1 q2 with g' | g'
   ·rw [← g] at g'; cases g'; exact absurd rfl hne
   ·subst g; exact hi.1 _ g'
  ·rcases List.mem_cons.1 q2 with g' | g'
   ·subst g'; exact fun q => hi.1 _ g q.symm
   ·exact ih hi.2 g g'
/-- What the body of a loop keeps: all that lay ahead of the loop, but for some blocks. -/
def KeepsBut (D : Nat) (bs : List Nat) (W W' : World) : Prop := W.heap.size ≤ W'.heap.size ∧ ∀ k, k < D → k ∉ bs → k < W.heap.size → W'.heap[k]? = W.heap[k]?
theorem KeepsBut.trans {D : Nat} {bs : List Nat} {A B C : World} (h : KeepsBut D bs A B) (k : KeepsBut D bs B C) : KeepsBut D bs A C :=
 ⟨Nat.le_trans h.1 k.1, fun i hi hb hs => (k.2 i hi hb (Nat.lt_of_lt_of_le hs h.1)).trans (h.2 i hi hb hs)⟩
theorem KeepsBut.obj {D : Nat} {bs : List Nat} (W : World) (l : Nat) (o' : Obj) (h : D ≤ l) : KeepsBut D bs W (W.putObj l o') :=
 ⟨by simp, fun k hk _ _ => World.putObj_heap_other (by omega)⟩
theorem KeepsBut.cell {D : Nat} {bs : List Nat} {W W' : World} (h : KeepsBut D bs W W') {p : Addr} {v : Value} (hp : p.block < D) (hb : p.block ∉ bs) (hc : W.cell? p = some v) : W'.cell? p = some v :=
 (World.cell?_of_block (h.2 p.block hp hb (World.block_lt_of_cell? _ _ hc))).trans hc
theorem Grown.keeps {W W' : World} {hol bs : List Nat} (D : Nat) (h : Grown W W' hol) (hs : ∀ k ∈ hol, k < D → k ∈ bs) : KeepsBut D bs W W' :=
 ⟨h.size, fun k hk hb hw => h.block k hw (fun q => hb (hs k q hk))⟩
theorem Grown.from {W W' : World} {hol : List Nat} (D : Nat) (h : Grown W W' hol) (hs : ∀ k ∈ hol, ∃ cs, Var W k cs) : KeepsFrom D W W' :=
 ⟨h.size, fun k o _ hk ho => (h.block k (Array.getElem?_eq_some_iff.1 hk).1 (fun q => by
  obtain ⟨cs, t, e⟩ := hs k q
  rw [hk] at e
  cases e
  cases ho)).trans hk⟩
theorem Var.other {W W' : World} {row : Option Nat} {b : Nat} {cs : List Value} (h : Var W b cs) (hg : W.grownBy W' row) (hr : ∀ r, row = some r → ∃ o : Obj, W.heap[r]? = some o ∧ o.isCells = false) : Var W' b cs := by
 have hlt := h.lt
 obtain ⟨t, ht⟩ := h
 exact ⟨t, (hg.block b hlt (fun q => by
  obtain ⟨o, h1, h2⟩ := hr b q.symm
  rw [ht] at h1
  cases h1
  cases h2)).trans ht⟩
theorem Grown.other {A W W' : World} {row : Option Nat} {bs : List Nat} (h : Grown A W bs) (hg : W.grownBy W' row) (hr : ∀ r, row = some r → A.heap.size ≤ r) : Grown A W' bs :=
 ⟨hg.os.trans h.os, hg.tape.trans h.tape, hg.output.trans h.output, Nat.le_trans h.size hg.size, fun k hk hb => (hg.block k (Nat.lt_of_lt_of_le hk h.size) (fun q => by have := hr k q.symm; omega)).trans (h.block k hk hb)⟩
theorem und_nil {a : Act} (h : a.defers = []) : und [] a = a := by
 obtain ⟨t, d⟩ := a
 cases h
 rfl
theorem und_one {a : Act} (h : a.defers = []) (x : Deferred) : ({ a with defers := x :: a.defers } : Act) = und [x] a := by
 obtain ⟨t, d⟩ := a
 cases h
 rfl
theorem Grown.below {A B : World} {hol : List Nat} {m : Nat} (h : Grown A B hol) (hm : m ≤ A.heap.size) (hb : ∀ k ∈ hol, m ≤ k) : Below m A B :=
 ⟨h.os, h.tape, h.output, h.size, fun k hk => h.block k (by omega) (fun q => by have := hb k q; omega)⟩
theorem Grown.var {A B : World} {hol : List Nat} {b : Nat} {cs : List Value} (h : Grown A B hol) (v : Var A b cs) (hb : b ∉ hol) : Var B b cs := by
 have hl := v.lt
 obtain ⟨t, ht⟩ := v
 exact ⟨t, (h.block b hl hb).trans ht⟩
theorem Grown.join {A B C : World} {hol hol' : List Nat} (h : Grown A B hol) (k : Grown B C hol') (hs : ∀ b ∈ hol', b < A.heap.size → b ∈ hol) : Grown A C hol :=
 ⟨k.os.trans h.os, k.tape.trans h.tape, k.output.trans h.output, Nat.le_trans h.size k.size, fun i hi hb => (k.block i (Nat.lt_of_lt_of_le hi h.size) (fun q => hb (hs i q hi))).trans (h.block i hi hb)⟩
/-- Behind the loop, at the function's return: the mark is taken over. -/
theorem leave_mark {P : Program} {m : Nat} {fn : Func} {R : Ending → World → Prop} {n : Nat} {hol : List Nat} {w0 W : World} {st : St} {a : Act} {D : Nat} (H : Holds n hol w0 st a W) (hD : W.heap[D]? = some (.deferred (some []))) {v : Value} (hr : Resd P st fn.results.toList v) (hR : R (.returned v) (W.putObj D (.deferred none))) :
  bodyPostM Fence.wide m P fn R .ret (und [{ target := .collected D, args := #[] }] a) W := by
 have hg := grownBy_putObj' W D (.deferred none)
 have hn : ∀ r, some D = some r → ∃ o : Obj, W.heap[r]? = some o ∧ o.isCells = false := fun r e => by cases e; exact ⟨_, hD, rfl⟩
 have H2 : Holds n hol (upTo (W.putObj D (.deferred none)) 0) st a (W.putObj D (.deferred none)) := ⟨H.size, H.defers, H.env, fun h b cs e => (H.mem h b cs e).other hg hn, fun h b cs e => .inl (by rw [upTo_size (Nat.zero_le _)]; exact Nat.zero_le _), H.inj, Grown.of_later (upTo_later (Nat.zero_le _)) _⟩
 show LeavesInM _ _ _ _ a.tmps R (a.defers ++ [_]) .returning W
 rw [H.defers]
 exact ⟨by simp, .inl ⟨D, _, rfl, run_takeDeferred hD, v, resd_run H2 hr, hR⟩⟩
end Go.Proofs.YthihioakjpmnbaaGreat
