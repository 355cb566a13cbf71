/-
 The small logic: steps that part the ways at a comparison; sums, differences and products that stay in range; quotients; conversions; strings as lists of bytes. No conditions.
-/
import Derived.Test.YthihioakjpmnbaaGreatVc
import Derived.Laws.BytesString
namespace Go.Proofs.YthihioakjpmnbaaGreat
open Go.RowKit

theorem wrap_in (k : IntKind) {n : Int} (h0 : k.min ≤ n) (h1 : n ≤ k.max) : k.wrap n = n := by
 cases k <;> simp [IntKind.min, IntKind.max, IntKind.bits, IntKind.signed] at h0 h1 <;> simp [IntKind.wrap, IntKind.bits, IntKind.signed] <;> omega
section
variable {P : Program} {B : Nat} {lax : Bool} {ops : Array Oper} {Rs : Nat → Value → World → Prop} {K : St → World → Prop} {i : Nat} {rest : List Nat} {st : St} {w : World}
variable {d : Nat} {ty : TypeId} {pos : String} {aft : Array Edge} {g : Option (Nat × Bool)}
theorem t_lss {xt yt : TypeId} {x y : Operand} {k : IntKind} {m l : Int} (ho : ops[i]? = some ⟨some d, .binOp .lss xt x y yt, ty, pos, aft, g⟩) (hg : gok ops st g = true) (hk : known st ⟨some d, .binOp .lss xt x y yt, ty, pos, aft, g⟩ = true) (hx : st.ev x = .v (.int k m)) (hy : st.ev y = .v (.int k l)) (hc : m < l) (h : vOrd P B lax ops Rs K rest (st.put (some d) (.v (.bool true))) w) : vOrd P B lax ops Rs K (i :: rest) st w :=
 s_cmp ho hg hk hx hy (by simp [cmpB]; omega) h
theorem f_lss {xt yt : TypeId} {x y : Operand} {k : IntKind} {m l : Int} (ho : ops[i]? = some ⟨some d, .binOp .lss xt x y yt, ty, pos, aft, g⟩) (hg : gok ops st g = true) (hk : known st ⟨some d, .binOp .lss xt x y yt, ty, pos, aft, g⟩ = true) (hx : st.ev x = .v (.int k m)) (hy : st.ev y = .v (.int k l)) (hc : l ≤ m) (h : vOrd P B lax ops Rs K rest (st.put (some d) (.v (.bool false))) w) : vOrd P B lax ops Rs K (i :: rest) st w :=
 s_cmp ho hg hk hx hy (by simp [cmpB]; omega) h
theorem p_lss {xt yt : TypeId} {x y : Operand} {k : IntKind} {m l : Int} (ho : ops[i]? = some ⟨some d, .binOp .lss xt x y yt, ty, pos, aft, g⟩) (hg : gok ops st g = true) (hk : known st ⟨some d, .binOp .lss xt x y yt, ty, pos, aft, g⟩ = true) (hx : st.ev x = .v (.int k m)) (hy : st.ev y = .v (.int k l)) (h1 : m < l → vOrd P B lax ops Rs K rest (st.put (some d) (.v (.bool true))) w) (h2 : l ≤ m → vOrd P B lax ops Rs K rest (st.put (some d) (.v (.bool false))) w) : vOrd P B lax ops Rs K (i :: rest) st w := by
 by_cases c : m < l
 ·exact t_lss ho hg hk hx hy c (h1 c)
 ·exact f_lss ho hg hk hx hy (by omega) (h2 (by omega))
theorem t_leq {xt yt : TypeId} {x y : Operand} {k : IntKind} {m l : Int} (ho : ops[i]? = some ⟨some d, .binOp .leq xt x y yt, ty, pos, aft, g⟩) (hg : gok ops st g = true) (hk : known st ⟨some d, .binOp .leq xt x y yt, ty, pos, aft, g⟩ = true) (hx : st.ev x = .v (.int k m)) (hy : st.ev y = .v (.int k l)) (hc : m ≤ l) (h : vOrd P B lax ops Rs K rest (st.put (some d) (.v (.bool true))) w) : vOrd P B lax ops Rs K (i :: rest) st w :=
 s_cmp ho hg hk hx hy (by simp [cmpB]; omega) h
theorem f_leq {xt yt : TypeId} {x y : Operand} {k : IntKind} {m l : Int} (ho : ops[i]? = some ⟨some d, .binOp .leq xt x y yt, ty, pos, aft, g⟩) (hg : gok ops st g = true) (hk : known st ⟨some d, .binOp .leq xt x y yt, ty, pos, aft, g⟩ = true) (hx : st.ev x = .v (.int k m)) (hy : st.ev y = .v (.int k l)) (hc : l < m) (h : vOrd P B lax ops Rs K rest (st.put (some d) (.v (.bool false))) w) : vOrd P B lax ops Rs K (i :: rest) st w :=
 s_cmp ho hg hk hx hy (by simp [cmpB]; omega) h
theorem p_leq {xt yt : TypeId} {x y : Operand} {k : IntKind} {m l : Int} (ho : ops[i]? = some ⟨some d, .binOp .leq xt x y yt, ty, pos, aft, g⟩) (hg : gok ops st g = true) (hk : known st ⟨some d, .binOp .leq xt x y yt, ty, pos, aft, g⟩ = true) (hx : st.ev x = .v (.int k m)) (hy : st.ev y = .v (.int k l)) (h1 : m ≤ l → vOrd P B lax ops Rs K rest (st.put (some d) (.v (.bool true))) w) (h2 : l < m → vOrd P B lax ops Rs K rest (st.put (some d) (.v (.bool false))) w) : vOrd P B lax ops Rs K (i :: rest) st w := by
 by_cases c : m ≤ l
 ·exact t_leq ho hg hk hx hy c (h1 c)
 ·exact f_leq ho hg hk hx hy (by omega) (h2 (by omega))
theorem t_gtr {xt yt : TypeId} {x y : Operand} {k : IntKind} {m l : Int} (ho : ops[i]? = some ⟨some d, .binOp .gtr xt x y yt, ty, pos, aft, g⟩) (hg : gok ops st g = true) (hk : known st ⟨some d, .binOp .gtr xt x y yt, ty, pos, aft, g⟩ = true) (hx : st.ev x = .v (.int k m)) (hy : st.ev y = .v (.int k l)) (hc : l < m) (h : vOrd P B lax ops Rs K rest (st.put (some d) (.v (.bool true))) w) : vOrd P B lax ops Rs K (i :: rest) st w :=
 s_cmp ho hg hk hx hy (by simp [cmpB]; omega) h
theorem f_gtr {xt yt : TypeId} {x y : Operand} {k : IntKind} {m l : Int} (ho : ops[i]? = some ⟨some d, .binOp .gtr xt x y yt, ty, pos, aft, g⟩) (hg : gok ops st g = true) (hk : known st ⟨some d, .binOp .gtr xt x y yt, ty, pos, aft, g⟩ = true) (hx : st.ev x = .v (.int k m)) (hy : st.ev y = .v (.int k l)) (hc : m ≤ l) (h : vOrd P B lax ops Rs K rest (st.put (some d) (.v (.bool false))) w) : vOrd P B lax ops Rs K (i :: rest) st w :=
 s_cmp ho hg hk hx hy (by simp [cmpB]; omega) h
theorem p_gtr {xt yt : TypeId} {x y : Operand} {k : IntKind} {m l : Int} (ho : ops[i]? = some ⟨some d, .binOp .gtr xt x y yt, ty, pos, aft, g⟩) (hg : gok ops st g = true) (hk : known st ⟨some d, .binOp .gtr xt x y yt, ty, pos, aft, g⟩ = true) (hx : st.ev x = .v (.int k m)) (hy : st.ev y = .v (.int k l)) (h1 : l < m → vOrd P B lax ops Rs K rest (st.put (some d) (.v (.bool true))) w) (h2 : m ≤ l → vOrd P B lax ops Rs K rest (st.put (some d) (.v (.bool false))) w) : vOrd P B lax ops Rs K (i :: rest) st w := by
 by_cases c : l < m
 ·exact t_gtr ho hg hk hx hy c (h1 c)
 ·exact f_gtr ho hg hk hx hy (by omega) (h2 (by omega))
theorem t_geq {xt yt : TypeId} {x y : Operand} {k : IntKind} {m l : Int} (ho : ops[i]? = some ⟨some d, .binOp .geq xt x y yt, ty, pos, aft, g⟩) (hg : gok ops st g = true) (hk : known st ⟨some d, .binOp .geq xt x y yt, ty, pos, aft, g⟩ = true) (hx : st.ev x = .v (.int k m)) (hy : st.ev y = .v (.int k l)) (hc : l ≤ m) (h : vOrd P B lax ops Rs K rest (st.put (some d) (.v (.bool true))) w) : vOrd P B lax ops Rs K (i :: rest) st w :=
 s_cmp ho hg hk hx hy (by simp [cmpB]; omega) h
theorem f_geq {xt yt : TypeId} {x y : Operand} {k : IntKind} {m l : Int} (ho : ops[i]? = some ⟨some d, .binOp .geq xt x y yt, ty, pos, aft, g⟩) (hg : gok ops st g = true) (hk : known st ⟨some d, .binOp .geq xt x y yt, ty, pos, aft, g⟩ = true) (hx : st.ev x = .v (.int k m)) (hy : st.ev y = .v (.int k l)) (hc : m < l) (h : vOrd P B lax ops Rs K rest (st.put (some d) (.v (.bool false))) w) : vOrd P B lax ops Rs K (i :: rest) st w :=
 s_cmp ho hg hk hx hy (by simp [cmpB]; omega) h
theorem p_geq {xt yt : TypeId} {x y : Operand} {k : IntKind} {m l : Int} (ho : ops[i]? = some ⟨some d, .binOp .geq xt x y yt, ty, pos, aft, g⟩) (hg : gok ops st g = true) (hk : known st ⟨some d, .binOp .geq xt x y yt, ty, pos, aft, g⟩ = true) (hx : st.ev x = .v (.int k m)) (hy : st.ev y = .v (.int k l)) (h1 : l ≤ m → vOrd P B lax ops Rs K rest (st.put (some d) (.v (.bool true))) w) (h2 : m < l → vOrd P B lax ops Rs K rest (st.put (some d) (.v (.bool false))) w) : vOrd P B lax ops Rs K (i :: rest) st w := by
 by_cases c : l ≤ m
 ·exact t_geq ho hg hk hx hy c (h1 c)
 ·exact f_geq ho hg hk hx hy (by omega) (h2 (by omega))
theorem t_eql {xt yt : TypeId} {x y : Operand} {k : IntKind} {m l : Int} (ho : ops[i]? = some ⟨some d, .binOp .eql xt x y yt, ty, pos, aft, g⟩) (hg : gok ops st g = true) (hk : known st ⟨some d, .binOp .eql xt x y yt, ty, pos, aft, g⟩ = true) (hx : st.ev x = .v (.int k m)) (hy : st.ev y = .v (.int k l)) (hc : m = l) (h : vOrd P B lax ops Rs K rest (st.put (some d) (.v (.bool true))) w) : vOrd P B lax ops Rs K (i :: rest) st w :=
 s_cmp ho hg hk hx hy (by simp [cmpB]; omega) h
theorem f_eql {xt yt : TypeId} {x y : Operand} {k : IntKind} {m l : Int} (ho : ops[i]? = some ⟨some d, .binOp .eql xt x y yt, ty, pos, aft, g⟩) (hg : gok ops st g = true) (hk : known st ⟨some d, .binOp .eql xt x y yt, ty, pos, aft, g⟩ = true) (hx : st.ev x = .v (.int k m)) (hy : st.ev y = .v (.int k l)) (hc : m ≠ l) (h : vOrd P B lax ops Rs K rest (st.put (some d) (.v (.bool false))) w) : vOrd P B lax ops Rs K (i :: rest) st w :=
 s_cmp ho hg hk hx hy (by simp [cmpB]; omega) h
theorem p_eql {xt yt : TypeId} {x y : Operand} {k : IntKind} {m l : Int} (ho : ops[i]? = some ⟨some d, .binOp .eql xt x y yt, ty, pos, aft, g⟩) (hg : gok ops st g = true) (hk : known st ⟨some d, .binOp .eql xt x y yt, ty, pos, aft, g⟩ = true) (hx : st.ev x = .v (.int k m)) (hy : st.ev y = .v (.int k l)) (h1 : m = l → vOrd P B lax ops Rs K rest (st.put (some d) (.v (.bool true))) w) (h2 : m ≠ l → vOrd P B lax ops Rs K rest (st.put (some d) (.v (.bool false))) w) : vOrd P B lax ops Rs K (i :: rest) st w := by
 by_cases c : m = l
 ·exact t_eql ho hg hk hx hy c (h1 c)
 ·exact f_eql ho hg hk hx hy (by omega) (h2 (by omega))
theorem t_neq {xt yt : TypeId} {x y : Operand} {k : IntKind} {m l : Int} (ho : ops[i]? = some ⟨some d, .binOp .neq xt x y yt, ty, pos, aft, g⟩) (hg : gok ops st g = true) (hk : known st ⟨some d, .binOp .neq xt x y yt, ty, pos, aft, g⟩ = true) (hx : st.ev x = .v (.int k m)) (hy : st.ev y = .v (.int k l)) (hc : m ≠ l) (h : vOrd P B lax ops Rs K rest (st.put (some d) (.v (.bool true))) w) : vOrd P B lax ops Rs K (i :: rest) st w :=
 s_cmp ho hg hk hx hy (by simp [cmpB]; omega) h
theorem f_neq {xt yt : TypeId} {x y : Operand} {k : IntKind} {m l : Int} (ho : ops[i]? = some ⟨some d, .binOp .neq xt x y yt, ty, pos, aft, g⟩) (hg : gok ops st g = true) (hk : known st ⟨some d, .binOp .neq xt x y yt, ty, pos, aft, g⟩ = true) (hx : st.ev x = .v (.int k m)) (hy : st.ev y = .v (.int k l)) (hc : m = l) (h : vOrd P B lax ops Rs K rest (st.put (some d) (.v (.bool false))) w) : vOrd P B lax ops Rs K (i :: rest) st w :=
 s_cmp ho hg hk hx hy (by simp [cmpB]; omega) h
theorem p_neq {xt yt : TypeId} {x y : Operand} {k : IntKind} {m l : Int} (ho : ops[i]? = some ⟨some d, .binOp .neq xt x y yt, ty, pos, aft, g⟩) (hg : gok ops st g = true) (hk : known st ⟨some d, .binOp .neq xt x y yt, ty, pos, aft, g⟩ = true) (hx : st.ev x = .v (.int k m)) (hy : st.ev y = .v (.int k l)) (h1 : m ≠ l → vOrd P B lax ops Rs K rest (st.put (some d) (.v (.bool true))) w) (h2 : m = l → vOrd P B lax ops Rs K rest (st.put (some d) (.v (.bool false))) w) : vOrd P B lax ops Rs K (i :: rest) st w := by
 by_cases c : m ≠ l
 ·exact t_neq ho hg hk hx hy c (h1 c)
 ·exact f_neq ho hg hk hx hy (by omega) (h2 (by omega))
theorem a_add {xt yt : TypeId} {x y : Operand} {k : IntKind} {m l : Int} (lo hi : Int) (hr : k.min = lo ∧ k.max = hi) (ho : ops[i]? = some ⟨some d, .binOp .add xt x y yt, ty, pos, aft, g⟩) (hg : gok ops st g = true) (hk : known st ⟨some d, .binOp .add xt x y yt, ty, pos, aft, g⟩ = true) (hx : st.ev x = .v (.int k m)) (hy : st.ev y = .v (.int k l)) (h0 : lo ≤ m + l) (h1 : m + l ≤ hi) (h : vOrd P B lax ops Rs K rest (st.put (some d) (.v (.int k (m + l)))) w) : vOrd P B lax ops Rs K (i :: rest) st w :=
 s_arith ho hg hk hx hy (by simp only [arithB]; rw [wrap_in k (by omega) (by omega)]) h
theorem a_sub {xt yt : TypeId} {x y : Operand} {k : IntKind} {m l : Int} (lo hi : Int) (hr : k.min = lo ∧ k.max = hi) (ho : ops[i]? = some ⟨some d, .binOp .sub xt x y yt, ty, pos, aft, g⟩) (hg : gok ops st g = true) (hk : known st ⟨some d, .binOp .sub xt x y yt, ty, pos, aft, g⟩ = true) (hx : st.ev x = .v (.int k m)) (hy : st.ev y = .v (.int k l)) (h0 : lo ≤ m - l) (h1 : m - l ≤ hi) (h : vOrd P B lax ops Rs K rest (st.put (some d) (.v (.int k (m - l)))) w) : vOrd P B lax ops Rs K (i :: rest) st w :=
 s_arith ho hg hk hx hy (by simp only [arithB]; rw [wrap_in k (by omega) (by omega)]) h
theorem a_mul {xt yt : TypeId} {x y : Operand} {k : IntKind} {m l : Int} (lo hi : Int) (hr : k.min = lo ∧ k.max = hi) (ho : ops[i]? = some ⟨some d, .binOp .mul xt x y yt, ty, pos, aft, g⟩) (hg : gok ops st g = true) (hk : known st ⟨some d, .binOp .mul xt x y yt, ty, pos, aft, g⟩ = true) (hx : st.ev x = .v (.int k m)) (hy : st.ev y = .v (.int k l)) (h0 : lo ≤ m * l) (h1 : m * l ≤ hi) (h : vOrd P B lax ops Rs K rest (st.put (some d) (.v (.int k (m * l)))) w) : vOrd P B lax ops Rs K (i :: rest) st w :=
 s_arith ho hg hk hx hy (by simp only [arithB]; rw [wrap_in k (by omega) (by omega)]) h
theorem a_quo {xt yt : TypeId} {x y : Operand} {k : IntKind} {m l : Int} (ho : ops[i]? = some ⟨some d, .binOp .quo xt x y yt, ty, pos, aft, g⟩) (hg : gok ops st g = true) (hk : known st ⟨some d, .binOp .quo xt x y yt, ty, pos, aft, g⟩ = true) (hx : st.ev x = .v (.int k m)) (hy : st.ev y = .v (.int k l)) (h0 : 0 ≤ m) (h1 : 0 < l) (hm : m ≤ k.max) (h : vOrd P B lax ops Rs K rest (st.put (some d) (.v (.int k (m / l)))) w) : vOrd P B lax ops Rs K (i :: rest) st w := by
 refine s_val ho hg rfl hk (fun w => ?_) h
 have ex : st.rho x = .int k m := by rw [St.rho, hx]; rfl
 have ey : st.rho y = .int k l := by rw [St.rho, hy]; rfl
 have hd : m.tdiv l = m / l := Int.tdiv_eq_ediv_of_nonneg h0
 have q0 : 0 ≤ m / l := Int.ediv_nonneg h0 (by omega)
 have q1 : m / l ≤ m := Int.ediv_le_self l h0
 have hmin : k.min ≤ 0 := by cases k <;> decide
 have hw : k.wrap (m / l) = m / l := wrap_in k (by omega) (by omega)
 have hl : l ≠ 0 := by omega
 simp [execOp, ex, ey, binOp, eqGuard, Op.intDiv, hl, hd, hw]
theorem a_rem {xt yt : TypeId} {x y : Operand} {k : IntKind} {m l : Int} (ho : ops[i]? = some ⟨some d, .binOp .rem xt x y yt, ty, pos, aft, g⟩) (hg : gok ops st g = true) (hk : known st ⟨some d, .binOp .rem xt x y yt, ty, pos, aft, g⟩ = true) (hx : st.ev x = .v (.int k m)) (hy : st.ev y = .v (.int k l)) (h0 : 0 ≤ m) (h1 : 0 < l) (h : vOrd P B lax ops Rs K rest (st.put (some d) (.v (.int k (m % l)))) w) : vOrd P B lax ops Rs K (i :: rest) st w := by
 refine s_val ho hg rfl hk (fun w => ?_) h
 have ex : st.rho x = .int k m := by rw [St.rho, hx]; rfl
 have ey : st.rho y = .int k l := by rw [St.rho, hy]; rfl
 have hd : m.tmod l = m % l := Int.tmod_eq_emod_of_nonneg h0
 have hl : l ≠ 0 := by omega
 simp [execOp, ex, ey, binOp, eqGuard, Op.intDiv, hl, hd]
theorem a_wconv {s t : TypeId} {su : TypeDesc} {x : Operand} {k k' : IntKind} {m : Int} (ho : ops[i]? = some ⟨some d, .convert s t x, ty, pos, aft, g⟩) (hg : gok ops st g = true) (hk : known st ⟨some d, .convert s t x, ty, pos, aft, g⟩ = true) (hx : st.ev x = .v (.int k' m)) (hs : P.underlying s = some su) (ht : P.underlying t = some (.int k)) (h : vOrd P B lax ops Rs K rest (st.put (some d) (.v (.int k (k.wrap m)))) w) : vOrd P B lax ops Rs K (i :: rest) st w := by
 refine s_val ho hg rfl hk (fun w => ?_) h
 have ex : st.rho x = .int k' m := by rw [St.rho, hx]; rfl
 simp [execOp, ex, convert, run_underlying hs w, run_underlying ht w, Conv.intToInt]
theorem a_conv {s t : TypeId} {su : TypeDesc} {x : Operand} {k k' : IntKind} {m : Int} (lo hi : Int) (hr : k.min = lo ∧ k.max = hi) (ho : ops[i]? = some ⟨some d, .convert s t x, ty, pos, aft, g⟩) (hg : gok ops st g = true) (hk : known st ⟨some d, .convert s t x, ty, pos, aft, g⟩ = true) (hx : st.ev x = .v (.int k' m)) (hs : P.underlying s = some su) (ht : P.underlying t = some (.int k)) (h0 : lo ≤ m) (h1 : m ≤ hi) (h : vOrd P B lax ops Rs K rest (st.put (some d) (.v (.int k m))) w) : vOrd P B lax ops Rs K (i :: rest) st w := by
 refine a_wconv ho hg hk hx hs ht ?_
 rw [wrap_in k (by omega) (by omega)]
 exact h
/-- A call in a region whose order is the text's, by a contract of the common form. -/
theorem s_callT {f : FuncId} {xs : Array Operand} {ts : Array TypeId} {args : List Value} {R : Value → World → Prop} (ho : ops[i]? = some ⟨some d, .call ⟨.value (.func f), xs, ts⟩, ty, pos, aft, g⟩) (hg : gok ops st g = true) (hk : known st ⟨some d, .call ⟨.value (.func f), xs, ts⟩, ty, pos, aft, g⟩ = true) (hf : goFn P f = true) (hx : evL st xs.toList = some args)
  (hc : Calls P f args.toArray w fun e w' => ∃ v, e = .returned v ∧ R v w' ∧ Below w.heap.size w w') (h : ∀ v w', R v w' → Later w w' → vOrd P B true ops Rs K rest (st.put (some d) (.v v)) w') : vOrd P B true ops Rs K (i :: rest) st w :=
 s_call ho hg hk hf hx (hc.mono (fun _ w' ⟨v, h1, h2, h3⟩ => ⟨v, h1, h3, h v w' h2 h3⟩))
/-! ### Strings as lists of bytes -/
end
/-! ### Short forms -/
section
variable {P : Program} {B : Nat} {lax : Bool} {ops : Array Oper} {Rs : Nat → Value → World → Prop} {K : St → World → Prop} {i : Nat} {rest : List Nat} {st : St} {w : World}
variable {d : Nat} {ty : TypeId} {pos : String} {aft : Array Edge} {g : Option (Nat × Bool)}
theorem sT {f : FuncId} {xs : Array Operand} {ts : Array TypeId} {args : List Value} {R : Value → World → Prop} (hc : Calls P f args.toArray w fun e w' => ∃ v, e = .returned v ∧ R v w' ∧ Below w.heap.size w w') (h : ∀ v w', R v w' → Later w w' → vOrd P B true ops Rs K rest (st.put (some d) (.v v)) w') (ho : ops[i]? = some ⟨some d, .call ⟨.value (.func f), xs, ts⟩, ty, pos, aft, g⟩ := by exact rfl) (hg : gok ops st g = true := by exact rfl) (hk : known st ⟨some d, .call ⟨.value (.func f), xs, ts⟩, ty, pos, aft, g⟩ = true := by exact rfl) (hx : evL st xs.toList = some args := by exact rfl) (hf : goFn P f = true := by kernel_rfl) : vOrd P B true ops Rs K (i :: rest) st w := s_callT ho hg hk hf hx hc h
theorem aP {xt yt : TypeId} {x y : Operand} {k : IntKind} {m l : Int} (lo : Int) (hi : Int) (h : vOrd P B lax ops Rs K rest (st.put (some d) (.v (.int k (m + l)))) w) (ho : ops[i]? = some ⟨some d, .binOp .add xt x y yt, ty, pos, aft, g⟩ := by exact rfl) (hg : gok ops st g = true := by exact rfl) (hk : known st ⟨some d, .binOp .add xt x y yt, ty, pos, aft, g⟩ = true := by exact rfl) (hx : st.ev x = .v (.int k m) := by exact rfl) (hy : st.ev y = .v (.int k l) := by exact rfl) (hr : k.min = lo ∧ k.max = hi := by decide) (h0 : lo ≤ m + l := by omega) (h1 : m + l ≤ hi := by omega) : vOrd P B lax ops Rs K (i :: rest) st w := a_add lo hi hr ho hg hk hx hy h0 h1 h
theorem aM {xt yt : TypeId} {x y : Operand} {k : IntKind} {m l : Int} (lo : Int) (hi : Int) (h : vOrd P B lax ops Rs K rest (st.put (some d) (.v (.int k (m - l)))) w) (ho : ops[i]? = some ⟨some d, .binOp .sub xt x y yt, ty, pos, aft, g⟩ := by exact rfl) (hg : gok ops st g = true := by exact rfl) (hk : known st ⟨some d, .binOp .sub xt x y yt, ty, pos, aft, g⟩ = true := by exact rfl) (hx : st.ev x = .v (.int k m) := by exact rfl) (hy : st.ev y = .v (.int k l) := by exact rfl) (hr : k.min = lo ∧ k.max = hi := by decide) (h0 : lo ≤ m - l := by omega) (h1 : m - l ≤ hi := by omega) : vOrd P B lax ops Rs K (i :: rest) st w := a_sub lo hi hr ho hg hk hx hy h0 h1 h
end
end Go.Proofs.YthihioakjpmnbaaGreat
