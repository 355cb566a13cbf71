/-
  The small logic: steps that part the ways at a comparison; sums, differences and products that stay in range; quotients; conversions; strings as lists of bytes. No conditions.
-/
import Derived.Test.YtlpenfganhaclaaVcS
import Derived.Laws.BytesString
namespace Go.Proofs.Ytlpenfganhaclaa
open Go.RowKit

theorem wrap_in (k : IntKind) {n : Int} (h0 : k.min ≤ n) (h1 : n ≤ k.max) : k.wrap n = n := by
  cases k <;> simp [IntKind.min, IntKind.max, IntKind.bits, IntKind.signed] at h0 h1 <;> simp [IntKind.wrap, IntKind.bits, IntKind.signed] <;> omega
section
variable {P : Program} {B : Nat} {lax : Bool} {ops : Array Oper} {Rs : Nat → Value → World → Prop} {K : St → World → Prop} {i : Nat} {rest : List Nat} {st : St} {w : World}
variable {d : Nat} {ty : TypeId} {pos : String} {aft : Array Edge} {g : Option (Nat × Bool)}
theorem t_lss {xt yt : TypeId} {x y : Operand} {k : IntKind} {m l : Int} (ho : ops[i]? = some ⟨some d, .binOp .lss xt x y yt, ty, pos, aft, g⟩) (hg : gok ops st g = true) (hk : known st ⟨some d, .binOp .lss xt x y yt, ty, pos, aft, g⟩ = true) (hx : st.ev x = .v (.int k m)) (hy : st.ev y = .v (.int k l)) (hc : m < l) (h : vOrd P B lax ops Rs K rest (st.put (some d) (.v (.bool true))) w) : vOrd P B lax ops Rs K (i :: rest) st w :=
  s_cmp ho hg hk hx hy (by simp [cmpB]; omega) h
theorem f_lss {xt yt : TypeId} {x y : Operand} {k : IntKind} {m l : Int} (ho : ops[i]? = some ⟨some d, .binOp .lss xt x y yt, ty, pos, aft, g⟩) (hg : gok ops st g = true) (hk : known st ⟨some d, .binOp .lss xt x y yt, ty, pos, aft, g⟩ = true) (hx : st.ev x = .v (.int k m)) (hy : st.ev y = .v (.int k l)) (hc : l ≤ m) (h : vOrd P B lax ops Rs K rest (st.put (some d) (.v (.bool false))) w) : vOrd P B lax ops Rs K (i :: rest) st w :=
  s_cmp ho hg hk hx hy (by simp [cmpB]; omega) h
theorem p_lss {xt yt : TypeId} {x y : Operand} {k : IntKind} {m l : Int} (ho : ops[i]? = some ⟨some d, .binOp .lss xt x y yt, ty, pos, aft, g⟩) (hg : gok ops st g = true) (hk : known st ⟨some d, .binOp .lss xt x y yt, ty, pos, aft, g⟩ = true) (hx : st.ev x = .v (.int k m)) (hy : st.ev y = .v (.int k l)) (h1 : m < l → vOrd P B lax ops Rs K rest (st.put (some d) (.v (.bool true))) w) (h2 : l ≤ m → vOrd P B lax ops Rs K rest (st.put (some d) (.v (.bool false))) w) : vOrd P B lax ops Rs K (i :: rest) st w := by
  by_cases c : m < l
  · exact t_lss ho hg hk hx hy c (h1 c)
  · exact f_lss ho hg hk hx hy (by omega) (h2 (by omega))
theorem t_leq {xt yt : TypeId} {x y : Operand} {k : IntKind} {m l : Int} (ho : ops[i]? = some ⟨some d, .binOp .leq xt x y yt, ty, pos, aft, g⟩) (hg : gok ops st g = true) (hk : known st ⟨some d, .binOp .leq xt x y yt, ty, pos, aft, g⟩ = true) (hx : st.ev x = .v (.int k m)) (hy : st.ev y = .v (.int k l)) (hc : m ≤ l) (h : vOrd P B lax ops Rs K rest (st.put (some d) (.v (.bool true))) w) : vOrd P B lax ops Rs K (i :: rest) st w :=
  s_cmp ho hg hk hx hy (by simp [cmpB]; omega) h
theorem f_leq {xt yt : TypeId} {x y : Operand} {k : IntKind} {m l : Int} (ho : ops[i]? = some ⟨some d, .binOp .leq xt x y yt, ty, pos, aft, g⟩) (hg : gok ops st g = true) (hk : known st ⟨some d, .binOp .leq xt x y yt, ty, pos, aft, g⟩ = true) (hx : st.ev x = .v (.int k m)) (hy : st.ev y = .v (.int k l)) (hc : l < m) (h : vOrd P B lax ops Rs K rest (st.put (some d) (.v (.bool false))) w) : vOrd P B lax ops Rs K (i :: rest) st w :=
  s_cmp ho hg hk hx hy (by simp [cmpB]; omega) h
theorem p_leq {xt yt : TypeId} {x y : Operand} {k : IntKind} {m l : Int} (ho : ops[i]? = some ⟨some d, .binOp .leq xt x y yt, ty, pos, aft, g⟩) (hg : gok ops st g = true) (hk : known st ⟨some d, .binOp .leq xt x y yt, ty, pos, aft, g⟩ = true) (hx : st.ev x = .v (.int k m)) (hy : st.ev y = .v (.int k l)) (h1 : m ≤ l → vOrd P B lax ops Rs K rest (st.put (some d) (.v (.bool true))) w) (h2 : l < m → vOrd P B lax ops Rs K rest (st.put (some d) (.v (.bool false))) w) : vOrd P B lax ops Rs K (i :: rest) st w := by
  by_cases c : m ≤ l
  · exact t_leq ho hg hk hx hy c (h1 c)
  · exact f_leq ho hg hk hx hy (by omega) (h2 (by omega))
theorem t_gtr {xt yt : TypeId} {x y : Operand} {k : IntKind} {m l : Int} (ho : ops[i]? = some ⟨some d, .binOp .gtr xt x y yt, ty, pos, aft, g⟩) (hg : gok ops st g = true) (hk : known st ⟨some d, .binOp .gtr xt x y yt, ty, pos, aft, g⟩ = true) (hx : st.ev x = .v (.int k m)) (hy : st.ev y = .v (.int k l)) (hc : l < m) (h : vOrd P B lax ops Rs K rest (st.put (some d) (.v (.bool true))) w) : vOrd P B lax ops Rs K (i :: rest) st w :=
  s_cmp ho hg hk hx hy (by simp [cmpB]; omega) h
theorem f_gtr {xt yt : TypeId} {x y : Operand} {k : IntKind} {m l : Int} (ho : ops[i]? = some ⟨some d, .binOp .gtr xt x y yt, ty, pos, aft, g⟩) (hg : gok ops st g = true) (hk : known st ⟨some d, .binOp .gtr xt x y yt, ty, pos, aft, g⟩ = true) (hx : st.ev x = .v (.int k m)) (hy : st.ev y = .v (.int k l)) (hc : m ≤ l) (h : vOrd P B lax ops Rs K rest (st.put (some d) (.v (.bool false))) w) : vOrd P B lax ops Rs K (i :: rest) st w :=
  s_cmp ho hg hk hx hy (by simp [cmpB]; omega) h
theorem p_gtr {xt yt : TypeId} {x y : Operand} {k : IntKind} {m l : Int} (ho : ops[i]? = some ⟨some d, .binOp .gtr xt x y yt, ty, pos, aft, g⟩) (hg : gok ops st g = true) (hk : known st ⟨some d, .binOp .gtr xt x y yt, ty, pos, aft, g⟩ = true) (hx : st.ev x = .v (.int k m)) (hy : st.ev y = .v (.int k l)) (h1 : l < m → vOrd P B lax ops Rs K rest (st.put (some d) (.v (.bool true))) w) (h2 : m ≤ l → vOrd P B lax ops Rs K rest (st.put (some d) (.v (.bool false))) w) : vOrd P B lax ops Rs K (i :: rest) st w := by
  by_cases c : l < m
  · exact t_gtr ho hg hk hx hy c (h1 c)
  · exact f_gtr ho hg hk hx hy (by omega) (h2 (by omega))
theorem t_geq {xt yt : TypeId} {x y : Operand} {k : IntKind} {m l : Int} (ho : ops[i]? = some ⟨some d, .binOp .geq xt x y yt, ty, pos, aft, g⟩) (hg : gok ops st g = true) (hk : known st ⟨some d, .binOp .geq xt x y yt, ty, pos, aft, g⟩ = true) (hx : st.ev x = .v (.int k m)) (hy : st.ev y = .v (.int k l)) (hc : l ≤ m) (h : vOrd P B lax ops Rs K rest (st.put (some d) (.v (.bool true))) w) : vOrd P B lax ops Rs K (i :: rest) st w :=
  s_cmp ho hg hk hx hy (by simp [cmpB]; omega) h
theorem f_geq {xt yt : TypeId} {x y : Operand} {k : IntKind} {m l : Int} (ho : ops[i]? = some ⟨some d, .binOp .geq xt x y yt, ty, pos, aft, g⟩) (hg : gok ops st g = true) (hk : known st ⟨some d, .binOp .geq xt x y yt, ty, pos, aft, g⟩ = true) (hx : st.ev x = .v (.int k m)) (hy : st.ev y = .v (.int k l)) (hc : m < l) (h : vOrd P B lax ops Rs K rest (st.put (some d) (.v (.bool false))) w) : vOrd P B lax ops Rs K (i :: rest) st w :=
  s_cmp ho hg hk hx hy (by simp [cmpB]; omega) h
theorem p_geq {xt yt : TypeId} {x y : Operand} {k : IntKind} {m l : Int} (ho : ops[i]? = some ⟨some d, .binOp .geq xt x y yt, ty, pos, aft, g⟩) (hg : gok ops st g = true) (hk : known st ⟨some d, .binOp .geq xt x y yt, ty, pos, aft, g⟩ = true) (hx : st.ev x = .v (.int k m)) (hy : st.ev y = .v (.int k l)) (h1 : l ≤ m → vOrd P B lax ops Rs K rest (st.put (some d) (.v (.bool true))) w) (h2 : m < l → vOrd P B lax ops Rs K rest (st.put (some d) (.v (.bool false))) w) : vOrd P B lax ops Rs K (i :: rest) st w := by
  by_cases c : l ≤ m
  · exact t_geq ho hg hk hx hy c (h1 c)
  · exact f_geq ho hg hk hx hy (by omega) (h2 (by omega))
theorem t_eql {xt yt : TypeId} {x y : Operand} {k : IntKind} {m l : Int} (ho : ops[i]? = some ⟨some d, .binOp .eql xt x y yt, ty, pos, aft, g⟩) (hg : gok ops st g = true) (hk : known st ⟨some d, .binOp .eql xt x y yt, ty, pos, aft, g⟩ = true) (hx : st.ev x = .v (.int k m)) (hy : st.ev y = .v (.int k l)) (hc : m = l) (h : vOrd P B lax ops Rs K rest (st.put (some d) (.v (.bool true))) w) : vOrd P B lax ops Rs K (i :: rest) st w :=
  s_cmp ho hg hk hx hy (by simp [cmpB]; omega) h
theorem f_eql {xt yt : TypeId} {x y : Operand} {k : IntKind} {m l : Int} (ho : ops[i]? = some ⟨some d, .binOp .eql xt x y yt, ty, pos, aft, g⟩) (hg : gok ops st g = true) (hk : known st ⟨some d, .binOp .eql xt x y yt, ty, pos, aft, g⟩ = true) (hx : st.ev x = .v (.int k m)) (hy : st.ev y = .v (.int k l)) (hc : m ≠ l) (h : vOrd P B lax ops Rs K rest (st.put (some d) (.v (.bool false))) w) : vOrd P B lax ops Rs K (i :: rest) st w :=
  s_cmp ho hg hk hx hy (by simp [cmpB]; omega) h
theorem p_eql {xt yt : TypeId} {x y : Operand} {k : IntKind} {m l : Int} (ho : ops[i]? = some ⟨some d, .binOp .eql xt x y yt, ty, pos, aft, g⟩) (hg : gok ops st g = true) (hk : known st ⟨some d, .binOp .eql xt x y yt, ty, pos, aft, g⟩ = true) (hx : st.ev x = .v (.int k m)) (hy : st.ev y = .v (.int k l)) (h1 : m = l → vOrd P B lax ops Rs K rest (st.put (some d) (.v (.bool true))) w) (h2 : m ≠ l → vOrd P B lax ops Rs K rest (st.put (some d) (.v (.bool false))) w) : vOrd P B lax ops Rs K (i :: rest) st w := by
  by_cases c : m = l
  · exact t_eql ho hg hk hx hy c (h1 c)
  · exact f_eql ho hg hk hx hy (by omega) (h2 (by omega))
theorem t_neq {xt yt : TypeId} {x y : Operand} {k : IntKind} {m l : Int} (ho : ops[i]? = some ⟨some d, .binOp .neq xt x y yt, ty, pos, aft, g⟩) (hg : gok ops st g = true) (hk : known st ⟨some d, .binOp .neq xt x y yt, ty, pos, aft, g⟩ = true) (hx : st.ev x = .v (.int k m)) (hy : st.ev y = .v (.int k l)) (hc : m ≠ l) (h : vOrd P B lax ops Rs K rest (st.put (some d) (.v (.bool true))) w) : vOrd P B lax ops Rs K (i :: rest) st w :=
  s_cmp ho hg hk hx hy (by simp [cmpB]; omega) h
theorem f_neq {xt yt : TypeId} {x y : Operand} {k : IntKind} {m l : Int} (ho : ops[i]? = some ⟨some d, .binOp .neq xt x y yt, ty, pos, aft, g⟩) (hg : gok ops st g = true) (hk : known st ⟨some d, .binOp .neq xt x y yt, ty, pos, aft, g⟩ = true) (hx : st.ev x = .v (.int k m)) (hy : st.ev y = .v (.int k l)) (hc : m = l) (h : vOrd P B lax ops Rs K rest (st.put (some d) (.v (.bool false))) w) : vOrd P B lax ops Rs K (i :: rest) st w :=
  s_cmp ho hg hk hx hy (by simp [cmpB]; omega) h
theorem p_neq {xt yt : TypeId} {x y : Operand} {k : IntKind} {m l : Int} (ho : ops[i]? = some ⟨some d, .binOp .neq xt x y yt, ty, pos, aft, g⟩) (hg : gok ops st g = true) (hk : known st ⟨some d, .binOp .neq xt x y yt, ty, pos, aft, g⟩ = true) (hx : st.ev x = .v (.int k m)) (hy : st.ev y = .v (.int k l)) (h1 : m ≠ l → vOrd P B lax ops Rs K rest (st.put (some d) (.v (.bool true))) w) (h2 : m = l → vOrd P B lax ops Rs K rest (st.put (some d) (.v (.bool false))) w) : vOrd P B lax ops Rs K (i :: rest) st w := by
  by_cases c : m ≠ l
  · exact t_neq ho hg hk hx hy c (h1 c)
  · exact f_neq ho hg hk hx hy (by omega) (h2 (by omega))
theorem a_add {xt yt : TypeId} {x y : Operand} {k : IntKind} {m l : Int} (lo hi : Int) (hr : k.min = lo ∧ k.max = hi) (ho : ops[i]? = some ⟨some d, .binOp .add xt x y yt, ty, pos, aft, g⟩) (hg : gok ops st g = true) (hk : known st ⟨some d, .binOp .add xt x y yt, ty, pos, aft, g⟩ = true) (hx : st.ev x = .v (.int k m)) (hy : st.ev y = .v (.int k l)) (h0 : lo ≤ m + l) (h1 : m + l ≤ hi) (h : vOrd P B lax ops Rs K rest (st.put (some d) (.v (.int k (m + l)))) w) : vOrd P B lax ops Rs K (i :: rest) st w :=
  s_arith ho hg hk hx hy (by simp only [arithB]; rw [wrap_in k (by omega) (by omega)]) h
theorem a_sub {xt yt : TypeId} {x y : Operand} {k : IntKind} {m l : Int} (lo hi : Int) (hr : k.min = lo ∧ k.max = hi) (ho : ops[i]? = some ⟨some d, .binOp .sub xt x y yt, ty, pos, aft, g⟩) (hg : gok ops st g = true) (hk : known st ⟨some d, .binOp .sub xt x y yt, ty, pos, aft, g⟩ = true) (hx : st.ev x = .v (.int k m)) (hy : st.ev y = .v (.int k l)) (h0 : lo ≤ m - l) (h1 : m - l ≤ hi) (h : vOrd P B lax ops Rs K rest (st.put (some d) (.v (.int k (m - l)))) w) : vOrd P B lax ops Rs K (i :: rest) st w :=
  s_arith ho hg hk hx hy (by simp only [arithB]; rw [wrap_in k (by omega) (by omega)]) h
theorem a_mul {xt yt : TypeId} {x y : Operand} {k : IntKind} {m l : Int} (lo hi : Int) (hr : k.min = lo ∧ k.max = hi) (ho : ops[i]? = some ⟨some d, .binOp .mul xt x y yt, ty, pos, aft, g⟩) (hg : gok ops st g = true) (hk : known st ⟨some d, .binOp .mul xt x y yt, ty, pos, aft, g⟩ = true) (hx : st.ev x = .v (.int k m)) (hy : st.ev y = .v (.int k l)) (h0 : lo ≤ m * l) (h1 : m * l ≤ hi) (h : vOrd P B lax ops Rs K rest (st.put (some d) (.v (.int k (m * l)))) w) : vOrd P B lax ops Rs K (i :: rest) st w :=
  s_arith ho hg hk hx hy (by simp only [arithB]; rw [wrap_in k (by omega) (by omega)]) h
theorem a_quo {xt yt : TypeId} {x y : Operand} {k : IntKind} {m l : Int} (ho : ops[i]? = some ⟨some d, .binOp .quo xt x y yt, ty, pos, aft, g⟩) (hg : gok ops st g = true) (hk : known st ⟨some d, .binOp .quo xt x y yt, ty, pos, aft, g⟩ = true) (hx : st.ev x = .v (.int k m)) (hy : st.ev y = .v (.int k l)) (h0 : 0 ≤ m) (h1 : 0 < l) (hm : m ≤ k.max) (h : vOrd P B lax ops Rs K rest (st.put (some d) (.v (.int k (m / l)))) w) : vOrd P B lax ops Rs K (i :: rest) st w := by
  refine s_val ho hg rfl hk (fun w => ?_) h
  have ex : st.rho x = .int k m := by rw [St.rho, hx]; rfl
  have ey : st.rho y = .int k l := by rw [St.rho, hy]; rfl
  have hd : m.tdiv l = m / l := Int.tdiv_eq_ediv_of_nonneg h0
  have q0 : 0 ≤ m / l := Int.ediv_nonneg h0 (by omega)
  have q1 : m / l ≤ m := Int.ediv_le_self l h0
  have hmin : k.min ≤ 0 := by cases k <;> decide
  have hw : k.wrap (m / l) = m / l := wrap_in k (by omega) (by omega)
  have hl : l ≠ 0 := by omega
  simp [execOp, ex, ey, binOp, eqGuard, Op.intDiv, hl, hd, hw]
theorem a_rem {xt yt : TypeId} {x y : Operand} {k : IntKind} {m l : Int} (ho : ops[i]? = some ⟨some d, .binOp .rem xt x y yt, ty, pos, aft, g⟩) (hg : gok ops st g = true) (hk : known st ⟨some d, .binOp .rem xt x y yt, ty, pos, aft, g⟩ = true) (hx : st.ev x = .v (.int k m)) (hy : st.ev y = .v (.int k l)) (h0 : 0 ≤ m) (h1 : 0 < l) (h : vOrd P B lax ops Rs K rest (st.put (some d) (.v (.int k (m % l)))) w) : vOrd P B lax ops Rs K (i :: rest) st w := by
  refine s_val ho hg rfl hk (fun w => ?_) h
  have ex : st.rho x = .int k m := by rw [St.rho, hx]; rfl
  have ey : st.rho y = .int k l := by rw [St.rho, hy]; rfl
  have hd : m.tmod l = m % l := Int.tmod_eq_emod_of_nonneg h0
  have hl : l ≠ 0 := by omega
  simp [execOp, ex, ey, binOp, eqGuard, Op.intDiv, hl, hd]
theorem a_tquo {xt yt : TypeId} {x y : Operand} {k : IntKind} {m l : Int} (ho : ops[i]? = some ⟨some d, .binOp .quo xt x y yt, ty, pos, aft, g⟩) (hg : gok ops st g = true) (hk : known st ⟨some d, .binOp .quo xt x y yt, ty, pos, aft, g⟩ = true) (hx : st.ev x = .v (.int k m)) (hy : st.ev y = .v (.int k l)) (h1 : 0 < l) (hn : k.min ≤ m) (hm : m ≤ k.max) (h : vOrd P B lax ops Rs K rest (st.put (some d) (.v (.int k (m.tdiv l)))) w) : vOrd P B lax ops Rs K (i :: rest) st w := by
  refine s_val ho hg rfl hk (fun w => ?_) h
  have ex : st.rho x = .int k m := by rw [St.rho, hx]; rfl
  have ey : st.rho y = .int k l := by rw [St.rho, hy]; rfl
  have hmin : k.min ≤ 0 := by cases k <;> decide
  have hmax : 0 ≤ k.max := by cases k <;> decide
  have hq : k.min ≤ m.tdiv l ∧ m.tdiv l ≤ k.max := by
    by_cases c : 0 ≤ m
    · rw [Int.tdiv_eq_ediv_of_nonneg c]
      have q0 : 0 ≤ m / l := Int.ediv_nonneg c (by omega)
      have q1 : m / l ≤ m := Int.ediv_le_self l c
      omega
    · have e : m.tdiv l = -((-m) / l) := by
        have h2 : (-m).tdiv l = (-m) / l := Int.tdiv_eq_ediv_of_nonneg (by omega)
        rw [Int.neg_tdiv] at h2; omega
      have q0 : 0 ≤ (-m) / l := Int.ediv_nonneg (by omega) (by omega)
      have q1 : (-m) / l ≤ -m := Int.ediv_le_self l (by omega)
      omega
  have hw : k.wrap (m.tdiv l) = m.tdiv l := wrap_in k hq.1 hq.2
  have hl : l ≠ 0 := by omega
  simp [execOp, ex, ey, binOp, eqGuard, Op.intDiv, hl, hw]
theorem a_tmod {xt yt : TypeId} {x y : Operand} {k : IntKind} {m l : Int} (ho : ops[i]? = some ⟨some d, .binOp .rem xt x y yt, ty, pos, aft, g⟩) (hg : gok ops st g = true) (hk : known st ⟨some d, .binOp .rem xt x y yt, ty, pos, aft, g⟩ = true) (hx : st.ev x = .v (.int k m)) (hy : st.ev y = .v (.int k l)) (h1 : l ≠ 0) (h : vOrd P B lax ops Rs K rest (st.put (some d) (.v (.int k (m.tmod l)))) w) : vOrd P B lax ops Rs K (i :: rest) st w := by
  refine s_val ho hg rfl hk (fun w => ?_) h
  have ex : st.rho x = .int k m := by rw [St.rho, hx]; rfl
  have ey : st.rho y = .int k l := by rw [St.rho, hy]; rfl
  simp [execOp, ex, ey, binOp, eqGuard, Op.intDiv, h1]
theorem a_neg {t : TypeId} {x : Operand} {k : IntKind} {m : Int} (lo hi : Int) (hr : k.min = lo ∧ k.max = hi) (ho : ops[i]? = some ⟨some d, .unOp .neg t x, ty, pos, aft, g⟩) (hg : gok ops st g = true) (hk : known st ⟨some d, .unOp .neg t x, ty, pos, aft, g⟩ = true) (hx : st.ev x = .v (.int k m)) (h0 : lo ≤ -m) (h1 : -m ≤ hi) (h : vOrd P B lax ops Rs K rest (st.put (some d) (.v (.int k (-m)))) w) : vOrd P B lax ops Rs K (i :: rest) st w :=
  s_neg ho hg hk hx (wrap_in k (by omega) (by omega)) h
theorem a_wconv {s t : TypeId} {su : TypeDesc} {x : Operand} {k k' : IntKind} {m : Int} (ho : ops[i]? = some ⟨some d, .convert s t x, ty, pos, aft, g⟩) (hg : gok ops st g = true) (hk : known st ⟨some d, .convert s t x, ty, pos, aft, g⟩ = true) (hx : st.ev x = .v (.int k' m)) (hs : P.underlying s = some su) (ht : P.underlying t = some (.int k)) (h : vOrd P B lax ops Rs K rest (st.put (some d) (.v (.int k (k.wrap m)))) w) : vOrd P B lax ops Rs K (i :: rest) st w := by
  refine s_val ho hg rfl hk (fun w => ?_) h
  have ex : st.rho x = .int k' m := by rw [St.rho, hx]; rfl
  simp [execOp, ex, convert, run_underlying hs w, run_underlying ht w, Conv.intToInt]
theorem a_conv {s t : TypeId} {su : TypeDesc} {x : Operand} {k k' : IntKind} {m : Int} (lo hi : Int) (hr : k.min = lo ∧ k.max = hi) (ho : ops[i]? = some ⟨some d, .convert s t x, ty, pos, aft, g⟩) (hg : gok ops st g = true) (hk : known st ⟨some d, .convert s t x, ty, pos, aft, g⟩ = true) (hx : st.ev x = .v (.int k' m)) (hs : P.underlying s = some su) (ht : P.underlying t = some (.int k)) (h0 : lo ≤ m) (h1 : m ≤ hi) (h : vOrd P B lax ops Rs K rest (st.put (some d) (.v (.int k m))) w) : vOrd P B lax ops Rs K (i :: rest) st w := by
  refine a_wconv ho hg hk hx hs ht ?_
  rw [wrap_in k (by omega) (by omega)]
  exact h
/-- A call in a region whose order is the text's, by a contract of the common form. -/
theorem s_callT {f : FuncId} {xs : Array Operand} {ts : Array TypeId} {args : List Value} {R : Value → World → Prop} (ho : ops[i]? = some ⟨some d, .call ⟨.value (.func f), xs, ts⟩, ty, pos, aft, g⟩) (hg : gok ops st g = true) (hk : known st ⟨some d, .call ⟨.value (.func f), xs, ts⟩, ty, pos, aft, g⟩ = true) (hf : goFn P f = true) (hx : evL st xs.toList = some args)
    (hc : Calls P f args.toArray w fun e w' => ∃ v, e = .returned v ∧ R v w' ∧ Below w.heap.size w w') (h : ∀ v w', R v w' → Later w w' → vOrd P B true ops Rs K rest (st.put (some d) (.v v)) w') : vOrd P B true ops Rs K (i :: rest) st w :=
  s_call ho hg hk hf hx (hc.mono (fun _ w' ⟨v, h1, h2, h3⟩ => ⟨v, h1, h3, h v w' h2 h3⟩))
/-! ### Strings as lists of bytes -/
def Str (l : List UInt8) : Value := .string ⟨⟨l⟩⟩
theorem str_cat (a b : List UInt8) : (⟨⟨a⟩⟩ : ByteArray) ++ ⟨⟨b⟩⟩ = ⟨⟨a ++ b⟩⟩ := by
  apply ByteArray.ext
  simp
theorem str_list (l : List UInt8) : (⟨⟨l⟩⟩ : ByteArray).toList = l := by
  simp
theorem b_byte {t : TypeId} {x ix : Operand} {l : List UInt8} {k : IntKind} {j : Int} {b : UInt8} (ho : ops[i]? = some ⟨some d, .index t x ix, ty, pos, aft, g⟩) (hg : gok ops st g = true) (hk : known st ⟨some d, .index t x ix, ty, pos, aft, g⟩ = true)
    (hx : st.ev x = .v (.string ⟨⟨l⟩⟩)) (hi : st.ev ix = .v (.int k j)) (hu : P.underlying t = some .string) (h0 : 0 ≤ j) (hb : l[j.toNat]? = some b) (h : vOrd P B lax ops Rs K rest (st.put (some d) (.v (.int .u8 b.toNat))) w) : vOrd P B lax ops Rs K (i :: rest) st w :=
  s_byte ho hg hk hx hi hu h0 (by
    obtain ⟨hl, e⟩ := List.getElem?_eq_some_iff.1 hb
    have hs : j.toNat < (⟨⟨l⟩⟩ : ByteArray).size := hl
    exact (getElem?_pos (⟨⟨l⟩⟩ : ByteArray) j.toNat hs).trans (congrArg some e)) h
theorem b_cat {xt yt : TypeId} {x y : Operand} {a b : List UInt8} (ho : ops[i]? = some ⟨some d, .binOp .add xt x y yt, ty, pos, aft, g⟩) (hg : gok ops st g = true) (hk : known st ⟨some d, .binOp .add xt x y yt, ty, pos, aft, g⟩ = true)
    (hx : st.ev x = .v (.string ⟨⟨a⟩⟩)) (hy : st.ev y = .v (.string ⟨⟨b⟩⟩)) (hn : a.length + b.length ≤ 9223372036854775807) (h : vOrd P B lax ops Rs K rest (st.put (some d) (.v (.string ⟨⟨a ++ b⟩⟩))) w) : vOrd P B lax ops Rs K (i :: rest) st w :=
  s_cat ho hg hk hx hy hn (by rw [str_cat]; exact h)
theorem b_eqT {xt yt : TypeId} {x y : Operand} {a b : List UInt8} (ho : ops[i]? = some ⟨some d, .binOp .eql xt x y yt, ty, pos, aft, g⟩) (hg : gok ops st g = true) (hk : known st ⟨some d, .binOp .eql xt x y yt, ty, pos, aft, g⟩ = true)
    (hx : st.ev x = .v (.string ⟨⟨a⟩⟩)) (hy : st.ev y = .v (.string ⟨⟨b⟩⟩)) (hc : a = b) (h : vOrd P B lax ops Rs K rest (st.put (some d) (.v (.bool true))) w) : vOrd P B lax ops Rs K (i :: rest) st w :=
  s_seq ho hg hk hx hy (by rw [str_list, str_list, hc]; simp) h
theorem b_eqF {xt yt : TypeId} {x y : Operand} {a b : List UInt8} (ho : ops[i]? = some ⟨some d, .binOp .eql xt x y yt, ty, pos, aft, g⟩) (hg : gok ops st g = true) (hk : known st ⟨some d, .binOp .eql xt x y yt, ty, pos, aft, g⟩ = true)
    (hx : st.ev x = .v (.string ⟨⟨a⟩⟩)) (hy : st.ev y = .v (.string ⟨⟨b⟩⟩)) (hc : a ≠ b) (h : vOrd P B lax ops Rs K rest (st.put (some d) (.v (.bool false))) w) : vOrd P B lax ops Rs K (i :: rest) st w :=
  s_seq ho hg hk hx hy (by rw [str_list, str_list]; simpa using hc) h
theorem b_eq {xt yt : TypeId} {x y : Operand} {a b : List UInt8} (ho : ops[i]? = some ⟨some d, .binOp .eql xt x y yt, ty, pos, aft, g⟩) (hg : gok ops st g = true) (hk : known st ⟨some d, .binOp .eql xt x y yt, ty, pos, aft, g⟩ = true)
    (hx : st.ev x = .v (.string ⟨⟨a⟩⟩)) (hy : st.ev y = .v (.string ⟨⟨b⟩⟩)) (h1 : a = b → vOrd P B lax ops Rs K rest (st.put (some d) (.v (.bool true))) w) (h2 : a ≠ b → vOrd P B lax ops Rs K rest (st.put (some d) (.v (.bool false))) w) : vOrd P B lax ops Rs K (i :: rest) st w := by
  by_cases c : a = b
  · exact b_eqT ho hg hk hx hy c (h1 c)
  · exact b_eqF ho hg hk hx hy c (h2 c)
theorem b_neT {xt yt : TypeId} {x y : Operand} {a b : List UInt8} (ho : ops[i]? = some ⟨some d, .binOp .neq xt x y yt, ty, pos, aft, g⟩) (hg : gok ops st g = true) (hk : known st ⟨some d, .binOp .neq xt x y yt, ty, pos, aft, g⟩ = true)
    (hx : st.ev x = .v (.string ⟨⟨a⟩⟩)) (hy : st.ev y = .v (.string ⟨⟨b⟩⟩)) (hc : a ≠ b) (h : vOrd P B lax ops Rs K rest (st.put (some d) (.v (.bool true))) w) : vOrd P B lax ops Rs K (i :: rest) st w :=
  s_sne ho hg hk hx hy (by rw [str_list, str_list]; simpa using hc) h
theorem b_neF {xt yt : TypeId} {x y : Operand} {a b : List UInt8} (ho : ops[i]? = some ⟨some d, .binOp .neq xt x y yt, ty, pos, aft, g⟩) (hg : gok ops st g = true) (hk : known st ⟨some d, .binOp .neq xt x y yt, ty, pos, aft, g⟩ = true)
    (hx : st.ev x = .v (.string ⟨⟨a⟩⟩)) (hy : st.ev y = .v (.string ⟨⟨b⟩⟩)) (hc : a = b) (h : vOrd P B lax ops Rs K rest (st.put (some d) (.v (.bool false))) w) : vOrd P B lax ops Rs K (i :: rest) st w :=
  s_sne ho hg hk hx hy (by rw [str_list, str_list, hc]; simp) h
theorem b_ne {xt yt : TypeId} {x y : Operand} {a b : List UInt8} (ho : ops[i]? = some ⟨some d, .binOp .neq xt x y yt, ty, pos, aft, g⟩) (hg : gok ops st g = true) (hk : known st ⟨some d, .binOp .neq xt x y yt, ty, pos, aft, g⟩ = true)
    (hx : st.ev x = .v (.string ⟨⟨a⟩⟩)) (hy : st.ev y = .v (.string ⟨⟨b⟩⟩)) (h1 : a ≠ b → vOrd P B lax ops Rs K rest (st.put (some d) (.v (.bool true))) w) (h2 : a = b → vOrd P B lax ops Rs K rest (st.put (some d) (.v (.bool false))) w) : vOrd P B lax ops Rs K (i :: rest) st w := by
  by_cases c : a = b
  · exact b_neF ho hg hk hx hy c (h2 c)
  · exact b_neT ho hg hk hx hy c (h1 c)
/-- A string from a place on, and up to a place. -/
theorem b_from {t : TypeId} {x a : Operand} {l : List UInt8} {k : IntKind} {j : Int} (ho : ops[i]? = some ⟨some d, .slice t x (some a) none none, ty, pos, aft, g⟩) (hg : gok ops st g = true) (hk : known st ⟨some d, .slice t x (some a) none none, ty, pos, aft, g⟩ = true)
    (hx : st.ev x = .v (.string ⟨⟨l⟩⟩)) (hi : st.ev a = .v (.int k j)) (hu : P.underlying t = some .string) (h0 : 0 ≤ j) (h1 : j ≤ l.length) (h : vOrd P B lax ops Rs K rest (st.put (some d) (.v (.string ⟨⟨l.drop j.toNat⟩⟩))) w) : vOrd P B lax ops Rs K (i :: rest) st w := by
  refine s_val ho hg rfl hk (fun w => ?_) h
  have ex : st.rho x = .string ⟨⟨l⟩⟩ := by rw [St.rho, hx]; rfl
  have ey : st.rho a = .int k j := by rw [St.rho, hi]; rfl
  have hs : (⟨⟨l⟩⟩ : ByteArray).size = l.length := rfl
  have he : (⟨⟨l⟩⟩ : ByteArray).extract j.toNat l.length = ⟨⟨l.drop j.toNat⟩⟩ := by
    apply ByteArray.ext
    simp [List.take_of_length_le]
  simp [execOp, ex, ey, Instr.sliceAt, Instr.slice, Instr.sliceBounds, Instr.sliceBound, asIntOf, run_underlying hu w, h0, h1, hs, he]
theorem b_part {t : TypeId} {x a b : Operand} {l : List UInt8} {k k' : IntKind} {j j' : Int} (ho : ops[i]? = some ⟨some d, .slice t x (some a) (some b) none, ty, pos, aft, g⟩) (hg : gok ops st g = true) (hk : known st ⟨some d, .slice t x (some a) (some b) none, ty, pos, aft, g⟩ = true)
    (hx : st.ev x = .v (.string ⟨⟨l⟩⟩)) (hi : st.ev a = .v (.int k j)) (hi' : st.ev b = .v (.int k' j')) (hu : P.underlying t = some .string) (h0 : 0 ≤ j) (h1 : j ≤ j') (h2 : j' ≤ l.length) (h : vOrd P B lax ops Rs K rest (st.put (some d) (.v (.string ⟨⟨(l.take j'.toNat).drop j.toNat⟩⟩))) w) : vOrd P B lax ops Rs K (i :: rest) st w := by
  refine s_val ho hg rfl hk (fun w => ?_) h
  have ex : st.rho x = .string ⟨⟨l⟩⟩ := by rw [St.rho, hx]; rfl
  have ey : st.rho a = .int k j := by rw [St.rho, hi]; rfl
  have ez : st.rho b = .int k' j' := by rw [St.rho, hi']; rfl
  have hs : (⟨⟨l⟩⟩ : ByteArray).size = l.length := rfl
  have he : (⟨⟨l⟩⟩ : ByteArray).extract j.toNat j'.toNat = ⟨⟨(l.take j'.toNat).drop j.toNat⟩⟩ := by
    apply ByteArray.ext
    simp [List.drop_take, List.extract_eq_take_drop]
  have h3 : 0 ≤ j' := by omega
  have h4 : ¬ max j' 0 < j := by omega
  simp [execOp, ex, ey, ez, Instr.sliceAt, Instr.slice, Instr.sliceBounds, Instr.sliceBound, asIntOf, run_underlying hu w, h0, h2, h3, h4, hs, he]
theorem b_to {t : TypeId} {x b : Operand} {l : List UInt8} {k' : IntKind} {j' : Int} (ho : ops[i]? = some ⟨some d, .slice t x none (some b) none, ty, pos, aft, g⟩) (hg : gok ops st g = true) (hk : known st ⟨some d, .slice t x none (some b) none, ty, pos, aft, g⟩ = true)
    (hx : st.ev x = .v (.string ⟨⟨l⟩⟩)) (hi' : st.ev b = .v (.int k' j')) (hu : P.underlying t = some .string) (h0 : 0 ≤ j') (h2 : j' ≤ l.length) (h : vOrd P B lax ops Rs K rest (st.put (some d) (.v (.string ⟨⟨l.take j'.toNat⟩⟩))) w) : vOrd P B lax ops Rs K (i :: rest) st w := by
  refine s_val ho hg rfl hk (fun w => ?_) h
  have ex : st.rho x = .string ⟨⟨l⟩⟩ := by rw [St.rho, hx]; rfl
  have ez : st.rho b = .int k' j' := by rw [St.rho, hi']; rfl
  have hs : (⟨⟨l⟩⟩ : ByteArray).size = l.length := rfl
  have he : (⟨⟨l⟩⟩ : ByteArray).extract 0 j'.toNat = ⟨⟨l.take j'.toNat⟩⟩ := by
    apply ByteArray.ext
    simp
  simp [execOp, ex, ez, Instr.sliceAt, Instr.slice, Instr.sliceBounds, Instr.sliceBound, asIntOf, run_underlying hu w, h0, h2, hs, he]
theorem run_len_str {P : Program} {x : Operand} {t : TypeId} {l : List UInt8} (hx : st.ev x = .v (.string ⟨⟨l⟩⟩)) (hu : P.underlying t = some .string) (w : World) : (execOp st.rho ⟨some d, .call ⟨.builtin .len, #[x], #[t]⟩, ty, pos, aft, g⟩).run P w = .ok (.value (.int .i64 l.length)) w := by
  have ex : st.rho x = .string ⟨⟨l⟩⟩ := by rw [St.rho, hx]; rfl
  have hs : (⟨⟨l⟩⟩ : ByteArray).size = l.length := rfl
  simp [execOp, ex, resolve, invoke, builtin, Builtin.len_, run_underlying hu w, goInt, hs]
/-- len of a string, in a region whose order is the text's. -/
theorem b_len {x : Operand} {t : TypeId} {l : List UInt8} (ho : ops[i]? = some ⟨some d, .call ⟨.builtin .len, #[x], #[t]⟩, ty, pos, aft, g⟩) (hg : gok ops st g = true) (hk : known st ⟨some d, .call ⟨.builtin .len, #[x], #[t]⟩, ty, pos, aft, g⟩ = true) (hx : st.ev x = .v (.string ⟨⟨l⟩⟩)) (hu : P.underlying t = some .string)
    (h : vOrd P B true ops Rs K rest (st.put (some d) (.v (.int .i64 l.length))) w) : vOrd P B true ops Rs K (i :: rest) st w :=
  s_run ho hg hk rfl (run_len_str hx hu w) h
/-- A call that only reckons, in a region that draws its order. -/
theorem s_runD {c : Call} {v : Value} (ho : ops[i]? = some ⟨some d, .call c, ty, pos, aft, g⟩) (hg : gok ops st g = true) (hk : known st ⟨some d, .call c, ty, pos, aft, g⟩ = true)
    (hr : ∀ w', Later w w' → (execOp st.rho ⟨some d, .call c, ty, pos, aft, g⟩).run P w' = .ok (.value v) w') (hR : ∀ w', Rs i v w') (hR' : ∀ u w', Rs i u w' → u = v) (h : ∀ w', Later w w' → vOrd P B lax ops Rs K rest (st.put (some d) (.v v)) w') : vOrd P B lax ops Rs K (i :: rest) st w := by
  refine vOrd_op ho hg ⟨hk, rfl, fun wc l => ?_, fun u wc w1 w2 l1 l2 hq l3 => ?_⟩
  · unfold RunsTo; rw [hr wc l]; exact ⟨hR _, Later.refl _⟩
  · obtain rfl := hR' _ _ hq
    exact h _ ((l1.trans l2).trans l3)
theorem b_lenD {x : Operand} {t : TypeId} {l : List UInt8} (ho : ops[i]? = some ⟨some d, .call ⟨.builtin .len, #[x], #[t]⟩, ty, pos, aft, g⟩) (hg : gok ops st g = true) (hk : known st ⟨some d, .call ⟨.builtin .len, #[x], #[t]⟩, ty, pos, aft, g⟩ = true) (hx : st.ev x = .v (.string ⟨⟨l⟩⟩)) (hu : P.underlying t = some .string) (hR : ∀ w', Rs i (.int .i64 l.length) w') (hR' : ∀ u w', Rs i u w' → u = .int .i64 l.length)
    (h : ∀ w', Later w w' → vOrd P B lax ops Rs K rest (st.put (some d) (.v (.int .i64 l.length))) w') : vOrd P B lax ops Rs K (i :: rest) st w :=
  s_runD ho hg hk (fun w' _ => run_len_str hx hu w') hR hR' h
end
/-! ### Short forms -/
section
variable {P : Program} {B : Nat} {lax : Bool} {ops : Array Oper} {Rs : Nat → Value → World → Prop} {K : St → World → Prop} {i : Nat} {rest : List Nat} {st : St} {w : World}
variable {d : Nat} {ty : TypeId} {pos : String} {aft : Array Edge} {g : Option (Nat × Bool)}
theorem sT {f : FuncId} {xs : Array Operand} {ts : Array TypeId} {args : List Value} {R : Value → World → Prop} (hc : Calls P f args.toArray w fun e w' => ∃ v, e = .returned v ∧ R v w' ∧ Below w.heap.size w w') (h : ∀ v w', R v w' → Later w w' → vOrd P B true ops Rs K rest (st.put (some d) (.v v)) w') (ho : ops[i]? = some ⟨some d, .call ⟨.value (.func f), xs, ts⟩, ty, pos, aft, g⟩ := by exact rfl) (hg : gok ops st g = true := by exact rfl) (hk : known st ⟨some d, .call ⟨.value (.func f), xs, ts⟩, ty, pos, aft, g⟩ = true := by exact rfl) (hx : evL st xs.toList = some args := by exact rfl) (hf : goFn P f = true := by kernel_rfl) : vOrd P B true ops Rs K (i :: rest) st w := s_callT ho hg hk hf hx hc h
theorem aP {xt yt : TypeId} {x y : Operand} {k : IntKind} {m l : Int} (lo : Int) (hi : Int) (h : vOrd P B lax ops Rs K rest (st.put (some d) (.v (.int k (m + l)))) w) (ho : ops[i]? = some ⟨some d, .binOp .add xt x y yt, ty, pos, aft, g⟩ := by exact rfl) (hg : gok ops st g = true := by exact rfl) (hk : known st ⟨some d, .binOp .add xt x y yt, ty, pos, aft, g⟩ = true := by exact rfl) (hx : st.ev x = .v (.int k m) := by exact rfl) (hy : st.ev y = .v (.int k l) := by exact rfl) (hr : k.min = lo ∧ k.max = hi := by decide) (h0 : lo ≤ m + l := by omega) (h1 : m + l ≤ hi := by omega) : vOrd P B lax ops Rs K (i :: rest) st w := a_add lo hi hr ho hg hk hx hy h0 h1 h
theorem aM {xt yt : TypeId} {x y : Operand} {k : IntKind} {m l : Int} (lo : Int) (hi : Int) (h : vOrd P B lax ops Rs K rest (st.put (some d) (.v (.int k (m - l)))) w) (ho : ops[i]? = some ⟨some d, .binOp .sub xt x y yt, ty, pos, aft, g⟩ := by exact rfl) (hg : gok ops st g = true := by exact rfl) (hk : known st ⟨some d, .binOp .sub xt x y yt, ty, pos, aft, g⟩ = true := by exact rfl) (hx : st.ev x = .v (.int k m) := by exact rfl) (hy : st.ev y = .v (.int k l) := by exact rfl) (hr : k.min = lo ∧ k.max = hi := by decide) (h0 : lo ≤ m - l := by omega) (h1 : m - l ≤ hi := by omega) : vOrd P B lax ops Rs K (i :: rest) st w := a_sub lo hi hr ho hg hk hx hy h0 h1 h
end
end Go.Proofs.Ytlpenfganhaclaa
