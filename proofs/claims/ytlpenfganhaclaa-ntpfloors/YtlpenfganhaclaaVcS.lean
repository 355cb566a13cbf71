/-
  The small logic: steps on strings (a byte of a string, its length, two strings as one, '==' of strings). No conditions.
-/
import Derived.Test.YtlpenfganhaclaaVc
namespace Go.Proofs.Ytlpenfganhaclaa
open Go.RowKit

section
variable {P : Program} {B : Nat} {lax : Bool} {ops : Array Oper} {Rs : Nat → Value → World → Prop} {K : St → World → Prop} {i : Nat} {rest : List Nat} {st : St} {w : World}
variable {d : Nat} {ty : TypeId} {pos : String} {aft : Array Edge} {g : Option (Nat × Bool)}
/-- A byte of a string, inside of it. -/
theorem s_byte {t : TypeId} {x ix : Operand} {s : ByteArray} {k : IntKind} {j : Int} {b : UInt8} (ho : ops[i]? = some ⟨some d, .index t x ix, ty, pos, aft, g⟩) (hg : gok ops st g = true) (hk : known st ⟨some d, .index t x ix, ty, pos, aft, g⟩ = true)
    (hx : st.ev x = .v (.string s)) (hi : st.ev ix = .v (.int k j)) (hu : P.underlying t = some .string) (h0 : 0 ≤ j) (hb : s[j.toNat]? = some b)
    (h : vOrd P B lax ops Rs K rest (st.put (some d) (.v (.int .u8 b.toNat))) w) : vOrd P B lax ops Rs K (i :: rest) st w := by
  refine s_val ho hg rfl hk (fun w => ?_) h
  have ex : st.rho x = .string s := by rw [St.rho, hx]; rfl
  have ey : st.rho ix = .int k j := by rw [St.rho, hi]; rfl
  simp [execOp, ex, ey, Instr.index, asIntOf, run_underlying hu w, h0, hb]
/-- Two strings as one. -/
theorem s_cat {xt yt : TypeId} {x y : Operand} {a b : ByteArray} (ho : ops[i]? = some ⟨some d, .binOp .add xt x y yt, ty, pos, aft, g⟩) (hg : gok ops st g = true) (hk : known st ⟨some d, .binOp .add xt x y yt, ty, pos, aft, g⟩ = true)
    (hx : st.ev x = .v (.string a)) (hy : st.ev y = .v (.string b)) (hn : a.size + b.size ≤ 9223372036854775807)
    (h : vOrd P B lax ops Rs K rest (st.put (some d) (.v (.string (a ++ b)))) w) : vOrd P B lax ops Rs K (i :: rest) st w := by
  refine s_val ho hg rfl hk (fun w => ?_) h
  have ex : st.rho x = .string a := by rw [St.rho, hx]; rfl
  have ey : st.rho y = .string b := by rw [St.rho, hy]; rfl
  have hm : ¬ (((a.size + b.size : Nat) : Int) > IntKind.i64.max) := by
    have : IntKind.i64.max = 9223372036854775807 := by decide
    omega
  simp only [execOp, ex, ey, binOp, eqGuard, Op.stringOp, if_neg hm]
  simp
/-- '==' and '!=' of strings. -/
theorem s_seq {xt yt : TypeId} {x y : Operand} {a b : ByteArray} {c : Bool} (ho : ops[i]? = some ⟨some d, .binOp .eql xt x y yt, ty, pos, aft, g⟩) (hg : gok ops st g = true) (hk : known st ⟨some d, .binOp .eql xt x y yt, ty, pos, aft, g⟩ = true)
    (hx : st.ev x = .v (.string a)) (hy : st.ev y = .v (.string b)) (hc : (a.toList == b.toList) = c)
    (h : vOrd P B lax ops Rs K rest (st.put (some d) (.v (.bool c))) w) : vOrd P B lax ops Rs K (i :: rest) st w := by
  refine s_val ho hg rfl hk (fun w => ?_) h
  have ex : st.rho x = .string a := by rw [St.rho, hx]; rfl
  have ey : st.rho y = .string b := by rw [St.rho, hy]; rfl
  subst hc
  simp [execOp, ex, ey, binOp, eqGuard, Op.stringOp]
theorem s_sne {xt yt : TypeId} {x y : Operand} {a b : ByteArray} {c : Bool} (ho : ops[i]? = some ⟨some d, .binOp .neq xt x y yt, ty, pos, aft, g⟩) (hg : gok ops st g = true) (hk : known st ⟨some d, .binOp .neq xt x y yt, ty, pos, aft, g⟩ = true)
    (hx : st.ev x = .v (.string a)) (hy : st.ev y = .v (.string b)) (hc : (!(a.toList == b.toList)) = c)
    (h : vOrd P B lax ops Rs K rest (st.put (some d) (.v (.bool c))) w) : vOrd P B lax ops Rs K (i :: rest) st w := by
  refine s_val ho hg rfl hk (fun w => ?_) h
  have ex : st.rho x = .string a := by rw [St.rho, hx]; rfl
  have ey : st.rho y = .string b := by rw [St.rho, hy]; rfl
  subst hc
  simp [execOp, ex, ey, binOp, eqGuard, Op.stringOp]
end
end Go.Proofs.Ytlpenfganhaclaa
