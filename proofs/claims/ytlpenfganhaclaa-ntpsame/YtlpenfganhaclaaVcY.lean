/-
  The small logic: bits (and, or, xor, shifts), arrays of the call's own (an element's address, a load, a store at any index). No conditions.
-/
import Derived.Test.YtlpenfganhaclaaVcX
import Derived.Laws.BitsAllLaws
import Derived.Laws.Shifts
import Derived.Laws.OwnMore
import Derived.Laws.Slices
import Derived.Laws.StructEq
namespace Go.Proofs.Ytlpenfganhaclaa
open Go.RowKit

def bAnd (a b : Int) : Int := ((a.toNat &&& b.toNat : Nat) : Int)
def bOr (a b : Int) : Int := ((a.toNat ||| b.toNat : Nat) : Int)
def bXor (a b : Int) : Int := ((a.toNat ^^^ b.toNat : Nat) : Int)
theorem nat_lt_pow {A m : Nat} (h : (A : Int) ≤ 2 ^ m - 1) : A < 2 ^ m := by
  have e : ((2 ^ m : Nat) : Int) = (2 : Int) ^ m := by simp
  omega
theorem pow_ge {A m : Nat} (h : A < 2 ^ m) : (A : Int) ≤ 2 ^ m - 1 := by
  have e : ((2 ^ m : Nat) : Int) = (2 : Int) ^ m := by simp
  omega
theorem ofInt_nat {n a : Nat} (h : a < 2 ^ n) : (BitVec.ofInt n (a : Int)).toNat = a := by
  rw [BitVec.ofInt_natCast, BitVec.toNat_ofNat, Nat.mod_eq_of_lt h]
theorem run_and {k : IntKind} {m : Nat} {hi a b : Int} (hr : m ≤ k.bits ∧ k.max = hi ∧ hi = 2 ^ m - 1 ∧ k.min ≤ 0) (a0 : 0 ≤ a) (a1 : a ≤ hi) (b0 : 0 ≤ b) (b1 : b ≤ hi) : Op.intBits .and k a b = pure (.int k (bAnd a b)) := by
  obtain ⟨A, rfl⟩ := Int.eq_ofNat_of_zero_le a0
  obtain ⟨C, rfl⟩ := Int.eq_ofNat_of_zero_le b0
  obtain ⟨h1, h2, h3, h4⟩ := hr
  have hA : A < 2 ^ m := nat_lt_pow (h3 ▸ a1)
  have hB : C < 2 ^ m := nat_lt_pow (h3 ▸ b1)
  have hp := Nat.pow_le_pow_right (show 0 < 2 by decide) h1
  have hC : (A &&& C) < 2 ^ m := Nat.and_lt_two_pow _ hB
  have e1 := ofInt_nat (Nat.lt_of_lt_of_le hA hp)
  have e2 := ofInt_nat (Nat.lt_of_lt_of_le hB hp)
  have hw : k.wrap ((A &&& C : Nat) : Int) = ((A &&& C : Nat) : Int) := wrap_in k (by omega) (by rw [h2, h3]; exact pow_ge hC)
  have e3 : (BitVec.ofInt k.bits (A : Int) &&& BitVec.ofInt k.bits (C : Int)).toNat = A &&& C := by simp only [BitVec.toNat_and, e1, e2]
  unfold Op.intBits bAnd
  simp only [e3, hw, Int.toNat_natCast]
theorem run_or {k : IntKind} {m : Nat} {hi a b : Int} (hr : m ≤ k.bits ∧ k.max = hi ∧ hi = 2 ^ m - 1 ∧ k.min ≤ 0) (a0 : 0 ≤ a) (a1 : a ≤ hi) (b0 : 0 ≤ b) (b1 : b ≤ hi) : Op.intBits .or k a b = pure (.int k (bOr a b)) := by
  obtain ⟨A, rfl⟩ := Int.eq_ofNat_of_zero_le a0
  obtain ⟨C, rfl⟩ := Int.eq_ofNat_of_zero_le b0
  obtain ⟨h1, h2, h3, h4⟩ := hr
  have hA : A < 2 ^ m := nat_lt_pow (h3 ▸ a1)
  have hB : C < 2 ^ m := nat_lt_pow (h3 ▸ b1)
  have hp := Nat.pow_le_pow_right (show 0 < 2 by decide) h1
  have hC : (A ||| C) < 2 ^ m := Nat.or_lt_two_pow hA hB
  have e1 := ofInt_nat (Nat.lt_of_lt_of_le hA hp)
  have e2 := ofInt_nat (Nat.lt_of_lt_of_le hB hp)
  have hw : k.wrap ((A ||| C : Nat) : Int) = ((A ||| C : Nat) : Int) := wrap_in k (by omega) (by rw [h2, h3]; exact pow_ge hC)
  have e3 : (BitVec.ofInt k.bits (A : Int) ||| BitVec.ofInt k.bits (C : Int)).toNat = A ||| C := by simp only [BitVec.toNat_or, e1, e2]
  unfold Op.intBits bOr
  simp only [e3, hw, Int.toNat_natCast]
theorem run_xor {k : IntKind} {m : Nat} {hi a b : Int} (hr : m ≤ k.bits ∧ k.max = hi ∧ hi = 2 ^ m - 1 ∧ k.min ≤ 0) (a0 : 0 ≤ a) (a1 : a ≤ hi) (b0 : 0 ≤ b) (b1 : b ≤ hi) : Op.intBits .xor k a b = pure (.int k (bXor a b)) := by
  obtain ⟨A, rfl⟩ := Int.eq_ofNat_of_zero_le a0
  obtain ⟨C, rfl⟩ := Int.eq_ofNat_of_zero_le b0
  obtain ⟨h1, h2, h3, h4⟩ := hr
  have hA : A < 2 ^ m := nat_lt_pow (h3 ▸ a1)
  have hB : C < 2 ^ m := nat_lt_pow (h3 ▸ b1)
  have hp := Nat.pow_le_pow_right (show 0 < 2 by decide) h1
  have hC : (A ^^^ C) < 2 ^ m := Nat.xor_lt_two_pow hA hB
  have e1 := ofInt_nat (Nat.lt_of_lt_of_le hA hp)
  have e2 := ofInt_nat (Nat.lt_of_lt_of_le hB hp)
  have hw : k.wrap ((A ^^^ C : Nat) : Int) = ((A ^^^ C : Nat) : Int) := wrap_in k (by omega) (by rw [h2, h3]; exact pow_ge hC)
  have e3 : (BitVec.ofInt k.bits (A : Int) ^^^ BitVec.ofInt k.bits (C : Int)).toNat = A ^^^ C := by simp only [BitVec.toNat_xor, e1, e2]
  unfold Op.intBits bXor
  simp only [e3, hw, Int.toNat_natCast]
theorem bAnd_in {a b : Int} (a0 : 0 ≤ a) : 0 ≤ bAnd a b ∧ bAnd a b ≤ a := by
  obtain ⟨A, rfl⟩ := Int.eq_ofNat_of_zero_le a0
  unfold bAnd
  have := @Nat.and_le_left A b.toNat
  simp only [Int.toNat_natCast]
  omega
theorem bOr_in {a b : Int} (m : Nat) (a1 : a.toNat < 2 ^ m) (b1 : b.toNat < 2 ^ m) : 0 ≤ bOr a b ∧ bOr a b < 2 ^ m := by
  unfold bOr
  have := pow_ge (Nat.or_lt_two_pow a1 b1)
  omega
theorem bXor_in {a b : Int} (m : Nat) (a1 : a.toNat < 2 ^ m) (b1 : b.toNat < 2 ^ m) : 0 ≤ bXor a b ∧ bXor a b < 2 ^ m := by
  unfold bXor
  have := pow_ge (Nat.xor_lt_two_pow a1 b1)
  omega
theorem bOr32 {a b : Int} (a1 : a < 4294967296) (b1 : b < 4294967296) : 0 ≤ bOr a b ∧ bOr a b < 4294967296 := bOr_in 32 (by simp only [Nat.reducePow]; omega) (by simp only [Nat.reducePow]; omega)
theorem bXor32 {a b : Int} (a1 : a < 4294967296) (b1 : b < 4294967296) : 0 ≤ bXor a b ∧ bXor a b < 4294967296 := bXor_in 32 (by simp only [Nat.reducePow]; omega) (by simp only [Nat.reducePow]; omega)
section
variable {P : Program} {B : Nat} {lax : Bool} {ops : Array Oper} {Rs : Nat → Value → World → Prop} {K : St → World → Prop} {i : Nat} {rest : List Nat} {st : St} {w : World}
variable {d : Nat} {ty : TypeId} {pos : String} {aft : Array Edge} {g : Option (Nat × Bool)}
theorem a_and {xt yt : TypeId} {x y : Operand} {k : IntKind} {a b : Int} (m : Nat) (hi : Int) (hr : m ≤ k.bits ∧ k.max = hi ∧ hi = 2 ^ m - 1 ∧ k.min ≤ 0) (ho : ops[i]? = some ⟨some d, .binOp .and xt x y yt, ty, pos, aft, g⟩) (hg : gok ops st g = true) (hk : known st ⟨some d, .binOp .and xt x y yt, ty, pos, aft, g⟩ = true) (hx : st.ev x = .v (.int k a)) (hy : st.ev y = .v (.int k b)) (a0 : 0 ≤ a) (a1 : a ≤ hi) (b0 : 0 ≤ b) (b1 : b ≤ hi)
    (h : vOrd P B lax ops Rs K rest (st.put (some d) (.v (.int k (bAnd a b)))) w) : vOrd P B lax ops Rs K (i :: rest) st w := by
  refine s_val ho hg rfl hk (fun w => ?_) h
  have ex : st.rho x = .int k a := by rw [St.rho, hx]; rfl
  have ey : st.rho y = .int k b := by rw [St.rho, hy]; rfl
  have hb := run_and hr a0 a1 b0 b1
  simp [execOp, ex, ey, eqGuard, binOp, hb]
theorem a_or {xt yt : TypeId} {x y : Operand} {k : IntKind} {a b : Int} (m : Nat) (hi : Int) (hr : m ≤ k.bits ∧ k.max = hi ∧ hi = 2 ^ m - 1 ∧ k.min ≤ 0) (ho : ops[i]? = some ⟨some d, .binOp .or xt x y yt, ty, pos, aft, g⟩) (hg : gok ops st g = true) (hk : known st ⟨some d, .binOp .or xt x y yt, ty, pos, aft, g⟩ = true) (hx : st.ev x = .v (.int k a)) (hy : st.ev y = .v (.int k b)) (a0 : 0 ≤ a) (a1 : a ≤ hi) (b0 : 0 ≤ b) (b1 : b ≤ hi)
    (h : vOrd P B lax ops Rs K rest (st.put (some d) (.v (.int k (bOr a b)))) w) : vOrd P B lax ops Rs K (i :: rest) st w := by
  refine s_val ho hg rfl hk (fun w => ?_) h
  have ex : st.rho x = .int k a := by rw [St.rho, hx]; rfl
  have ey : st.rho y = .int k b := by rw [St.rho, hy]; rfl
  have hb := run_or hr a0 a1 b0 b1
  simp [execOp, ex, ey, eqGuard, binOp, hb]
theorem a_xor {xt yt : TypeId} {x y : Operand} {k : IntKind} {a b : Int} (m : Nat) (hi : Int) (hr : m ≤ k.bits ∧ k.max = hi ∧ hi = 2 ^ m - 1 ∧ k.min ≤ 0) (ho : ops[i]? = some ⟨some d, .binOp .xor xt x y yt, ty, pos, aft, g⟩) (hg : gok ops st g = true) (hk : known st ⟨some d, .binOp .xor xt x y yt, ty, pos, aft, g⟩ = true) (hx : st.ev x = .v (.int k a)) (hy : st.ev y = .v (.int k b)) (a0 : 0 ≤ a) (a1 : a ≤ hi) (b0 : 0 ≤ b) (b1 : b ≤ hi)
    (h : vOrd P B lax ops Rs K rest (st.put (some d) (.v (.int k (bXor a b)))) w) : vOrd P B lax ops Rs K (i :: rest) st w := by
  refine s_val ho hg rfl hk (fun w => ?_) h
  have ex : st.rho x = .int k a := by rw [St.rho, hx]; rfl
  have ey : st.rho y = .int k b := by rw [St.rho, hy]; rfl
  have hb := run_xor hr a0 a1 b0 b1
  simp [execOp, ex, ey, eqGuard, binOp, hb]
theorem a_wshl {xt yt : TypeId} {x y : Operand} {k k' : IntKind} {a s : Int} (p : Int) (ho : ops[i]? = some ⟨some d, .binOp .shl xt x y yt, ty, pos, aft, g⟩) (hg : gok ops st g = true) (hk : known st ⟨some d, .binOp .shl xt x y yt, ty, pos, aft, g⟩ = true) (hx : st.ev x = .v (.int k a)) (hy : st.ev y = .v (.int k' s)) (s0 : 0 ≤ s) (hp : (2 : Int) ^ min s.toNat k.bits = p)
    (h : vOrd P B lax ops Rs K rest (st.put (some d) (.v (.int k (k.wrap (a * p))))) w) : vOrd P B lax ops Rs K (i :: rest) st w := by
  refine s_val ho hg rfl hk (fun w => ?_) h
  have ex : st.rho x = .int k a := by rw [St.rho, hx]; rfl
  have ey : st.rho y = .int k' s := by rw [St.rho, hy]; rfl
  simp [execOp, ex, ey, eqGuard, binOp, shift_shl_any k k' a s s0, hp]
theorem a_shl {xt yt : TypeId} {x y : Operand} {k k' : IntKind} {a s : Int} (p lo hi : Int) (hr : k.min = lo ∧ k.max = hi) (ho : ops[i]? = some ⟨some d, .binOp .shl xt x y yt, ty, pos, aft, g⟩) (hg : gok ops st g = true) (hk : known st ⟨some d, .binOp .shl xt x y yt, ty, pos, aft, g⟩ = true) (hx : st.ev x = .v (.int k a)) (hy : st.ev y = .v (.int k' s)) (s0 : 0 ≤ s) (hp : (2 : Int) ^ min s.toNat k.bits = p) (h0 : lo ≤ a * p) (h1 : a * p ≤ hi)
    (h : vOrd P B lax ops Rs K rest (st.put (some d) (.v (.int k (a * p)))) w) : vOrd P B lax ops Rs K (i :: rest) st w := by
  refine a_wshl p ho hg hk hx hy s0 hp ?_
  rw [wrap_in k (by omega) (by omega)]
  exact h
theorem a_shr {xt yt : TypeId} {x y : Operand} {k k' : IntKind} {a s : Int} (p : Int) (ho : ops[i]? = some ⟨some d, .binOp .shr xt x y yt, ty, pos, aft, g⟩) (hg : gok ops st g = true) (hk : known st ⟨some d, .binOp .shr xt x y yt, ty, pos, aft, g⟩ = true) (hx : st.ev x = .v (.int k a)) (hy : st.ev y = .v (.int k' s)) (s0 : 0 ≤ s) (hp : (2 : Int) ^ min s.toNat k.bits = p)
    (h : vOrd P B lax ops Rs K rest (st.put (some d) (.v (.int k (a / p)))) w) : vOrd P B lax ops Rs K (i :: rest) st w := by
  refine s_val ho hg rfl hk (fun w => ?_) h
  have ex : st.rho x = .int k a := by rw [St.rho, hx]; rfl
  have ey : st.rho y = .int k' s := by rw [St.rho, hy]; rfl
  simp [execOp, ex, ey, eqGuard, binOp, shift_shr_any k k' a s s0, hp]
/-- The address of an element of an array of the call's own. -/
theorem s_idxO {t e : TypeId} {x ix : Operand} {q b off len sz : Nat} {k : IntKind} {j : Int} (o : Nat) (ho : ops[i]? = some ⟨some d, .indexAddr t x ix, ty, pos, aft, g⟩) (hg : gok ops st g = true) (hk : known st ⟨some d, .indexAddr t x ix, ty, pos, aft, g⟩ = true)
    (hx : st.ev x = .p q b off) (hi : st.ev ix = .v (.int k j)) (hu : P.underlying t = some (.array len e)) (hs : (P.info? e).map (·.size) = some sz) (h0 : 0 ≤ j) (h1 : j < len) (he : off + j.toNat * sz = o)
    (h : vOrd P B lax ops Rs K rest (st.put (some d) (.p q b o)) w) : vOrd P B lax ops Rs K (i :: rest) st w := by
  subst he
  refine vOrd_op ho hg ⟨hk, rfl, .pointer (some ⟨b, off + j.toNat * sz, none⟩), fun w => ?_, ?_⟩
  · have ex : st.rho x = .pointer (some ⟨b, off, none⟩) := by rw [St.rho, hx]; rfl
    have ey : st.rho ix = .int k j := by rw [St.rho, hi]; rfl
    cases hp : P.info? e with
    | none => rw [hp] at hs; cases hs
    | some ii =>
      rw [hp] at hs
      simp only [Option.map_some, Option.some.injEq] at hs
      simp [execOp, ex, ey, Instr.indexAt, Instr.sureAddr, asIntOf, run_underlying hu w, h0, h1, sizeOf, typeInfo, hp, hs, addr_add]
  · simp only [resSV, hx]
    exact h
/-- A load from a variable of the call's own, at any place. -/
theorem s_loadS {t : TypeId} {x : Operand} {q b off : Nat} {cs : List Value} {v : Value} (ho : ops[i]? = some ⟨some d, .load t x, ty, pos, aft, g⟩) (hg : gok ops st g = true) (hk : known st ⟨some d, .load t x, ty, pos, aft, g⟩ = true) (hx : st.ev x = .p q b off) (hm : st.mem q = some (b, cs)) (hr : readOf P t cs off = some v)
    (h : vOrd P B lax ops Rs K rest (st.put (some d) (.v v)) w) : vOrd P B lax ops Rs K (i :: rest) st w := by
  refine vOrd_op ho hg ⟨hk, rfl, ?_⟩
  simp only [hx]
  exact ⟨cs, v, hm, hr, h⟩
/-- A store into a variable of the call's own, at any place. -/
theorem s_storeS {t : TypeId} {x y : Operand} {q b off : Nat} {cs cs' : List Value} {v : Value} (ho : ops[i]? = some ⟨none, .store t x y, ty, pos, aft, g⟩) (hg : gok ops st g = true) (hk : known st ⟨none, .store t x y, ty, pos, aft, g⟩ = true) (hx : st.ev x = .p q b off) (hy : st.ev y = .v v) (hm : st.mem q = some (b, cs)) (hw : writeOf P t cs off v = some cs')
    (h : ∀ w', Stored b w w' → Var w b cs → vOrd P B lax ops Rs K rest (st.set q b cs') w') : vOrd P B lax ops Rs K (i :: rest) st w := by
  have ey : st.rho y = v := by rw [St.rho, hy]; rfl
  exact vOrd_op ho hg ⟨hk, rfl, q, b, off, cs, cs', by rw [St.rho, hx]; rfl, hm, by rw [ey]; exact hw, rfl, h⟩
/-- A store into a row that is the call's own (adopted), at any place. -/
theorem s_storeR {t : TypeId} {x y : Operand} {b off : Nat} {cs cs' : List Value} {v : Value} (q : Nat) (ho : ops[i]? = some ⟨none, .store t x y, ty, pos, aft, g⟩) (hg : gok ops st g = true) (hk : known st ⟨none, .store t x y, ty, pos, aft, g⟩ = true) (hx : st.ev x = .v (.pointer (some ⟨b, off, none⟩))) (hy : st.ev y = .v v) (hm : st.mem q = some (b, cs)) (hw : writeOf P t cs off v = some cs')
    (h : ∀ w', Stored b w w' → Var w b cs → vOrd P B lax ops Rs K rest (st.set q b cs') w') : vOrd P B lax ops Rs K (i :: rest) st w := by
  have ey : st.rho y = v := by rw [St.rho, hy]; rfl
  exact vOrd_op ho hg ⟨hk, rfl, q, b, off, cs, cs', by rw [St.rho, hx]; rfl, hm, by rw [ey]; exact hw, rfl, h⟩
end
section
variable {P : Program} {n : Nat} {hol : List Nat} {w0 w : World} {st : St} {K : Exit → St → World → Prop} {c : Code}
/-- A row that the call has laid is taken as a variable of its own. -/
theorem Wp.adopt (h : Nat) {b : Nat} {cs : List Value} (hv : Var w b cs) (hb : w0.heap.size ≤ b) (hm : st.mem h = none) (hne : ∀ g d ds, st.mem g = some (d, ds) → d ≠ b) (k : Wp P n hol w0 c (st.set h b cs) w K) : Wp P n hol w0 c st w K := by
  intro a H
  have key : ∀ g d ds, (st.set h b cs).mem g = some (d, ds) → (g = h ∧ d = b ∧ ds = cs) ∨ (g ≠ h ∧ st.mem g = some (d, ds)) := by
    intro g d ds e
    by_cases q : g = h
    · subst q
      simp only [St.set, upd_same, Option.some.injEq, Prod.mk.injEq] at e
      exact .inl ⟨rfl, e.1.symm, e.2.symm⟩
    · simp only [St.set, upd_ne _ _ q] at e
      exact .inr ⟨q, e⟩
  refine k a ⟨H.size, H.defers, H.env, fun g d ds e => ?_, fun g d ds e => ?_, fun g d ds g' d' ds' e e' hn => ?_, H.old⟩
  · rcases key g d ds e with ⟨rfl, rfl, rfl⟩ | ⟨_, q⟩
    · exact hv
    · exact H.mem g d ds q
  · rcases key g d ds e with ⟨rfl, rfl, rfl⟩ | ⟨_, q⟩
    · exact .inl hb
    · exact H.own g d ds q
  · rcases key g d ds e with ⟨rfl, rfl, rfl⟩ | ⟨_, q⟩
    · rcases key g' d' ds' e' with ⟨rfl, rfl, rfl⟩ | ⟨_, q'⟩
      · exact absurd rfl hn
      · exact fun z => hne g' d' ds' q' z.symm
    · rcases key g' d' ds' e' with ⟨rfl, rfl, rfl⟩ | ⟨_, q'⟩
      · exact hne g d ds q
      · exact H.inj g d ds g' d' ds' q q' hn
/-- What lies in a variable of the call's own. -/
theorem Wp.var {h b : Nat} {cs : List Value} (hm : st.mem h = some (b, cs)) (k : Var w b cs → Wp P n hol w0 c st w K) : Wp P n hol w0 c st w K := fun a H => k (H.mem h b cs hm) a H
end
/-! ### Blocks of the call's own variables -/
def AllMem (p : Nat → Prop) (st : St) : Prop := ∀ h b cs, st.mem h = some (b, cs) → p b
theorem AllMem.put {p : Nat → Prop} {st : St} {d : Option Nat} {x : SV} (h : AllMem p st) : AllMem p (st.put d x) := fun g b cs e => h g b cs (by rw [put_mem] at e; exact e)
theorem AllMem.set {p : Nat → Prop} {st : St} {d b : Nat} {cs : List Value} (h : AllMem p st) (hb : p b) : AllMem p (st.set d b cs) := fun g c ds e => by
  by_cases q : g = d
  · subst q; simp only [St.set, upd_same, Option.some.injEq, Prod.mk.injEq] at e; rw [← e.1]; exact hb
  · simp only [St.set, upd_ne _ _ q] at e; exact h g c ds e
theorem AllMem.new {p : Nat → Prop} {st : St} {d b : Nat} {cs : List Value} (h : AllMem p st) (hb : p b) : AllMem p (st.new d b cs) := fun g c ds e => by
  by_cases q : g = d
  · subst q; simp only [St.new, upd_same, Option.some.injEq, Prod.mk.injEq] at e; rw [← e.1]; exact hb
  · simp only [St.new, upd_ne _ _ q] at e; exact h g c ds e
def AllL (p : Nat → Prop) : List (Nat × Nat × List Value) → Prop
  | [] => True
  | x :: l => p x.2.1 ∧ AllL p l
theorem AllL.mem {p : Nat → Prop} : ∀ {l : List (Nat × Nat × List Value)}, AllL p l → ∀ x ∈ l, p x.2.1
  | [], _, x, h => by cases h
  | y :: l, hl, x, h => by
    rcases List.mem_cons.1 h with rfl | h
    · exact hl.1
    · exact AllL.mem hl.2 x h
theorem AllMem.of {p : Nat → Prop} {env : List (Nat × SV)} {mem : List (Nat × Nat × List Value)} (h : AllL p mem) : AllMem p (St.of env mem) := fun g b cs e => h.mem (g, b, cs) (lookup_mem e)
theorem AllMem.args {p : Nat → Prop} {l : List Value} : AllMem p (St.args l) := fun _ _ _ e => by cases e

/-! ### Bytes that are handed in -/
def BytesAt (w : World) (v : Value) (l : List UInt8) : Prop :=
  (∃ b off c, v = .slice (some ⟨b, off, none⟩) l.length c ∧ l.length ≤ c ∧ ∀ j x, l[j]? = some x → w.cell? ⟨b, off + j, none⟩ = some (.int .u8 x.toNat)) ∨ (v = .slice none 0 0 ∧ l = [])
theorem BytesAt.later {w w' : World} {v : Value} {l : List UInt8} (h : BytesAt w v l) (k : Later w w') : BytesAt w' v l := by
  rcases h with ⟨b, off, c, h1, h3, h2⟩ | h
  · exact .inl ⟨b, off, c, h1, h3, fun j x hj => (World.cell?_of_block (k.block b (World.block_lt_of_cell? w _ (h2 j x hj)))).trans (h2 j x hj)⟩
  · exact .inr h
theorem BytesAt.slice {w : World} {v : Value} {l : List UInt8} (h : BytesAt w v l) : ∃ a c, v = .slice a l.length c := by
  rcases h with ⟨b, off, c, h1, _, _⟩ | ⟨h1, h2⟩
  · exact ⟨_, _, h1⟩
  · subst h2; exact ⟨_, _, h1⟩
theorem bytes_cell {l : List UInt8} {j : Nat} {u : Value} (h : (bytesV l)[j]? = some u) : ∃ x, l[j]? = some x ∧ u = .int .u8 x.toNat := by
  unfold bytesV at h
  rw [List.getElem?_map, Option.map_eq_some_iff] at h
  obtain ⟨x, h1, h2⟩ := h
  exact ⟨x, h1, h2.symm⟩
theorem bytes_one (l : List UInt8) : ∀ u ∈ bytesV l, u.oneCell' = true := by
  intro u hu
  unfold bytesV at hu
  rw [List.mem_map] at hu
  obtain ⟨x, _, rfl⟩ := hu
  rfl
theorem own_slice {w : World} {base : Nat} {e : TypeId} {sz : Nat} {v : Value} {n : Nat} {xs : List Value} (h : w.ownsRow base e sz v n xs) : ∃ a c, v = .slice a n c := by
  rcases h.2 with ⟨h1, h2⟩ | ⟨g, cap, cur, h1, _⟩
  · subst h2; exact ⟨_, _, h1⟩
  · exact ⟨_, _, h1⟩
theorem own_row {w : World} {base : Nat} {e : TypeId} {v : Value} {n : Nat} {xs : List Value} (h : w.ownsRow base e 1 v n xs) (hn : 0 < n) : ∃ g cap cs, v = .slice (some ⟨g, 0, none⟩) n cap ∧ base ≤ g ∧ Var w g cs ∧ cs.take n = xs := by
  rcases h.2 with ⟨h1, h2⟩ | ⟨g, cap, cur, h1, h2, h3, h4, h5, h6, h7⟩
  · omega
  · exact ⟨g, cap, cur.toList, h1, h2, ⟨e, by simpa using h3⟩, by simpa using h7⟩
section
variable {P : Program} {B : Nat} {lax : Bool} {ops : Array Oper} {Rs : Nat → Value → World → Prop} {K : St → World → Prop} {i : Nat} {rest : List Nat} {st : St} {w : World}
variable {d : Nat} {ty : TypeId} {pos : String} {aft : Array Edge} {g : Option (Nat × Bool)}
/-- append to a slice of the call's own of bytes that are handed in. -/
theorem x_appendB {t e : TypeId} {ii : TypeInfo} {z : Value} {s x : Operand} {v u : Value} {base n : Nat} {xs : List Value} {l : List UInt8} (ho : ops[i]? = some ⟨some d, .call ⟨.builtin .append, #[s, x], #[t, t]⟩, ty, pos, aft, g⟩) (hg : gok ops st g = true) (hk : known st ⟨some d, .call ⟨.builtin .append, #[s, x], #[t, t]⟩, ty, pos, aft, g⟩ = true)
    (hs : st.ev s = .v v) (hx : st.ev x = .v u) (ht : P.underlying t = some (.slice e)) (hi : P.info? e = some ii) (hz : ii.zero = some z) (hsz : ii.size = 1) (hbs : ii.bytes = 1) (hzs : z.cells.size = 1)
    (hown : w.ownsRow base e 1 v n xs) (hb : BytesAt w u l) (hby : n + l.length ≤ 140737488355328) (hbase : base ≤ w.heap.size) (hB : B ≤ base) (ha : AllMem (· < base) st)
    (h : ∀ v' w', w'.ownsRow base e 1 v' (n + l.length) (xs ++ bytesV l) → w.grownBy w' v.ownBlock → vOrd P B true ops Rs K rest (st.put (some d) (.v v')) w') : vOrd P B true ops Rs K (i :: rest) st w := by
  have es : st.rho s = v := by rw [St.rho, hs]; rfl
  have ex : st.rho x = u := by rw [St.rho, hx]; rfl
  have ha' : ∀ h b cs, st.mem h = some (b, cs) → v.ownBlock ≠ some b := fun h b cs e q => by
    have h1 := ha h b cs e
    have h2 := (hown.lt b q).1
    omega
  rcases hb with ⟨b, off, c, rfl, _, hc⟩ | ⟨rfl, rfl⟩
  · obtain ⟨v', w', hr, ho', hgr, _⟩ := run_append_own (P := P) w base t ty e ii z 1 1 ht hi hz hsz hbs hzs (by decide) v n xs hown ⟨b, off, none⟩ l.length c (bytesV l) (by rw [bytesV_len, Nat.mul_one]) (fun j y hj => by
      obtain ⟨q, h1, rfl⟩ := bytes_cell hj
      rw [addr_add]; exact hc j q h1) (bytes_one l) (by simp only [maxLen]; omega) (by omega) hbase
    refine ⟨_, ho, .inr ⟨rfl, hg, hk, rfl, .inr (.inr (.inl (fun _ => ⟨v', w', v.ownBlock, ?_, hgr, fun k e => Nat.le_trans hB (hown.lt k e).1, ha', h v' w' ho' hgr⟩)))⟩⟩
    simp [execOp, es, ex, resolve, invoke, builtin, hr]
  · have hr := run_append_owned_none (P := P) (w := w) base t ty e ii 1 ht hi v n xs hown
    refine ⟨_, ho, .inr ⟨rfl, hg, hk, rfl, .inr (.inr (.inl (fun _ => ⟨v, w, v.ownBlock, ?_, ⟨rfl, rfl, rfl, Nat.le_refl _, fun _ _ _ => rfl⟩, fun k e => Nat.le_trans hB (hown.lt k e).1, ha', h v w (by simpa [bytesV] using hown) ⟨rfl, rfl, rfl, Nat.le_refl _, fun _ _ _ => rfl⟩⟩)))⟩⟩
    simp [execOp, es, ex, resolve, invoke, builtin, hr]
/-- The bytes of a text's constant: the row is marked, and reads as it did. -/
theorem x_bytesConst {t e : TypeId} {x : Operand} {c n m : Nat} {cs : List Value} (ho : ops[i]? = some ⟨some d, .convert t t x, ty, pos, aft, g⟩) (hg : gok ops st g = true) (hk : known st ⟨some d, .convert t t x, ty, pos, aft, g⟩ = true) (hx : st.ev x = .v (.slice (some ⟨c, 0, none⟩) n m)) (ht : P.underlying t = some (.slice e)) (he : P.underlying e = some (.int .u8)) (hrow : RowIs w c e cs) (hB : B ≤ c) (ha : AllMem (· ≠ c) st)
    (h : ∀ w', w.grownBy w' (some c) → (∀ j v, cs[j]? = some v → w'.cell? ⟨c, j, none⟩ = some v) → vOrd P B true ops Rs K rest (st.put (some d) (.v (.slice (some ⟨c, 0, none⟩) n m))) w') : vOrd P B true ops Rs K (i :: rest) st w := by
  have ex : st.rho x = .slice (some ⟨c, 0, none⟩) n m := by rw [St.rho, hx]; rfl
  have hb : w.heap[c]? = some (.cells cs.toArray e (0, 0)) := hrow
  have hsh : w.shape? c = some (e, cs.length) := by unfold World.shape?; rw [hb]; simp
  have hr : (convert t t (.slice (some ⟨c, 0, none⟩) n m)).run P w = .ok (.slice (some ⟨c, 0, none⟩) n m) (w.freeze ⟨c, cs.length, none⟩ 1) := by
    simp [convert, run_underlying ht, run_underlying he, markStringish, hsh]
  have hlt : c < w.heap.size := (Array.getElem?_eq_some_iff.1 hb).1
  have hne : ∀ k, k ≠ c → (w.freeze ⟨c, cs.length, none⟩ 1).heap[k]? = w.heap[k]? := fun k hk => by
    simp [World.freeze, Array.getElem?_modify, Ne.symm hk]
  have hgr : w.grownBy (w.freeze ⟨c, cs.length, none⟩ 1) (some c) := ⟨by simp [World.freeze], by simp [World.freeze], by simp [World.freeze], by simp [World.freeze], fun k _ hk => hne k (fun e => hk (by rw [e]))⟩
  have hcell : ∀ j v, cs[j]? = some v → (w.freeze ⟨c, cs.length, none⟩ 1).cell? ⟨c, j, none⟩ = some v := fun j v hj => by
    have : (w.freeze ⟨c, cs.length, none⟩ 1).cell? ⟨c, j, none⟩ = w.cell? ⟨c, j, none⟩ := by
      simp only [World.cell?, World.freeze]
      simp [Array.getElem?_modify, hb]
    rw [this, cell_of_row w c j cs.toArray e (0, 0) hb]
    simpa using hj
  refine ⟨_, ho, .inr ⟨rfl, hg, hk, rfl, .inr (.inr (.inl (fun _ => ⟨_, _, some c, ?_, hgr, fun k e => by rw [Option.some.injEq] at e; omega, fun q b cs' e q' => ha q b cs' e (by simpa using q'.symm), h _ hgr hcell⟩)))⟩⟩
  simp [execOp, ex, hr]
/-- A slice's beginning, its rest, a part of it. -/
theorem x_to {t e : TypeId} {x y : Operand} {b off n c sz : Nat} {k : IntKind} {j : Int} (ho : ops[i]? = some ⟨some d, .slice t x none (some y) none, ty, pos, aft, g⟩) (hg : gok ops st g = true) (hk : known st ⟨some d, .slice t x none (some y) none, ty, pos, aft, g⟩ = true) (hx : st.ev x = .v (.slice (some ⟨b, off, none⟩) n c)) (hy : st.ev y = .v (.int k j)) (hu : P.underlying t = some (.slice e)) (hs : (P.info? e).map (·.size) = some sz) (h0 : 0 ≤ j) (h1 : j ≤ c)
    (h : vOrd P B lax ops Rs K rest (st.put (some d) (.v (.slice (some ⟨b, off, none⟩) j.toNat c))) w) : vOrd P B lax ops Rs K (i :: rest) st w := by
  refine s_val ho hg rfl hk (fun w => ?_) h
  have ex : st.rho x = .slice (some ⟨b, off, none⟩) n c := by rw [St.rho, hx]; rfl
  have ey : st.rho y = .int k j := by rw [St.rho, hy]; rfl
  cases hp : P.info? e with
  | none => rw [hp] at hs; cases hs
  | some ii => simp [execOp, ex, ey, Instr.sliceAt, Instr.slice, Instr.sliceBounds, run_sliceBound w k j c _ h0 h1, run_underlying hu w, sizeOf, typeInfo, hp, addr_add]
theorem x_from {t e : TypeId} {x y : Operand} {b off n c sz : Nat} {k : IntKind} {j : Int} (ho : ops[i]? = some ⟨some d, .slice t x (some y) none none, ty, pos, aft, g⟩) (hg : gok ops st g = true) (hk : known st ⟨some d, .slice t x (some y) none none, ty, pos, aft, g⟩ = true) (hx : st.ev x = .v (.slice (some ⟨b, off, none⟩) n c)) (hy : st.ev y = .v (.int k j)) (hu : P.underlying t = some (.slice e)) (hs : (P.info? e).map (·.size) = some sz) (h0 : 0 ≤ j) (h1 : j ≤ n) (h2 : n ≤ c)
    (h : ∀ off', (j < n → off' = off + j.toNat * sz) → vOrd P B lax ops Rs K rest (st.put (some d) (.v (.slice (some ⟨b, off', none⟩) (n - j.toNat) (c - j.toNat)))) w) : vOrd P B lax ops Rs K (i :: rest) st w := by
  have ex : st.rho x = .slice (some ⟨b, off, none⟩) n c := by rw [St.rho, hx]; rfl
  have ey : st.rho y = .int k j := by rw [St.rho, hy]; rfl
  cases hp : P.info? e with
  | none => rw [hp] at hs; cases hs
  | some ii =>
    rw [hp] at hs
    simp only [Option.map_some, Option.some.injEq] at hs
    by_cases q : c = j.toNat
    · refine s_val ho hg rfl hk (fun w => ?_) (h off (fun q' => by omega))
      simp [execOp, ex, ey, Instr.sliceAt, Instr.slice, Instr.sliceBounds, run_sliceBound w k j n _ h0 h1, run_underlying hu w, sizeOf, typeInfo, hp, q]
    · refine s_val ho hg rfl hk (fun w => ?_) (h (off + j.toNat * sz) (fun _ => rfl))
      simp [execOp, ex, ey, Instr.sliceAt, Instr.slice, Instr.sliceBounds, run_sliceBound w k j n _ h0 h1, run_underlying hu w, sizeOf, typeInfo, hp, q, addr_add, hs]
theorem x_part {t e : TypeId} {x y z : Operand} {b off n c sz : Nat} {k k' : IntKind} {j j' : Int} (ho : ops[i]? = some ⟨some d, .slice t x (some y) (some z) none, ty, pos, aft, g⟩) (hg : gok ops st g = true) (hk : known st ⟨some d, .slice t x (some y) (some z) none, ty, pos, aft, g⟩ = true) (hx : st.ev x = .v (.slice (some ⟨b, off, none⟩) n c)) (hy : st.ev y = .v (.int k j)) (hz : st.ev z = .v (.int k' j')) (hu : P.underlying t = some (.slice e)) (hs : (P.info? e).map (·.size) = some sz) (h0 : 0 ≤ j) (h1 : j ≤ j') (h2 : j' ≤ c)
    (h : ∀ off', (j < j' → off' = off + j.toNat * sz) → vOrd P B lax ops Rs K rest (st.put (some d) (.v (.slice (some ⟨b, off', none⟩) (j'.toNat - j.toNat) (c - j.toNat)))) w) : vOrd P B lax ops Rs K (i :: rest) st w := by
  have ex : st.rho x = .slice (some ⟨b, off, none⟩) n c := by rw [St.rho, hx]; rfl
  have ey : st.rho y = .int k j := by rw [St.rho, hy]; rfl
  have ez : st.rho z = .int k' j' := by rw [St.rho, hz]; rfl
  have e1 : j ≤ (j'.toNat : Int) := by omega
  cases hp : P.info? e with
  | none => rw [hp] at hs; cases hs
  | some ii =>
    rw [hp] at hs
    simp only [Option.map_some, Option.some.injEq] at hs
    by_cases q : c = j.toNat
    · subst q
      refine s_val ho hg rfl hk (fun w => ?_) (h off (fun q' => by omega))
      simp [execOp, ex, ey, ez, Instr.sliceAt, Instr.slice, Instr.sliceBounds, run_sliceBound w k' j' j.toNat _ (by omega) h2, run_sliceBound w k j j'.toNat _ h0 e1, run_underlying hu w, sizeOf, typeInfo, hp]
    · refine s_val ho hg rfl hk (fun w => ?_) (h (off + j.toNat * sz) (fun _ => rfl))
      simp [execOp, ex, ey, ez, Instr.sliceAt, Instr.slice, Instr.sliceBounds, run_sliceBound w k' j' c _ (by omega) h2, run_sliceBound w k j j'.toNat _ h0 e1, run_underlying hu w, sizeOf, typeInfo, hp, q, addr_add, hs]
end
/-- '==' of an array of numbers with itself. -/
theorem run_eql_ints {P : Program} {t e : TypeId} {len d : Nat} {k : IntKind} {ii : TypeInfo} {xs : Array Value} (ht : P.underlying t = some (.array len e)) (he : P.underlying e = some (.int k)) (hi : P.info? e = some ii) (hs : ii.size = 1)
    (hx : ∀ i, i < len → ∃ n, xs[i]? = some (.int k n)) (w : World) : (Op.equalIn (d + 1 + 1) t (.agg xs) (.agg xs)).run P w = .ok true w := by
  obtain ⟨D, hD⟩ : ∃ D, d + 1 = D := ⟨_, rfl⟩
  rw [hD]
  have hel : ∀ n w, (Op.equalIn D e (.int k n) (.int k n)).run P w = .ok true w := by
    subst hD; intro n w; rw [run_equalIn_int w d e k k n n he]; simp
  have hpart : ∀ i, i < len → ∃ n, ∀ w, (part e xs (i * 1)).run P w = .ok (.int k n) w := fun i h => by
    obtain ⟨n, hn⟩ := hx i h
    exact ⟨n, fun w => by simp [part, isAgg, run_underlying he, hn]⟩
  have key : ∀ (L : List Nat), (∀ i ∈ L, i < len) → ∀ w, (forIn L ((none : Option Bool), ()) (fun i (_ : Option Bool × Unit) => do
      if (!(← Op.equalIn D e (← part e xs (i * 1)) (← part e xs (i * 1)))) = true then pure (ForInStep.done (some false, ())) else pure (ForInStep.yield (none, ()))) : Sem (Option Bool × Unit)).run P w = .ok (none, ()) w := by
    intro L
    induction L with
    | nil => intro _ w; simp
    | cons i L ih =>
      intro h w
      obtain ⟨n, hn⟩ := hpart i (h i (by simp))
      simp only [List.forIn_cons, Sem.run_bind, hn, Result.andThen_ok, hel, Bool.not_true, Bool.false_eq_true, if_false, Sem.run_pure]
      exact ih (fun j hj => h j (by simp [hj])) w
  simp only [Op.equalIn, Sem.run_bind, run_underlying ht, Result.andThen_ok]
  have hsz : (sizeOf e).run P w = .ok 1 w := by simp [sizeOf, typeInfo, hi, hs]
  rw [hsz]
  simp only [Result.andThen_ok, Std.Legacy.Range.forIn_eq_forIn_range', Std.Legacy.Range.size]
  have := key (List.range' 0 ((len - 0 + 1 - 1) / 1)) (fun i hi => by simp at hi; omega) w
  rw [this]
  simp
end Go.Proofs.Ytlpenfganhaclaa
