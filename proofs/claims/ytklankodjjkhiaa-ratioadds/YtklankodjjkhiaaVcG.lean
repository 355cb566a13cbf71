/-
  The small logic: the steps that a walk takes, an operation each. No conditions.
-/
import Derived.Test.YtklankodjjkhiaaVcF
namespace Go.Proofs.Ytklankodjjkhiaa
open Go.RowKit

section
variable {P : Program} {B : Nat} {lax : Bool} {ops : Array Oper} {Rs : Nat → Value → World → Prop} {K : St → World → Prop} {i : Nat} {rest : List Nat} {st : St} {w : World}
variable {d : Nat} {ty : TypeId} {pos : String} {aft : Array Edge} {g : Option (Nat × Bool)}
/-- The list itself, laid out. -/
def forceL : List Value → Option (List Value)
  | [] => some []
  | a :: r => match forceL r with | some l => some (a :: l) | none => none
theorem forceL_eq : ∀ {l l' : List Value}, forceL l = some l' → l = l'
  | [], _, h => by simp only [forceL, Option.some.injEq] at h; exact h
  | a :: r, l', h => by
    unfold forceL at h
    split at h
    · rename_i l hl
      rw [Option.some.injEq] at h
      rw [← h, forceL_eq hl]
    · cases h
def takeL : Nat → List Value → Option (List Value)
  | 0, _ => some []
  | _ + 1, [] => none
  | n + 1, a :: r => match takeL n r with | some l => some (a :: l) | none => none
theorem takeL_eq : ∀ {n : Nat} {l l' : List Value}, takeL n l = some l' → n ≤ l.length ∧ l.take n = l'
  | 0, _, _, h => by simp only [takeL, Option.some.injEq] at h; subst h; simp
  | _ + 1, [], _, h => by cases h
  | n + 1, a :: r, l', h => by
    unfold takeL at h
    split at h
    · rename_i l hl
      rw [Option.some.injEq] at h
      have := takeL_eq hl
      subst h
      rw [List.length_cons, List.take_succ_cons, this.2]
      exact ⟨by omega, rfl⟩
    · cases h
def nthL : List Value → Nat → Option Value
  | a :: _, 0 => some a
  | _ :: r, k + 1 => nthL r k
  | [], _ => none
theorem nthL_eq : ∀ (l : List Value) (k : Nat), nthL l k = l[k]?
  | [], _ => by simp [nthL]
  | _ :: _, 0 => by simp [nthL]
  | _ :: r, k + 1 => by simp [nthL, nthL_eq r k]
/-- What a variable reads, laid out. -/
def readL (P : Program) (t : TypeId) (cs : List Value) (off : Nat) : Option Value :=
  match isAggT P t with
  | some true =>
    match P.info? t with
    | some i => match takeL i.size (cs.drop off) with | some l => some (.agg l.toArray) | none => none
    | none => none
  | some false => nthL cs off
  | none => none
theorem readL_eq {P : Program} {t : TypeId} {cs : List Value} {off : Nat} {v : Value} (ho : off ≤ cs.length) (h : readL P t cs off = some v) : readOf P t cs off = some v := by
  unfold readL at h
  unfold readOf
  cases ha : isAggT P t with
  | none => simp only [ha] at h; cases h
  | some x =>
    cases x with
    | false => simp only [ha] at h ⊢; rw [nthL_eq] at h; exact h
    | true =>
      simp only [ha] at h ⊢
      cases hi : P.info? t with
      | none => simp only [hi] at h; cases h
      | some i =>
        simp only [hi] at h ⊢
        split at h
        · rename_i l hl
          rw [Option.some.injEq] at h
          have := takeL_eq hl
          rw [List.length_drop] at this
          rw [if_pos (by omega), this.2, h]
        · cases h
def writeL (P : Program) (t : TypeId) (cs : List Value) (off : Nat) (v : Value) : Option (List Value) :=
  match writeOf P t cs off v with
  | some l => forceL l
  | none => none
theorem writeL_eq {P : Program} {t : TypeId} {cs cs' : List Value} {off : Nat} {v : Value} (h : writeL P t cs off v = some cs') : writeOf P t cs off v = some cs' := by
  unfold writeL at h
  split at h
  · rename_i l hl
    rw [hl, forceL_eq h]
  · cases h
theorem vOrd_nil (h : K st w) : vOrd P B lax ops Rs K [] st w := h
theorem vOrd_op {o : Oper} (ho : ops[i]? = some o) (hg : gok ops st o.guard = true) (h : vOp P (Rs i) o st w (vOrd P B lax ops Rs K rest)) :
    vOrd P B lax ops Rs K (i :: rest) st w := by
  refine ⟨o, ho, .inl ?_⟩
  unfold vG
  cases hgd : o.guard with
  | none => exact h
  | some gt =>
    obtain ⟨j, t⟩ := gt
    rw [hgd] at hg
    simp only [gok] at hg
    split at hg
    · rename_i d hj
      split at hg
      · rename_i c hc
        have : c = t := by simpa using hg
        exact ⟨d, .bool c, hj, hc, fun _ => h, fun q => absurd (by rw [this]) q⟩
      · cases hg
    · cases hg
/-- An operation whose guard says no. -/
theorem s_skip {o : Oper} {dd : Option Nat} (ho : ops[i]? = some o) (hd : o.dst = dd) (hg : gno ops st o.guard = true) (h : vOrd P B lax ops Rs K rest (st.put dd (.v undef)) w) : vOrd P B lax ops Rs K (i :: rest) st w := by
  subst hd
  refine ⟨o, ho, .inl ?_⟩
  unfold vG
  cases hgd : o.guard with
  | none => rw [hgd] at hg; cases hg
  | some gt =>
    obtain ⟨j, t⟩ := gt
    rw [hgd] at hg
    simp only [gno] at hg
    split at hg
    · rename_i d hj
      split at hg
      · rename_i c hc
        have : c ≠ t := by simpa using hg
        exact ⟨d, .bool c, hj, hc, fun q => absurd (by simpa using q) this, fun _ => h⟩
      · rename_i vs hc
        exact ⟨d, .tuple vs, hj, hc, fun q => (by cases q), fun _ => h⟩
      · cases hg
    · cases hg
/-- What a slot holds, laid out. -/
def evF (st : St) (x : Operand) : Option SV :=
  match st.ev x with
  | .v v => some (.v v)
  | .p h b off => some (.p h b off)
theorem evF_eq {st : St} {x : Operand} {sv : SV} (h : evF st x = some sv) : st.ev x = sv := by
  unfold evF at h
  split at h <;> rename_i e <;> rw [Option.some.injEq] at h <;> rw [e, h]
theorem s_move {x : Operand} {sv : SV} (ho : ops[i]? = some ⟨some d, .move x, ty, pos, aft, g⟩) (hg : gok ops st g = true) (hk : known st ⟨some d, .move x, ty, pos, aft, g⟩ = true) (hx : evF st x = some sv)
    (h : vOrd P B lax ops Rs K rest (st.put (some d) sv) w) : vOrd P B lax ops Rs K (i :: rest) st w := by
  have hx := evF_eq hx
  subst hx
  exact vOrd_op ho hg ⟨hk, rfl, st.rho x, fun w => by simp [execOp], h⟩
theorem s_assign {x : Operand} {sv : SV} (ho : ops[i]? = some ⟨some d, .assign x, ty, pos, aft, g⟩) (hg : gok ops st g = true) (hk : known st ⟨some d, .assign x, ty, pos, aft, g⟩ = true) (hx : evF st x = some sv)
    (h : vOrd P B lax ops Rs K rest (st.put (some d) sv) w) : vOrd P B lax ops Rs K (i :: rest) st w := by
  have hx := evF_eq hx
  subst hx
  exact vOrd_op ho hg ⟨hk, rfl, st.rho x, fun w => by simp [execOp], h⟩
theorem s_alloc {t : TypeId} {z : Value} {cs : List Value} (ho : ops[i]? = some ⟨some d, .alloc t, ty, pos, aft, g⟩) (hg : gok ops st g = true) (hm : st.mem d = none) (hz : zeroOf P t = some z) (hc : forceL z.cells.toList = some cs)
    (h : ∀ b w', w.heap.size ≤ b → Later w w' → vOrd P B lax ops Rs K rest (st.new d b cs) w') : vOrd P B lax ops Rs K (i :: rest) st w := by
  have hc := forceL_eq hc
  subst hc
  exact vOrd_op ho hg ⟨rfl, rfl, d, z, rfl, hm, hz, h⟩
theorem s_box {t : TypeId} {x : Operand} {v : Value} {cs : List Value} (ho : ops[i]? = some ⟨some d, .box t x, ty, pos, aft, g⟩) (hg : gok ops st g = true) (hk : known st ⟨some d, .box t x, ty, pos, aft, g⟩ = true) (hm : st.mem d = none) (hx : st.ev x = .v v) (hc : forceL v.cells.toList = some cs)
    (h : ∀ b w', w.heap.size ≤ b → Later w w' → vOrd P B lax ops Rs K rest (st.new d b cs) w') : vOrd P B lax ops Rs K (i :: rest) st w := by
  have hc := forceL_eq hc
  subst hc
  have e : st.rho x = v := by rw [St.rho, hx]; rfl
  subst e
  exact vOrd_op ho hg ⟨hk, rfl, d, rfl, hm, h⟩
theorem s_load {t : TypeId} {x : Operand} {q b off : Nat} {cs : List Value} {v : Value} (ho : ops[i]? = some ⟨some d, .load t x, ty, pos, aft, g⟩) (hg : gok ops st g = true) (hk : known st ⟨some d, .load t x, ty, pos, aft, g⟩ = true) (hx : st.ev x = .p q b off) (hm : st.mem q = some (b, cs)) (hl : Nat.ble off cs.length = true) (hr : readL P t cs off = some v)
    (h : vOrd P B lax ops Rs K rest (st.put (some d) (.v v)) w) : vOrd P B lax ops Rs K (i :: rest) st w :=
  vOrd_op ho hg ⟨hk, rfl, by simp only [hx]; exact ⟨cs, v, hm, readL_eq (Nat.le_of_ble_eq_true hl) hr, h⟩⟩
theorem s_store {t : TypeId} {x y : Operand} {q b off : Nat} {cs cs' : List Value} {v : Value} (ho : ops[i]? = some ⟨none, .store t x y, ty, pos, aft, g⟩) (hg : gok ops st g = true) (hk : known st ⟨none, .store t x y, ty, pos, aft, g⟩ = true) (hx : st.ev x = .p q b off) (hy : st.ev y = .v v) (hm : st.mem q = some (b, cs)) (hr : writeL P t cs off v = some cs')
    (h : ∀ w', Stored b w w' → Var w b cs → vOrd P B lax ops Rs K rest (st.set q b cs') w') : vOrd P B lax ops Rs K (i :: rest) st w := by
  have e : st.rho y = v := by rw [St.rho, hy]; rfl
  subst e
  exact vOrd_op ho hg ⟨hk, rfl, q, b, off, cs, cs', hx, hm, writeL_eq hr, rfl, h⟩
def fieldK (P : Program) (t : TypeId) (f : Nat) : Option Nat :=
  match P.underlying t with
  | some (.struct fields) =>
    match fields[f]? with
    | some fd => match P.info? fd.type with
      | some i => if i.size = 0 then none else some fd.offset
      | none => none
    | none => none
  | _ => none
theorem fieldK_run {t : TypeId} {f k : Nat} (h : fieldK P t f = some k) (b off : Nat) (w : World) : (Instr.fieldAt t (.pointer (some ⟨b, off, none⟩)) f).run P w = .ok (.pointer (some ⟨b, off + k, none⟩)) w := by
  unfold fieldK at h
  split at h
  · rename_i fields hu
    split at h
    · rename_i fd hf
      split at h
      · rename_i i hi
        split at h
        · cases h
        · rename_i hz
          rw [Option.some.injEq] at h
          subst h
          simp [Instr.fieldAt, run_underlying hu w, hf, Instr.sureAddr, fieldPlace, sizeOf, typeInfo, hi, hz, addr_add]
      · cases h
    · cases h
  · cases h
theorem s_field {t : TypeId} {x : Operand} {f q b off : Nat} (k : Nat) (ho : ops[i]? = some ⟨some d, .fieldAddr t x f, ty, pos, aft, g⟩) (hg : gok ops st g = true) (hk : known st ⟨some d, .fieldAddr t x f, ty, pos, aft, g⟩ = true) (hx : st.ev x = .p q b off)
    (hr : (fieldK P t f).map (off + ·) = some k)
    (h : vOrd P B lax ops Rs K rest (st.put (some d) (.p q b k)) w) : vOrd P B lax ops Rs K (i :: rest) st w := by
  refine vOrd_op ho hg ⟨hk, rfl, .pointer (some ⟨b, k, none⟩), fun w => ?_, ?_⟩
  · have e : st.rho x = .pointer (some ⟨b, off, none⟩) := by rw [St.rho, hx]; rfl
    rw [Option.map_eq_some_iff] at hr
    obtain ⟨k', h1, h2⟩ := hr
    subst h2
    simp [execOp, e, fieldK_run h1 b off w]
  · simp only [resSV, hx]
    exact h
def pureOp : Op → Bool
  | .move .. | .assign .. | .fieldAddr .. | .alloc .. | .box .. | .load .. | .store .. | .call .. | .buildSlice .. | .makeSlice .. | .select .. => false
  | _ => true
/-- An operation that only reckons. -/
theorem s_val {op : Op} {v : Value} (ho : ops[i]? = some ⟨some d, op, ty, pos, aft, g⟩) (hg : gok ops st g = true) (hp : pureOp op = true) (hk : known st ⟨some d, op, ty, pos, aft, g⟩ = true)
    (hr : ∀ w, (execOp st.rho ⟨some d, op, ty, pos, aft, g⟩).run P w = .ok (.value v) w)
    (h : vOrd P B lax ops Rs K rest (st.put (some d) (.v v)) w) : vOrd P B lax ops Rs K (i :: rest) st w := by
  refine vOrd_op ho hg ?_
  cases op <;> simp only [pureOp, Bool.false_eq_true] at hp <;> exact ⟨hk, rfl, v, hr, h⟩
theorem s_extract {x : Operand} {vs : Array Value} {v : Value} {k : Nat} (ho : ops[i]? = some ⟨some d, .extract x k, ty, pos, aft, g⟩) (hg : gok ops st g = true) (hk : known st ⟨some d, .extract x k, ty, pos, aft, g⟩ = true) (hx : st.ev x = .v (.tuple vs)) (hv : nthL vs.toList k = some v)
    (h : vOrd P B lax ops Rs K rest (st.put (some d) (.v v)) w) : vOrd P B lax ops Rs K (i :: rest) st w := by
  refine s_val ho hg rfl hk (fun w => ?_) h
  have e : st.rho x = .tuple vs := by rw [St.rho, hx]; rfl
  rw [nthL_eq, Array.getElem?_toList] at hv
  simp [execOp, e, Instr.extract, hv]
def cmpB : BinOp → Int → Int → Option Bool
  | .eql, a, b => some (a == b)
  | .neq, a, b => some (a != b)
  | .lss, a, b => some (decide (a < b))
  | .leq, a, b => some (decide (a ≤ b))
  | .gtr, a, b => some (decide (a > b))
  | .geq, a, b => some (decide (a ≥ b))
  | _, _, _ => none
theorem s_cmp {op : BinOp} {xt yt : TypeId} {x y : Operand} {k : IntKind} {m l : Int} {c : Bool} (ho : ops[i]? = some ⟨some d, .binOp op xt x y yt, ty, pos, aft, g⟩) (hg : gok ops st g = true) (hk : known st ⟨some d, .binOp op xt x y yt, ty, pos, aft, g⟩ = true)
    (hx : st.ev x = .v (.int k m)) (hy : st.ev y = .v (.int k l)) (hc : cmpB op m l = some c)
    (h : vOrd P B lax ops Rs K rest (st.put (some d) (.v (.bool c))) w) : vOrd P B lax ops Rs K (i :: rest) st w := by
  refine s_val ho hg rfl hk (fun w => ?_) h
  have ex : st.rho x = .int k m := by rw [St.rho, hx]; rfl
  have ey : st.rho y = .int k l := by rw [St.rho, hy]; rfl
  cases op <;> simp only [cmpB, Option.some.injEq, reduceCtorEq] at hc <;> subst hc <;> simp [execOp, ex, ey, binOp, eqGuard, Op.intCmp]
theorem s_eqv {op : BinOp} {xt yt : TypeId} {x y : Operand} {u v : Value} {c : Bool} (ho : ops[i]? = some ⟨some d, .binOp op xt x y yt, ty, pos, aft, g⟩) (hg : gok ops st g = true) (hk : known st ⟨some d, .binOp op xt x y yt, ty, pos, aft, g⟩ = true)
    (hx : st.ev x = .v u) (hy : st.ev y = .v v) (hq : ∀ w, (eqGuard op xt x y u v).run P w = .ok () w) (he : ∀ w, (binOp op xt u v).run P w = .ok (.bool c) w)
    (h : vOrd P B lax ops Rs K rest (st.put (some d) (.v (.bool c))) w) : vOrd P B lax ops Rs K (i :: rest) st w := by
  refine s_val ho hg rfl hk (fun w => ?_) h
  have ex : st.rho x = u := by rw [St.rho, hx]; rfl
  have ey : st.rho y = v := by rw [St.rho, hy]; rfl
  simp [execOp, ex, ey, hq w, he w]
def arithB : BinOp → IntKind → Int → Int → Option Int
  | .add, k, a, b => some (k.wrap (a + b))
  | .sub, k, a, b => some (k.wrap (a - b))
  | .mul, k, a, b => some (k.wrap (a * b))
  | _, _, _, _ => none
theorem s_arith {op : BinOp} {xt yt : TypeId} {x y : Operand} {k : IntKind} {m l c : Int} (ho : ops[i]? = some ⟨some d, .binOp op xt x y yt, ty, pos, aft, g⟩) (hg : gok ops st g = true) (hk : known st ⟨some d, .binOp op xt x y yt, ty, pos, aft, g⟩ = true)
    (hx : st.ev x = .v (.int k m)) (hy : st.ev y = .v (.int k l)) (hc : arithB op k m l = some c)
    (h : vOrd P B lax ops Rs K rest (st.put (some d) (.v (.int k c))) w) : vOrd P B lax ops Rs K (i :: rest) st w := by
  refine s_val ho hg rfl hk (fun w => ?_) h
  have ex : st.rho x = .int k m := by rw [St.rho, hx]; rfl
  have ey : st.rho y = .int k l := by rw [St.rho, hy]; rfl
  cases op <;> simp only [arithB, Option.some.injEq, reduceCtorEq] at hc <;> subst hc <;> simp [execOp, ex, ey, binOp, eqGuard, Op.intArith]
theorem s_neg {t : TypeId} {x : Operand} {k : IntKind} {m c : Int} (ho : ops[i]? = some ⟨some d, .unOp .neg t x, ty, pos, aft, g⟩) (hg : gok ops st g = true) (hk : known st ⟨some d, .unOp .neg t x, ty, pos, aft, g⟩ = true) (hx : st.ev x = .v (.int k m)) (hc : k.wrap (-m) = c)
    (h : vOrd P B lax ops Rs K rest (st.put (some d) (.v (.int k c))) w) : vOrd P B lax ops Rs K (i :: rest) st w := by
  refine s_val ho hg rfl hk (fun w => ?_) h
  have ex : st.rho x = .int k m := by rw [St.rho, hx]; rfl
  simp [execOp, ex, Op.unary, Op.intArith, hc]
theorem s_not {t : TypeId} {x : Operand} {c : Bool} (ho : ops[i]? = some ⟨some d, .unOp .not t x, ty, pos, aft, g⟩) (hg : gok ops st g = true) (hk : known st ⟨some d, .unOp .not t x, ty, pos, aft, g⟩ = true) (hx : st.ev x = .v (.bool c))
    (h : vOrd P B lax ops Rs K rest (st.put (some d) (.v (.bool (!c)))) w) : vOrd P B lax ops Rs K (i :: rest) st w := by
  refine s_val ho hg rfl hk (fun w => ?_) h
  have ex : st.rho x = .bool c := by rw [St.rho, hx]; rfl
  simp [execOp, ex, Op.unary]
def goFn (P : Program) (f : FuncId) : Bool :=
  match P.funcs[f]? with
  | some fn => !(fn.name == "runtime.NumGoroutine") && fn.body.isSome
  | none => false
theorem run_call {f : FuncId} {xs : Array Operand} {ts : Array TypeId} (hf : goFn P f = true) (st : St) (w : World) :
    (execOp st.rho ⟨some d, .call ⟨.value (.func f), xs, ts⟩, ty, pos, aft, g⟩).run P w = .ok (.enter f (xs.map st.rho)) w := by
  unfold goFn at hf
  cases hp : P.funcs[f]? with
  | none => simp [hp] at hf
  | some fn =>
    simp only [hp, Bool.and_eq_true, Bool.not_eq_true'] at hf
    have hb : fn.body ≠ none := by intro h; simp [h] at hf
    have hn : ¬ fn.name = "runtime.NumGoroutine" := by simpa using hf.1
    have e : st.rho (.func f) = .func (.func f) #[] #[] := rfl
    simp [execOp, resolve, invoke, e, Deferred.ofValue, callFunc, hp, hn, hb]
/-- The arguments, laid out. -/
def evL (st : St) : List Operand → Option (List Value)
  | [] => some []
  | x :: r =>
    match st.ev x, evL st r with
    | .v v, some l => some (v :: l)
    | .p _ b off, some l => some (.pointer (some ⟨b, off, none⟩) :: l)
    | _, none => none
theorem evL_eq : ∀ {xs : List Operand} {l : List Value}, evL st xs = some l → xs.map st.rho = l
  | [], _, h => by simp only [evL, Option.some.injEq] at h; subst h; rfl
  | x :: r, l', h => by
    unfold evL at h
    split at h
    · rename_i v l hx hl
      rw [Option.some.injEq] at h
      rw [List.map_cons, evL_eq hl, ← h, St.rho, hx]; rfl
    · rename_i g b off l hx hl
      rw [Option.some.injEq] at h
      rw [List.map_cons, evL_eq hl, ← h, St.rho, hx]; rfl
    · cases h
theorem evL_arr {xs : Array Operand} {l : List Value} (h : evL st xs.toList = some l) : xs.map st.rho = l.toArray := by
  have e : xs = xs.toList.toArray := by simp
  rw [← evL_eq h, e, List.map_toArray]
/-- A call of a Go function in a region whose order is the text's. -/
theorem s_call {f : FuncId} {xs : Array Operand} {ts : Array TypeId} {args : List Value} (ho : ops[i]? = some ⟨some d, .call ⟨.value (.func f), xs, ts⟩, ty, pos, aft, g⟩) (hg : gok ops st g = true) (hk : known st ⟨some d, .call ⟨.value (.func f), xs, ts⟩, ty, pos, aft, g⟩ = true) (hf : goFn P f = true) (hx : evL st xs.toList = some args)
    (h : Calls P f args.toArray w fun e w' => ∃ v, e = .returned v ∧ Below w.heap.size w w' ∧ vOrd P B true ops Rs K rest (st.put (some d) (.v v)) w') : vOrd P B true ops Rs K (i :: rest) st w := by
  refine ⟨_, ho, .inr ⟨rfl, hg, hk, rfl, .inl (fun _ => ⟨fun v w' => vOrd P B true ops Rs K rest (st.put (some d) (.v v)) w', ?_, fun v w1 q _ => q⟩)⟩⟩
  unfold RunsTo
  rw [run_call hf, evL_arr hx]
  exact Calls.mono h (fun e w' ⟨v, h1, h2, h3⟩ => ⟨v, h1, h3, h2⟩)
/-- A call of a Go function in a region that draws its order; R: what is known of what it returns. -/
theorem s_callD {f : FuncId} {xs : Array Operand} {ts : Array TypeId} {args : List Value} (ho : ops[i]? = some ⟨some d, .call ⟨.value (.func f), xs, ts⟩, ty, pos, aft, g⟩) (hg : gok ops st g = true) (hk : known st ⟨some d, .call ⟨.value (.func f), xs, ts⟩, ty, pos, aft, g⟩ = true) (hf : goFn P f = true) (hx : evL st xs.toList = some args)
    (hc : ∀ wc, Later w wc → Calls P f args.toArray wc fun e w' => ∃ v, e = .returned v ∧ Rs i v w' ∧ Below wc.heap.size wc w')
    (h : ∀ v w1 w2, Rs i v w1 → Later w w1 → Later w1 w2 → vOrd P B lax ops Rs K rest (st.put (some d) (.v v)) w2) : vOrd P B lax ops Rs K (i :: rest) st w := by
  refine vOrd_op ho hg ⟨hk, rfl, fun wc l => ?_, fun v wc w1 w2 l1 l2 hR l3 => h v w1 w2 hR (l1.trans l2) l3⟩
  unfold RunsTo
  rw [run_call hf, evL_arr hx]
  exact hc wc l
theorem s_pick {c x y : Operand} {t : Bool} {v : Value} (ho : ops[i]? = some ⟨some d, .pick c x y, ty, pos, aft, g⟩) (hg : gok ops st g = true) (hk : known st ⟨some d, .pick c x y, ty, pos, aft, g⟩ = true) (hc : st.ev c = .v (.bool t)) (hx : evF st (bif t then x else y) = some (.v v))
    (h : vOrd P B lax ops Rs K rest (st.put (some d) (.v v)) w) : vOrd P B lax ops Rs K (i :: rest) st w := by
  refine s_val ho hg rfl hk (fun w => ?_) h
  have ec : st.rho c = .bool t := by rw [St.rho, hc]; rfl
  have ex := evF_eq hx
  cases t
  · have ey : st.rho y = v := by simp only [cond] at ex; rw [St.rho, ex]; rfl
    simp [execOp, ec, ey, asBool]
  · have ey : st.rho x = v := by simp only [cond] at ex; rw [St.rho, ex]; rfl
    simp [execOp, ec, ey, asBool]
end
section
variable {P : Program} {st : St}
theorem res_tmp {t : Nat} {v : Value} (h : evF st (.tmp t) = some (.v v)) (hk : (st.env t).isSome = true) : Res1 P st (.tmp t) v := by
  have e := evF_eq h
  simp only [St.ev] at e
  cases hs : st.env t with
  | none => rw [hs] at hk; cases hk
  | some x => rw [hs] at e; exact ⟨x, hs, by simp only [Option.getD_some] at e; rw [e]; rfl⟩
theorem res_cell {p t h b off : Nat} {cs : List Value} {v : Value} (h1 : st.env p = some (.p h b off)) (h2 : st.mem h = some (b, cs)) (h3 : Nat.ble off cs.length = true) (h4 : readL P t cs off = some v) : Res1 P st (.cell p t) v :=
  ⟨h, b, off, cs, h1, h2, readL_eq (Nat.le_of_ble_eq_true h3) h4⟩
end
end Go.Proofs.Ytklankodjjkhiaa
