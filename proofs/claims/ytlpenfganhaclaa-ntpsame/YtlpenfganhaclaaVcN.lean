/-
  More of the small logic: copy of structs of two cells, pointers held against nil, functions that are values with what they hold first, a call of one in a region. No conditions.
-/
import Derived.Test.YtlpenfganhaclaaVcM
import Derived.Laws.Pointers
namespace Go.Proofs.Ytlpenfganhaclaa
open Go.RowKit

theorem Later.past {w w1 w2 : World} {b : Nat} (h : Later w w1) (g : w1.grownBy w2 (some b)) (hb : w.heap.size ≤ b) : Later w w2 :=
  ⟨g.os.trans h.os, g.tape.trans h.tape, g.output.trans h.output, Nat.le_trans h.size g.size, fun k hk => (g.block k (Nat.lt_of_lt_of_le hk h.size) (by simp; omega)).trans (h.block k hk)⟩
theorem Later.sto {w w1 w2 : World} {q : Nat} (h : Later w w1) (s : Stored q w1 w2) (hq : w.heap.size ≤ q) : Later w w2 := h.past (grown_of_stored s) hq
theorem Var.unfrozen {w : World} {b : Nat} {cs : List Value} (h : Var w b cs) (j : Nat) : w.frozen? ⟨b, j, none⟩ = false := by
  obtain ⟨t, h⟩ := h
  unfold World.frozen?
  rw [h]
  simp
theorem Var.setCell {w : World} {b : Nat} {cs : List Value} (h : Var w b cs) (j : Nat) (v : Value) : Var (w.setCell ⟨b, j, none⟩ v) b (cs.set j v) ∧ Stored b w (w.setCell ⟨b, j, none⟩ v) := by
  obtain ⟨t, h⟩ := h
  have e := setCell_eq_setRow w b j cs.toArray t (0, 0) v h
  rw [e]
  exact ⟨⟨t, by rw [setRow_heap w b cs.toArray _ t _ h]; simp⟩, Stored.setRow b w _⟩
theorem Var.drew {w : World} {b : Nat} {cs : List Value} (h : Var w b cs) : Var w.drew b cs := by
  obtain ⟨t, h⟩ := h
  exact ⟨t, h⟩
theorem drew_grown (w : World) (row : Option Nat) : w.grownBy w.drew row := ⟨rfl, rfl, rfl, Nat.le_refl _, fun _ _ _ => rfl⟩
theorem run_copy_row2 {P : Program} (w : World) (dT sT ty elem : TypeId) (g dLen dCap : Nat) (a : Addr) (sLen sCap : Nat) (cur : Array Value) (t : TypeId) (cs : List Value)
    (hu : P.underlying dT = some (.slice elem)) (hs : (P.info? elem).map (·.size) = some 2)
    (hg : w.heap[g]? = some (.cells cur t (0, 0))) (hn : cs.length = Nat.min sLen dLen * 2)
    (hsrc : ∀ j v, cs[j]? = some v → w.cell? (a.add j) = some v) (hfit : cs.length ≤ cur.size) (h1 : ∀ v ∈ cs, v.oneCell' = true) :
    (Builtin.copy_ #[dT, sT] ty #[.slice (some ⟨g, 0, none⟩) dLen dCap, .slice (some a) sLen sCap]).run P w =
      .ok (goInt (Nat.min sLen dLen)) (w.setRow g (cs ++ cur.toList.drop cs.length).toArray) := by
  have hl := run_loadCells_list (P := P) w a cs hsrc
  have hst := run_storeCells_at P g 0 t cs 0 cur w hg (by simpa using hfit) h1
  cases hq : P.info? elem with
  | none => simp [hq] at hs
  | some i =>
    have hi : i.size = 2 := by simpa [hq] using hs
    simp only [Nat.add_zero, Nat.zero_add, List.take_zero, List.nil_append] at hst
    rw [hn] at hl
    simp [Builtin.copy_, run_underlying hu, Builtin.lenOf, Builtin.firstCells, sizeOf, typeInfo, hq, hi, hl, hst]
section
variable {P : Program} {B : Nat} {lax : Bool} {ops : Array Oper} {Rs : Nat → Value → World → Prop} {K : St → World → Prop} {i : Nat} {rest : List Nat} {st : St} {w : World}
variable {d : Nat} {ty : TypeId} {pos : String} {aft : Array Edge} {g : Option (Nat × Bool)}
/-- copy of structs of two cells to the beginning of a row of the call's own, that is no variable while that goes on. -/
theorem x_copy2 {t s e : TypeId} {x y : Operand} {b n c b' off c' : Nat} {cs news : List Value} (ho : ops[i]? = some ⟨some d, .call ⟨.builtin .copy, #[x, y], #[t, s]⟩, ty, pos, aft, g⟩) (hg : gok ops st g = true) (hk : known st ⟨some d, .call ⟨.builtin .copy, #[x, y], #[t, s]⟩, ty, pos, aft, g⟩ = true)
    (hx : st.ev x = .v (.slice (some ⟨b, 0, none⟩) n c)) (hy : st.ev y = .v (.slice (some ⟨b', off, none⟩) n c')) (ht : P.underlying t = some (.slice e)) (hs : (P.info? e).map (·.size) = some 2) (hv : Var w b cs) (hn : cs.length = n * 2) (hl : news.length = n * 2) (hc : ∀ j y, news[j]? = some y → w.cell? ⟨b', off + j, none⟩ = some y) (h1 : ∀ u ∈ news, u.oneCell' = true) (hB : B ≤ b) (ha : AllMem (· ≠ b) st)
    (h : ∀ w', Var w' b news → w.grownBy w' (some b) → vOrd P B true ops Rs K rest (st.put (some d) (.v (.int .i64 n))) w') : vOrd P B true ops Rs K (i :: rest) st w := by
  have ex : st.rho x = .slice (some ⟨b, 0, none⟩) n c := by rw [St.rho, hx]; rfl
  have ey : st.rho y = .slice (some ⟨b', off, none⟩) n c' := by rw [St.rho, hy]; rfl
  have ha' : ∀ q b' cs', st.mem q = some (b', cs') → some b ≠ some b' := fun q b' cs' e z => ha q b' cs' e (by simpa using z.symm)
  have em : Nat.min n n = n := Nat.min_self n
  obtain ⟨tt, hg'⟩ := hv
  have hr := run_copy_row2 (P := P) w t s ty e b n c ⟨b', off, none⟩ n c' cs.toArray tt news ht hs hg' (by rw [hl, em]) (fun j y hj => by
    rw [addr_add]; exact hc j y hj) (by simp; omega) h1
  have e1 : (news ++ cs.toArray.toList.drop news.length) = news := by rw [List.drop_of_length_le (by simp; omega), List.append_nil]
  rw [e1, em] at hr
  have hgr := grown_of_stored (Stored.setRow b w news.toArray)
  refine ⟨_, ho, .inr ⟨rfl, hg, hk, rfl, .inr (.inr (.inl (fun _ => ⟨_, _, some b, ?_, hgr, fun k e => by rw [Option.some.injEq] at e; omega, ha', h _ ⟨tt, setRow_heap w b cs.toArray _ tt _ hg'⟩ hgr⟩)))⟩⟩
  simp [execOp, ex, ey, resolve, invoke, builtin, hr, goInt]
/-- append to a row of the call's own of what lies somewhere. -/
theorem x_appendE {t e : TypeId} {ii : TypeInfo} {z : Value} {s x : Operand} {v : Value} {base n m c b off sz bs : Nat} {xs news : List Value} (ho : ops[i]? = some ⟨some d, .call ⟨.builtin .append, #[s, x], #[t, t]⟩, ty, pos, aft, g⟩) (hg : gok ops st g = true) (hk : known st ⟨some d, .call ⟨.builtin .append, #[s, x], #[t, t]⟩, ty, pos, aft, g⟩ = true)
    (hs : st.ev s = .v v) (hx : st.ev x = .v (.slice (some ⟨b, off, none⟩) m c)) (ht : P.underlying t = some (.slice e)) (hi : P.info? e = some ii) (hz : ii.zero = some z) (hsz : ii.size = sz) (hbs : ii.bytes = bs) (hzs : z.cells.size = sz) (hp : 0 < sz)
    (hown : w.ownsRow base e sz v n xs) (hc : ∀ j y, news[j]? = some y → w.cell? ⟨b, off + j, none⟩ = some y) (hl : news.length = m * sz) (h1 : ∀ u ∈ news, u.oneCell' = true) (h63 : n + m ≤ 9223372036854775807) (hby : (n + m) * bs ≤ 140737488355328) (hbase : base ≤ w.heap.size) (hB : B ≤ base)
    (ha : AllMem (fun k => v.ownBlock ≠ some k) st)
    (h : ∀ v' w', w'.ownsRow base e sz v' (n + m) (xs ++ news) → w.grownBy w' v.ownBlock → vOrd P B true ops Rs K rest (st.put (some d) (.v v')) w') : vOrd P B true ops Rs K (i :: rest) st w := by
  have es : st.rho s = v := by rw [St.rho, hs]; rfl
  have ex : st.rho x = .slice (some ⟨b, off, none⟩) m c := by rw [St.rho, hx]; rfl
  obtain ⟨v', w', hr, ho', hgr, _⟩ := run_append_own (P := P) w base t ty e ii z sz bs ht hi hz hsz hbs hzs hp v n xs hown ⟨b, off, none⟩ m c news hl (fun j u hj => by
    rw [addr_add]; exact hc j u hj) h1 (by simp only [maxLen]; omega) hby hbase
  refine ⟨_, ho, .inr ⟨rfl, hg, hk, rfl, .inr (.inr (.inl (fun _ => ⟨v', w', v.ownBlock, ?_, hgr, fun k e => Nat.le_trans hB (hown.lt k e).1, ha, h v' w' ho' hgr⟩)))⟩⟩
  simp [execOp, es, ex, resolve, invoke, builtin, hr]
/-- append of nothing. -/
theorem x_appendNil {t e : TypeId} {ii : TypeInfo} {s x : Operand} {v : Value} {base n sz : Nat} {xs : List Value} (ho : ops[i]? = some ⟨some d, .call ⟨.builtin .append, #[s, x], #[t, t]⟩, ty, pos, aft, g⟩) (hg : gok ops st g = true) (hk : known st ⟨some d, .call ⟨.builtin .append, #[s, x], #[t, t]⟩, ty, pos, aft, g⟩ = true)
    (hs : st.ev s = .v v) (hx : st.ev x = .v (.slice none 0 0)) (ht : P.underlying t = some (.slice e)) (hi : P.info? e = some ii) (hown : w.ownsRow base e sz v n xs) (hB : B ≤ base) (ha : AllMem (fun k => v.ownBlock ≠ some k) st)
    (h : vOrd P B true ops Rs K rest (st.put (some d) (.v v)) w) : vOrd P B true ops Rs K (i :: rest) st w := by
  have es : st.rho s = v := by rw [St.rho, hs]; rfl
  have ex : st.rho x = .slice none 0 0 := by rw [St.rho, hx]; rfl
  have hr := run_append_owned_none (P := P) (w := w) base t ty e ii sz ht hi v n xs hown
  refine ⟨_, ho, .inr ⟨rfl, hg, hk, rfl, .inr (.inr (.inl (fun _ => ⟨v, w, v.ownBlock, ?_, ⟨rfl, rfl, rfl, Nat.le_refl _, fun _ _ _ => rfl⟩, fun k e => Nat.le_trans hB (hown.lt k e).1, ha, h⟩)))⟩⟩
  simp [execOp, es, ex, resolve, invoke, builtin, hr]
theorem ptr_eq {t : TypeId} (p : Option Addr) (h : P.underlying t = some (.pointer (P.pointee t))) (x y : Operand) (hx : st.rho x = .pointer p) (hy : st.rho y = .pointer none) (w : World) :
    (execOp st.rho ⟨some d, .binOp .eql t x y t, ty, pos, aft, g⟩).run P w = .ok (.value (.bool p.isNone)) w ∧ (execOp st.rho ⟨some d, .binOp .neq t x y t, ty, pos, aft, g⟩).run P w = .ok (.value (.bool (!p.isNone))) w := by
  have h1 := run_eql_pointer_nil (P := P) w t p h
  have h2 := run_neq_pointer_nil (P := P) w t p h
  constructor
  · simp [execOp, hx, hy, eqGuard, h1]
  · simp [execOp, hx, hy, eqGuard, h2]
/-- A pointer against nil. -/
theorem s_nilEq {t : TypeId} {x : Operand} (p : Option Addr) (ho : ops[i]? = some ⟨some d, .binOp .eql t x (.const (.pointer none)) t, ty, pos, aft, g⟩) (hg : gok ops st g = true) (hk : known st ⟨some d, .binOp .eql t x (.const (.pointer none)) t, ty, pos, aft, g⟩ = true) (ht : P.underlying t = some (.pointer (P.pointee t))) (hx : st.rho x = .pointer p)
    (h : vOrd P B lax ops Rs K rest (st.put (some d) (.v (.bool p.isNone))) w) : vOrd P B lax ops Rs K (i :: rest) st w :=
  s_val ho hg rfl hk (fun w => (ptr_eq p ht x (.const (.pointer none)) hx rfl w).1) h
theorem s_nilNe {t : TypeId} {x : Operand} (p : Option Addr) (ho : ops[i]? = some ⟨some d, .binOp .neq t x (.const (.pointer none)) t, ty, pos, aft, g⟩) (hg : gok ops st g = true) (hk : known st ⟨some d, .binOp .neq t x (.const (.pointer none)) t, ty, pos, aft, g⟩ = true) (ht : P.underlying t = some (.pointer (P.pointee t))) (hx : st.rho x = .pointer p)
    (h : vOrd P B lax ops Rs K rest (st.put (some d) (.v (.bool (!p.isNone)))) w) : vOrd P B lax ops Rs K (i :: rest) st w :=
  s_val ho hg rfl hk (fun w => (ptr_eq p ht x (.const (.pointer none)) hx rfl w).2) h
theorem res_ptr {t q b off : Nat} (h : st.env t = some (.p q b off)) : Res1 P st (.tmp t) (.pointer (some ⟨b, off, none⟩)) := ⟨_, h, rfl⟩
/-- A function with what it holds first (a method that is a value). -/
theorem s_mkfun1 {f : FuncId} {xs : Array Operand} {l : List Value} (ho : ops[i]? = some ⟨some d, .makeFunc (.func f) xs #[], ty, pos, aft, g⟩) (hg : gok ops st g = true) (hk : known st ⟨some d, .makeFunc (.func f) xs #[], ty, pos, aft, g⟩ = true) (hx : evL st xs.toList = some l)
    (h : vOrd P B lax ops Rs K rest (st.put (some d) (.v (.func (.func f) l.toArray #[]))) w) : vOrd P B lax ops Rs K (i :: rest) st w := by
  refine s_val ho hg rfl hk (fun w => ?_) h
  simp only [execOp, Instr.makeFunc, evL_arr hx]
  simp
end
section
variable {P : Program} {n : Nat} {hol : List Nat} {w0 w : World} {st : St} {K : Exit → St → World → Prop}
/-- What holds between two pieces of code. -/
theorem Wp.mid {x y : Code} (J : St → World → Prop) (h1 : Wp P n hol w0 x st w (thenK (fun st' w' => ∃ st0, St.le st0 st' ∧ J st0 w') K)) (h2 : ∀ st0 w', J st0 w' → Wp P n hol w0 y st0 w' K) : Wp P n hol w0 (.seq x y) st w K :=
  Wp.seq (Wp.mono h1 (fun e st' w' q => by
    cases e with
    | normal => obtain ⟨st0, hle, q⟩ := q; exact (h2 st0 w' q).le hle
    | _ => exact q))
end
end Go.Proofs.Ytlpenfganhaclaa
