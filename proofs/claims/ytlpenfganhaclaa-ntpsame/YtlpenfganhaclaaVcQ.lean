/-
  More of the small logic: methods of a pointer to a variable of the caller's (s_nil, s_callB; calls_WpB in Vc), functions as values (s_mkfun, s_callF), a copy of a string (x_copyS, x_unsafeS), the index of a byte (x_ext). No conditions.
-/
import Derived.Test.YtlpenfganhaclaaVcZ
import Derived.Lib.BufferWrite
import Derived.Lib.UnsafeStr
import Derived.Lib.Bytealg
namespace Go.Proofs.Ytlpenfganhaclaa
open Go.RowKit

section
variable {P : Program} {B : Nat} {lax : Bool} {ops : Array Oper} {Rs : Nat → Value → World → Prop} {K : St → World → Prop} {i : Nat} {rest : List Nat} {st : St} {w : World}
variable {d : Nat} {ty : TypeId} {pos : String} {aft : Array Edge} {g : Option (Nat × Bool)}
/-- A function with what it holds. -/
theorem s_mkfun {f : FuncId} {xs : Array Operand} {l : List Value} (ho : ops[i]? = some ⟨some d, .makeFunc (.func f) #[] xs, ty, pos, aft, g⟩) (hg : gok ops st g = true) (hk : known st ⟨some d, .makeFunc (.func f) #[] xs, ty, pos, aft, g⟩ = true) (hx : evL st xs.toList = some l)
    (h : vOrd P B lax ops Rs K rest (st.put (some d) (.v (.func (.func f) #[] l.toArray))) w) : vOrd P B lax ops Rs K (i :: rest) st w := by
  refine s_val ho hg rfl hk (fun w => ?_) h
  simp only [execOp, Instr.makeFunc, evL_arr hx]
  simp
theorem run_callF {f : FuncId} {x : Operand} {caps : Array Value} {xs : Array Operand} {ts : Array TypeId} (hf : goFn P f = true) (hx : st.ev x = .v (.func (.func f) #[] caps)) (w : World) :
    (execOp st.rho ⟨some d, .call ⟨.value x, xs, ts⟩, ty, pos, aft, g⟩).run P w = .ok (.enter f (xs.map st.rho ++ caps)) w := by
  unfold goFn at hf
  cases hp : P.funcs[f]? with
  | none => simp [hp] at hf
  | some fn =>
    simp only [hp, Bool.and_eq_true, Bool.not_eq_true'] at hf
    have hb : fn.body ≠ none := by intro h; simp [h] at hf
    have hn : ¬ fn.name = "runtime.NumGoroutine" := by simpa using hf.1
    have e : st.rho x = .func (.func f) #[] caps := by rw [St.rho, hx]; rfl
    simp [execOp, resolve, invoke, e, Deferred.ofValue, callFunc, hp, hn, hb]
/-- A call of a function that is a value. -/
theorem s_callF {f : FuncId} {x : Operand} {caps : List Value} {xs : Array Operand} {ts : Array TypeId} {args : List Value} {R : Value → World → Prop} (ho : ops[i]? = some ⟨some d, .call ⟨.value x, xs, ts⟩, ty, pos, aft, g⟩) (hg : gok ops st g = true) (hk : known st ⟨some d, .call ⟨.value x, xs, ts⟩, ty, pos, aft, g⟩ = true) (hf : goFn P f = true) (hfv : st.ev x = .v (.func (.func f) #[] caps.toArray)) (hx : evL st xs.toList = some args)
    (hc : Calls P f (args ++ caps).toArray w fun e w' => ∃ v, e = .returned v ∧ R v w' ∧ Below w.heap.size w w') (h : ∀ v w', R v w' → Later w w' → vOrd P B true ops Rs K rest (st.put (some d) (.v v)) w') : vOrd P B true ops Rs K (i :: rest) st w := by
  refine ⟨_, ho, .inr ⟨rfl, hg, hk, rfl, .inl (fun _ => ⟨fun v w' => vOrd P B true ops Rs K rest (st.put (some d) (.v v)) w', ?_, fun v w1 q _ => q⟩)⟩⟩
  unfold RunsTo
  rw [run_callF hf hfv, evL_arr hx]
  have e : args.toArray ++ caps.toArray = (args ++ caps).toArray := by simp
  rw [e]
  exact Calls.mono hc (fun e w' ⟨v, h1, h2, h3⟩ => ⟨v, h1, h v w' h2 h3, h3⟩)
/-- A call of a method of a pointer to a variable of the call's own: it may turn that variable; of the others those that lie ahead of it are kept. -/
theorem s_callB {f : FuncId} {xs : Array Operand} {ts : Array TypeId} {args : List Value} {R : Value → List Value → Prop} {b : Nat} {cs : List Value} (h : Nat) (keep : Nat → Bool) (ho : ops[i]? = some ⟨some d, .call ⟨.value (.func f), xs, ts⟩, ty, pos, aft, g⟩) (hg : gok ops st g = true) (hk : known st ⟨some d, .call ⟨.value (.func f), xs, ts⟩, ty, pos, aft, g⟩ = true) (hf : goFn P f = true) (hx : evL st xs.toList = some args)
    (hm : st.mem h = some (b, cs)) (hlt : ∀ g c ds, keep g = true → g ≠ h → st.mem g = some (c, ds) → c < b)
    (hc : Var w b cs → Calls P f args.toArray w fun e w' => ∃ v, e = .returned v ∧ (∃ cs', R v cs' ∧ Var w' b cs') ∧ Under b w w')
    (hK : ∀ v cs' w', R v cs' → Under b w w' → Var w' b cs' → vOrd P B true ops Rs K rest ((st.cut h b cs' keep).put (some d) (.v v)) w') (h899 : isH h = false := by rfl) : vOrd P B true ops Rs K (i :: rest) st w := by
  refine ⟨_, ho, .inr ⟨rfl, hg, hk, rfl, .inr (.inr (.inr (.inl (fun hmem => ⟨f, args.toArray, h, b, b, cs, keep, ?_, hm, .inl ⟨rfl, h899⟩, hlt, ?_⟩))))⟩⟩
  · rw [run_call hf, evL_arr hx]
  · exact Calls.mono (hc (hmem h b cs hm)) (fun e w' ⟨v, h1, ⟨cs', h2, h3⟩, h4⟩ => ⟨v, cs', h1, h4, h3, hK v cs' w' h2 h4 h3⟩)
/-- A call of a method of a pointer to a variable of the call's own that turns, of what was there, that variable alone. -/
theorem s_callH {f : FuncId} {xs : Array Operand} {ts : Array TypeId} {args : List Value} {R : Value → List Value → World → Prop} {b : Nat} {cs : List Value} (h : Nat) (ho : ops[i]? = some ⟨some d, .call ⟨.value (.func f), xs, ts⟩, ty, pos, aft, g⟩) (hg : gok ops st g = true) (hk : known st ⟨some d, .call ⟨.value (.func f), xs, ts⟩, ty, pos, aft, g⟩ = true) (hf : goFn P f = true) (hx : evL st xs.toList = some args)
    (hm : st.mem h = some (b, cs)) (hc : Var w b cs → Calls P f args.toArray w fun e w' => ∃ v, e = .returned v ∧ (∃ cs', R v cs' w' ∧ Var w' b cs') ∧ w.grownBy w' (some b))
    (hK : ∀ v cs' w', R v cs' w' → w.grownBy w' (some b) → Var w' b cs' → vOrd P B true ops Rs K rest ((st.set h b cs').put (some d) (.v v)) w') : vOrd P B true ops Rs K (i :: rest) st w := by
  refine ⟨_, ho, .inr ⟨rfl, hg, hk, rfl, .inr (.inr (.inr (.inr (fun hmem => ⟨f, args.toArray, h, b, cs, ?_, hm, ?_⟩))))⟩⟩
  · rw [run_call hf, evL_arr hx]
  · exact Calls.mono (hc (hmem h b cs hm)) (fun e w' ⟨v, h1, ⟨cs', h2, h3⟩, h4⟩ => ⟨v, cs', h1, h4, h3, hK v cs' w' h2 h4 h3⟩)
theorem keep_none {st : St} {h b : Nat} : ∀ g c ds, (fun _ : Nat => false) g = true → g ≠ h → st.mem g = some (c, ds) → c < b := fun _ _ _ k => by cases k
theorem keep_1 {st : St} {h b k c0 : Nat} {ds0 : List Value} (hm : st.mem k = some (c0, ds0)) (hlt : c0 < b) : ∀ g c ds, (fun g => Nat.beq g k) g = true → g ≠ h → st.mem g = some (c, ds) → c < b := fun g c ds hk _ e => by
  have q := Nat.eq_of_beq_eq_true hk
  subst q
  rw [hm] at e
  cases e
  exact hlt
theorem keep_2 {st : St} {h b k c0 k1 c1 : Nat} {ds0 ds1 : List Value} (hm : st.mem k = some (c0, ds0)) (hlt : c0 < b) (hm1 : st.mem k1 = some (c1, ds1)) (hlt1 : c1 < b) : ∀ g c ds, (fun g => Nat.beq g k || Nat.beq g k1) g = true → g ≠ h → st.mem g = some (c, ds) → c < b := fun g c ds hk _ e => by
  rcases Bool.or_eq_true_iff.1 hk with q | q
  · have q := Nat.eq_of_beq_eq_true q
    subst q
    rw [hm] at e
    cases e
    exact hlt
  · have q := Nat.eq_of_beq_eq_true q
    subst q
    rw [hm1] at e
    cases e
    exact hlt1
/-- copy of a string into a row that the call has laid. -/
theorem x_copyS {t s e : TypeId} {x y : Operand} {b n c : Nat} {cs : List Value} {l : List UInt8} (ho : ops[i]? = some ⟨some d, .call ⟨.builtin .copy, #[x, y], #[t, s]⟩, ty, pos, aft, g⟩) (hg : gok ops st g = true) (hk : known st ⟨some d, .call ⟨.builtin .copy, #[x, y], #[t, s]⟩, ty, pos, aft, g⟩ = true)
    (hx : st.ev x = .v (.slice (some ⟨b, 0, none⟩) n c)) (hy : st.ev y = .v (.string ⟨⟨l⟩⟩)) (ht : P.underlying t = some (.slice e)) (hs : (P.info? e).map (·.size) = some 1) (hv : RowIs w b e cs) (hn : cs.length = l.length) (hl : l.length = n) (hB : B ≤ b) (ha : AllMem (· ≠ b) st)
    (h : ∀ w', RowIs w' b e (bytesV l) → w.grownBy w' (some b) → vOrd P B true ops Rs K rest (st.put (some d) (.v (.int .i64 l.length))) w') : vOrd P B true ops Rs K (i :: rest) st w := by
  have ex : st.rho x = .slice (some ⟨b, 0, none⟩) n c := by rw [St.rho, hx]; rfl
  have ey : st.rho y = .string ⟨⟨l⟩⟩ := by rw [St.rho, hy]; rfl
  have ha' : ∀ q b' cs', st.mem q = some (b', cs') → some b ≠ some b' := fun q b' cs' e z => ha q b' cs' e (by simpa using z.symm)
  have hsz : (⟨⟨l⟩⟩ : ByteArray).size = l.length := rfl
  have hr := Lib.run_copy_row_string (P := P) w t s ty e b 0 n c ⟨⟨l⟩⟩ cs.toArray e ht hs hv (by rw [hsz]; omega) (by rw [hsz]; simp; omega)
  have e1 : (cs.toArray.toList.take 0 ++ Lib.byteCells (⟨⟨l⟩⟩ : ByteArray).data.toList ++ cs.toArray.toList.drop (0 + (⟨⟨l⟩⟩ : ByteArray).size)) = bytesV l := by
    rw [List.take_zero, List.nil_append, List.drop_of_length_le (by rw [hsz]; simp; omega), List.append_nil]
    rfl
  rw [e1] at hr
  have hgr := grown_of_stored (Stored.setRow b w (bytesV l).toArray)
  refine ⟨_, ho, .inr ⟨rfl, hg, hk, rfl, .inr (.inr (.inl (fun _ => ⟨_, _, some b, ?_, hgr, fun k e => by rw [Option.some.injEq] at e; omega, ha', h _ (setRow_heap w b cs.toArray _ e _ hv) hgr⟩)))⟩⟩
  simp [execOp, ex, ey, resolve, invoke, builtin, hr, goInt, hsz]
/-- A row that the call has laid, as a string: the row is held fast. -/
theorem x_unsafeS {pt it e : TypeId} {x y : Operand} {b : Nat} {l : List UInt8} (ho : ops[i]? = some ⟨some d, .call ⟨.builtin .unsafeString, #[x, y], #[pt, it]⟩, ty, pos, aft, g⟩) (hg : gok ops st g = true) (hk : known st ⟨some d, .call ⟨.builtin .unsafeString, #[x, y], #[pt, it]⟩, ty, pos, aft, g⟩ = true)
    (hx : st.ev x = .v (.pointer (some ⟨b, 0, none⟩))) (hy : st.ev y = .v (.int .i64 l.length)) (hp : P.underlying pt = some (.pointer e)) (hc : P.cellsOf e = 1) (hv : RowIs w b e (bytesV l)) (h0 : l ≠ []) (h63 : l.length ≤ 9223372036854775807) (hB : B ≤ b) (ha : AllMem (· ≠ b) st)
    (h : ∀ w', w.grownBy w' (some b) → vOrd P B true ops Rs K rest (st.put (some d) (.v (.string ⟨⟨l⟩⟩))) w') : vOrd P B true ops Rs K (i :: rest) st w := by
  have ex : st.rho x = .pointer (some ⟨b, 0, none⟩) := by rw [St.rho, hx]; rfl
  have ey : st.rho y = .int .i64 l.length := by rw [St.rho, hy]; rfl
  have ha' : ∀ q b' cs', st.mem q = some (b', cs') → some b ≠ some b' := fun q b' cs' e z => ha q b' cs' e (by simpa using z.symm)
  have hb : w.heap[b]? = some (.cells (bytesV l).toArray e (0, 0)) := hv
  have hr := Lib.run_unsafeString_row (P := P) w pt it ty e hp hc b l.length (by unfold World.shape?; rw [hb]; simp [bytesV_len]) l h0 (Nat.le_refl _) h63 (fun j x hj => by
    rw [addr_add, Nat.zero_add, cell_of_row w b j _ e (0, 0) hb]; simp [bytesV, hj])
  have hlt : b < w.heap.size := (Array.getElem?_eq_some_iff.1 hb).1
  have hgr : w.grownBy (w.freeze ⟨b, 0, none⟩ l.length) (some b) := by
    unfold World.freeze
    split
    · exact ⟨rfl, rfl, rfl, Nat.le_refl _, fun _ _ _ => rfl⟩
    · exact ⟨rfl, rfl, rfl, by simp, fun k _ hk => by
        simp only [Array.getElem?_modify]
        rw [if_neg (fun e => hk (by rw [e]))]⟩
  refine ⟨_, ho, .inr ⟨rfl, hg, hk, rfl, .inr (.inr (.inl (fun _ => ⟨_, _, some b, ?_, hgr, fun k e => by rw [Option.some.injEq] at e; omega, ha', h _ hgr⟩)))⟩⟩
  simp [execOp, ex, ey, resolve, invoke, builtin, hr]
/-- A call of a function that the model gives, that only reckons. -/
theorem x_ext {f : FuncId} {xs : Array Operand} {ts : Array TypeId} {args : List Value} {v : Value} (ho : ops[i]? = some ⟨some d, .call ⟨.value (.func f), xs, ts⟩, ty, pos, aft, g⟩) (hg : gok ops st g = true) (hk : known st ⟨some d, .call ⟨.value (.func f), xs, ts⟩, ty, pos, aft, g⟩ = true) (hx : evL st xs.toList = some args)
    (hr : ∀ w, (callFunc f args.toArray).run P w = .ok (.value v) w) (h : vOrd P B true ops Rs K rest (st.put (some d) (.v v)) w) : vOrd P B true ops Rs K (i :: rest) st w := by
  refine s_run ho hg hk rfl ?_ h
  have e : st.rho (.func f) = .func (.func f) #[] #[] := rfl
  have h1 := evL_arr hx
  simp [execOp, resolve, invoke, e, Deferred.ofValue, h1, hr]
end
theorem run_index {P : Program} {f : FuncId} {fn : Func} (hf : P.funcs[f]? = some fn) (hname : (fn.name == "runtime.NumGoroutine") = false) (hb : fn.body.isNone = true) (hn : Extern.findNext fn = none) (he : Extern.find fn = some Extern.BytealgIndexByte.indexByte) (l : List UInt8) (c : UInt8) (w : World) :
    (callFunc f [Value.string ⟨⟨l⟩⟩, .int .u8 c.toNat].toArray).run P w = .ok (.value (.int .i64 (Lib.indexByte l c))) w := by
  rw [run_callFunc_extern hf hname hb hn he, run_indexByte_string, Lib.firstIdx_eq]
  simp
/-! ### Regions with three orders -/
/-- An order up to where two may come up; behind the one an order, behind the other an order up to where two may come up, and an order behind each. -/
def okOrder3 (md : Region.Mode) (ops : Array Oper) : Array Bool → List Nat → List Nat → List Nat → List Nat → List Nat → List Nat → List Nat → List Nat → List Nat → List Nat → Bool
  | listed, [], _, l1, m1, l2, m2, la, ma, lb, mb =>
    match l1, l2 with
    | i :: r1, j :: r2 => (Region.ready md ops listed == [i, j] || Region.ready md ops listed == [j, i]) && okOrder md ops (listed.setIfInBounds i true) r1 m1 && okOrder2 md ops (listed.setIfInBounds j true) r2 m2 la ma lb mb && r1.length == r2.length + la.length
    | _, _ => false
  | listed, i :: rest, Rm, l1, m1, l2, m2, la, ma, lb, mb =>
    (match ops[i]? with
     | some oi => (Region.ready md ops listed).contains i && ((lightOp oi.op && freeV md ops listed i oi (Rm.headD 0)) || (Region.ready md ops listed == [i]))
     | none => false) && okOrder3 md ops (listed.setIfInBounds i true) rest Rm.tail l1 m1 l2 m2 la ma lb mb
section
variable {P : Program} {n B : Nat} {hol : List Nat} {w0 w : World} {st : St} {md : Region.Mode} {ops : Array Oper} {Rs : Nat → Value → World → Prop}
theorem vAny_order3 {K : St → World → Prop} {l1 m1 l2 m2 la ma lb mb : List Nat} : ∀ (order Rm : List Nat) (listed : Array Bool) (st : St) (w : World), listed.size ≤ ops.size → okOrder3 md ops listed order Rm l1 m1 l2 m2 la ma lb mb = true →
    vOrd P B false ops Rs (fun st w => vOrd P B false ops Rs K l1 st w ∧ vOrd P B false ops Rs (fun st w => vOrd P B false ops Rs K la st w ∧ vOrd P B false ops Rs K lb st w) l2 st w) order st w → vAny P md ops Rs K (order.length + l1.length) listed st w
  | [], _, listed, st, w, hsz, hok, h => by
    simp only [okOrder3] at hok
    split at hok
    · rename_i i r1 j r2
      simp only [Bool.and_eq_true, Bool.or_eq_true, beq_iff_eq] at hok
      obtain ⟨⟨⟨hr, h1⟩, h2⟩, hl⟩ := hok
      have hl : r1.length = r2.length + la.length := hl
      rw [List.length_nil, Nat.zero_add, List.length_cons]
      refine ⟨fun e => (by rcases hr with hr | hr <;> rw [hr] at e <;> cases e), fun k hk o ho => ?_⟩
      have hk : k = i ∨ k = j := by
        rcases hr with hr | hr <;> rw [hr] at hk <;> simp only [List.mem_cons, List.not_mem_nil, or_false] at hk <;> omega
      obtain ⟨k1, k2⟩ := h
      rcases hk with rfl | rfl
      · obtain ⟨o', ho', q⟩ := k1
        rw [ho] at ho'
        cases ho'
        have q := q.resolve_right (fun q => by cases q.1)
        exact vG_mono (fun st' w' q => vAny_order r1 _ _ st' w' (by simpa using hsz) h1 q) q
      · obtain ⟨o', ho', q⟩ := k2
        rw [ho] at ho'
        cases ho'
        have q := q.resolve_right (fun q => by cases q.1)
        rw [hl]
        exact vG_mono (fun st' w' q => vAny_order2 r2 _ _ st' w' (by simpa using hsz) h2 q) q
    · cases hok
  | i :: rest, Rm, listed, st, w, hsz, hok, h => by
    obtain ⟨o, ho, h⟩ := h
    have h := h.resolve_right (fun q => by cases q.1)
    simp only [okOrder3, ho] at hok
    rw [Bool.and_eq_true] at hok
    rw [List.length_cons, Nat.add_right_comm]
    exact vAny_step hsz ho hok.1 (vG_mono (fun st' w' q => vAny_order3 rest _ _ st' w' (by simpa using hsz) hok.2 q) h)
theorem Wp.drawn3 {K : Exit → St → World → Prop} {id : Nat} {ops : Array Oper} (hm : P.follows .mixedOrders = true) (hd : dstsIn n ops = true) (order Rm l1 m1 l2 m2 la ma lb mb : List Nat) (hl : order.length + l1.length = ops.size) (ho : okOrder3 .any ops (Array.replicate ops.size false) order Rm l1 m1 l2 m2 la ma lb mb = true)
    (Rs : Nat → Value → World → Prop) (h : ∀ w', Later w w' → vOrd P w0.heap.size false ops Rs (fun st w => vOrd P w0.heap.size false ops Rs (K .normal) l1 st w ∧ vOrd P w0.heap.size false ops Rs (fun st w => vOrd P w0.heap.size false ops Rs (K .normal) la st w ∧ vOrd P w0.heap.size false ops Rs (K .normal) lb st w) l2 st w) order st w') : Wp P n hol w0 (.region id ops true) st w K := fun a H =>
  wp_region_any hm (by
    have l : Later w { w with drawn := w.drawn + 1 } := Below.drew (Below.refl _ _)
    have q := vAny_order3 order Rm _ _ _ (by simp) ho (h _ l)
    rw [hl] at q
    exact vAny_sound hd (fun st _ _ H' q => ⟨st, H', q⟩) _ _ _ _ _ (H.later l) q)
end
end Go.Proofs.Ytlpenfganhaclaa
