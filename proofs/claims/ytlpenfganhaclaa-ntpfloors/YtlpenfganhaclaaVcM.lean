/-
  More of the small logic: regions that draw their order in which something is written (what only reckons comes first, the rest in every order), methods of a pointer that also turn a map that lies ahead, maps of ints. No conditions.
-/
import Derived.Test.YtlpenfganhaclaaVcQ
import Derived.Maps.Own
import Derived.Lib.ConvBytes
namespace Go.Proofs.Ytlpenfganhaclaa
open Go.RowKit Go.ChangeMaps Go.MapKept

/-! ### Orders -/
section
variable {P : Program} {n B : Nat} {hol : List Nat} {w0 w : World} {st : St} {md : Region.Mode} {ops : Array Oper} {Rs : Nat → Value → World → Prop} {K : St → World → Prop} {Q Q' : Exit → Act → World → Prop}
theorem lets_weak (h : ∀ e a w, Q' e a w → Q e a w) (hl : LetsOut Q') : LetsOut Q := by
  obtain ⟨a, w, q⟩ := hl
  exact ⟨a, w, h _ _ _ q⟩
theorem wpO_weak {o : Oper} {a : Act} {w : World} {K K' : Act → World → Prop} (h : ∀ e a w, Q' e a w → Q e a w) (hK : ∀ a w, K' a w → K a w) (q : o.wp P a w K' Q') : o.wp P a w K Q := by
  unfold Oper.wp at *
  generalize (execOp a.eval o).run P w = r at *
  cases r with
  | ok x w' =>
    cases x <;> simp only [Oper.upon] at q ⊢ <;>
      first
        | exact hK _ _ q
        | exact Calls.mono q (fun e w'' he => by cases e <;> first | exact hK _ _ he | exact h _ _ _ he | exact lets_weak h he)
        | exact Rows.mono q (fun _ _ he => hK _ _ he)
  | halt x w' => cases x <;> simp only [Oper.upon] at q ⊢ <;> exact h _ _ _ q
theorem wpAny_weak (h : ∀ e a w, Q' e a w → Q e a w) : ∀ (fuel : Nat) (listed : Array Bool) (a : Act) (w : World), wpAny P md ops Q' fuel listed a w → wpAny P md ops Q fuel listed a w
  | 0, _, _, _, q => ⟨q.1, h _ _ _ q.2⟩
  | fuel + 1, listed, a, w, q => by
    refine ⟨fun e => h _ _ _ (q.1 e), fun i hi => ?_⟩
    have q2 := q.2 i hi
    unfold wpOp at *
    split
    · rename_i ho; simp only [ho] at q2; exact wpAny_weak h fuel _ _ _ q2
    · rename_i o ho
      simp only [ho] at q2
      split
      · rename_i hw
        simp only [hw, if_true] at q2
        rcases q2 with q2 | ⟨q2, q3⟩
        · exact .inl (wpO_weak h (fun a w k => wpAny_weak h fuel _ _ _ k) q2)
        · exact .inr ⟨q2, lets_weak h q3⟩
      · rename_i hw
        simp only [hw] at q2
        exact wpAny_weak h fuel _ _ _ q2
/-- Every order of what is left, each operation as in a region whose order is the text's. -/
def vTree (P : Program) (md : Region.Mode) (B : Nat) (ops : Array Oper) (Rs : Nat → Value → World → Prop) (K : St → World → Prop) : Nat → Array Bool → St → World → Prop
  | 0, listed, st, w => Region.ready md ops listed = [] ∧ K st w
  | fuel + 1, listed, st, w => Region.ready md ops listed ≠ [] ∧ ∀ i ∈ Region.ready md ops listed, vOrd P B true ops Rs (vTree P md B ops Rs K fuel (listed.setIfInBounds i true)) [i] st w
theorem vStep_sound {i : Nat} {a : Act} (hd : dstsIn n ops = true) (hB : w0.heap.size ≤ B) (H : Holds n hol w0 st a w) (h : vOrd P B true ops Rs K [i] st w) : wpOp P ops Q i (fun a' w' => ∃ st', Holds n hol w0 st' a' w' ∧ K st' w') a w := by
  obtain ⟨o, ho, h⟩ := h
  rcases h with h | ⟨_, hg, h⟩
  · exact vG_sound ho H (dstsIn_spec hd ho) h
  · unfold wpOp
    simp only [ho]
    rw [if_pos (by
      simp only [Region.wanted]
      cases hgd : o.guard with
      | none => rfl
      | some gt =>
        obtain ⟨j, t⟩ := gt
        rw [hgd] at hg
        simp only [gok] at hg
        split at hg
        · rename_i d hj
          split at hg
          · rename_i c hc
            have hy := H.env _ _ hc
            simp only [yielded, hj, Option.bind_some, hy, SV.val]
            simpa using hg
          · cases hg
        · cases hg)]
    exact .inl (vFree_sound H hB (dstsIn_spec hd ho) h)
theorem vTree_sound (hd : dstsIn n ops = true) (hB : w0.heap.size ≤ B) (hq : ∀ st a w, Holds n hol w0 st a w → K st w → Q .normal a w) :
    ∀ (fuel : Nat) (listed : Array Bool) (st : St) (a : Act) (w : World), Holds n hol w0 st a w → vTree P md B ops Rs K fuel listed st w → wpAny P md ops Q fuel listed a w
  | 0, _, _, _, _, H, h => ⟨h.1, hq _ _ _ H h.2⟩
  | fuel + 1, _, _, _, _, H, h => by
    refine ⟨fun he => absurd he h.1, fun i hi => ?_⟩
    exact wpOp_mono (fun a' w' ⟨st', H', h'⟩ => vTree_sound hd hB hq fuel _ st' a' w' H' h') (vStep_sound hd hB H (h.2 i hi))
/-- What only reckons: its value hangs on its operands alone. -/
def puOp : Op → Bool
  | .alloc .. | .box .. | .load .. | .store .. | .call .. | .buildSlice .. | .makeSlice .. | .convert .. | .lookup .. | .select .. => false
  | _ => true
def okE (md : Region.Mode) (ops : Array Oper) : Array Bool → List Nat → Bool
  | _, [] => true
  | listed, i :: r => (Region.ready md ops listed).contains i && Region.free md ops listed i && (match ops[i]? with | some o => puOp o.op && o.guard.isNone | none => false) && okE md ops (listed.setIfInBounds i true) r
def toEnd : Array Bool → List Nat → Array Bool
  | listed, [] => listed
  | listed, i :: r => toEnd (listed.setIfInBounds i true) r
theorem res_val {o : Oper} {v : Value} (hr : ∀ w, (execOp st.rho o).run P w = .ok (.value v) w) : (resSV st o v).val = v := by
  unfold resSV
  split
  · rename_i x hop
    have := hr ⟨#[], default, default, default, default⟩
    simp [execOp, hop] at this
    exact this
  · rename_i x hop
    have := hr ⟨#[], default, default, default, default⟩
    simp [execOp, hop] at this
    exact this
  · split <;> rfl
  · split <;> rfl
  · split <;> rfl
  · rfl
theorem vE_sound {m : Nat} (hd : dstsIn n ops = true) (hs : Region.noSelect ops = true) (hQ : ∀ c a w, ¬ Q (.panic c) a w) :
    ∀ (E : List Nat) (listed : Array Bool) (st : St) (a : Act) (w : World), Holds n hol w0 st a w → okE md ops listed E = true → vOrd P B false ops Rs K E st w →
      (∀ st a w, Holds n hol w0 st a w → K st w → wpAny P md ops Q m (toEnd listed E) a w) → wpAny P md ops Q (E.length + m) listed a w
  | [], _, st, a, w, H, _, h, hk => by
    rw [List.length_nil, Nat.zero_add]
    exact hk st a w H h
  | i :: r, listed, st, a, w, H, ho, h, hk => by
    obtain ⟨o, hi, h⟩ := h
    have h := h.resolve_right (fun q => by cases q.1)
    simp only [okE, hi, Bool.and_eq_true] at ho
    obtain ⟨⟨⟨h1, h2⟩, h3, h4⟩, h5⟩ := ho
    have hg : o.guard = none := by simpa using h4
    unfold vG at h
    simp only [hg] at h
    obtain ⟨hk', hsel, h⟩ := h
    have hv : ∃ v, (∀ w, (execOp st.rho o).run P w = .ok (.value v) w) ∧ vOrd P B false ops Rs K r (st.put o.dst (resSV st o v)) w := by
      split at h <;> first | exact h | (rename_i hop; simp [hop, puOp] at h3)
    obtain ⟨v, hr, hK⟩ := hv
    have hy : Yields P ops o v a := .inl ⟨by simp [Region.wanted, hg], fun w => by rw [H.exec hk' hsel]; exact hr w⟩
    have H' := H.put o.dst (dstsIn_spec hd hi) (resSV st o v)
    rw [res_val hr] at H'
    rw [List.length_cons, Nat.add_right_comm]
    exact wpAny_first hi (fun j o cs b => Region.noSelect_spec hs j o cs b) (fun c a w q => absurd q (hQ _ _ _)) _ listed a w (Region.free_spec hi h2) (by simpa using h1) hy (vE_sound hd hs hQ r _ _ _ _ H' h5 hK hk)
theorem Wp.drawnX {K : Exit → St → World → Prop} {id : Nat} {ops : Array Oper} (hm : P.follows .mixedOrders = true) (hd : dstsIn n ops = true) (hs : Region.noSelect ops = true) (E : List Nat) (m : Nat) (L : Array Bool) (hl : E.length + m = ops.size) (ho : okE .any ops (Array.replicate ops.size false) E = true) (hL : toEnd (Array.replicate ops.size false) E = L)
    (h : ∀ w', Later w w' → vOrd P w0.heap.size false ops (fun _ _ _ => True) (vTree P .any w0.heap.size ops (fun _ _ _ => True) (K .normal) m L) E st w') : Wp P n hol w0 (.region id ops true) st w K := fun a H =>
  wp_region_any hm (by
    have l : Later w { w with drawn := w.drawn + 1 } := Below.drew (Below.refl _ _)
    subst hL
    refine wpAny_weak (Q' := fun e a w => e = .normal ∧ ∃ st', Holds n hol w0 st' a w ∧ K .normal st' w) (fun e a w q => by obtain ⟨rfl, q⟩ := q; exact q) _ _ _ _ ?_
    have q := vE_sound hd hs (Q := fun e a w => e = .normal ∧ ∃ st', Holds n hol w0 st' a w ∧ K .normal st' w) (fun c a w q => by cases q.1) E _ _ _ _ (H.later l) ho (h _ l) (fun st a w H' q => vTree_sound hd (Nat.le_refl _) (fun st a w H q => ⟨rfl, st, H, q⟩) _ _ _ _ _ H' q)
    rw [hl] at q
    exact q)
theorem vTree_end {listed : Array Bool} (hr : Region.ready md ops listed = []) (h : K st w) : vTree P md B ops Rs K 0 listed st w := ⟨hr, h⟩
theorem vTree_one {listed L : Array Bool} {m i : Nat} (hr : Region.ready md ops listed = [i]) (hL : listed.setIfInBounds i true = L) (h : vOrd P B true ops Rs (vTree P md B ops Rs K m L) [i] st w) : vTree P md B ops Rs K (m + 1) listed st w :=
  ⟨by rw [hr]; simp, fun j hj => by rw [hr, List.mem_singleton] at hj; subst hj; subst hL; exact h⟩
theorem vTree_two {listed L1 L2 : Array Bool} {m i k : Nat} (hr : Region.ready md ops listed = [i, k]) (hL1 : listed.setIfInBounds i true = L1) (hL2 : listed.setIfInBounds k true = L2) (h1 : vOrd P B true ops Rs (vTree P md B ops Rs K m L1) [i] st w) (h2 : vOrd P B true ops Rs (vTree P md B ops Rs K m L2) [k] st w) : vTree P md B ops Rs K (m + 1) listed st w :=
  ⟨by rw [hr]; simp, fun j hj => by
    rw [hr] at hj
    simp only [List.mem_cons, List.not_mem_nil, or_false] at hj
    rcases hj with rfl | rfl
    · subst hL1; exact h1
    · subst hL2; exact h2⟩
end

/-! ### Methods of a pointer that turn what lies ahead of it, too -/
section
variable {P : Program} {n : Nat} {fn : Func} {w : World}
/-- The arguments of a method of a pointer to a variable (its caller's), where another row of its caller's is held, too. -/
def St.argsM (b : Nat) (cs : List Value) (c : Nat) (ds : List Value) (args : List Value) : St := ⟨fun s => match s with | 0 => some (.p 900 b 0) | s + 1 => (args[s]?).map .v, fun h => bif Nat.beq h 900 then some (b, cs) else bif Nat.beq h 901 then some (c, ds) else none⟩
theorem calls_WpM {f : FuncId} {code : Code} {args : List Value} {R : Ending → World → Prop} {b b0 c : Nat} {cs ds : List Value} (hv : Var w b cs) (hr : Var w c ds) (h0 : b0 ≤ b) (h1 : b0 ≤ c) (hne : c ≠ b) (hf : P.funcs[f]? = some fn) (hb : fn.body = some code) (hn : fn.ntmps = n) (ha : args.length + 1 ≤ n)
    (h : Wp P n (holO none) (upTo w b0) code (St.argsM b cs c ds args) w (fun e st' w' => (e = .normal ∨ e = .ret) ∧ (InMem st' w' → Under b0 w w' → ∃ v, Resd P st' fn.results.toList v ∧ R (.returned v) w'))) : Calls P f (Value.pointer (some ⟨b, 0, none⟩) :: args).toArray w R := by
  have hle : b0 ≤ w.heap.size := Nat.le_trans h0 (Nat.le_of_lt hv.lt)
  have H0 : Holds n (holO none) (upTo w b0) (St.argsM b cs c ds args) { tmps := (Value.pointer (some ⟨b, 0, none⟩) :: args).toArray ++ Array.replicate (fn.ntmps - (Value.pointer (some ⟨b, 0, none⟩) :: args).toArray.size) undef, defers := [] } w := by
    have key : ∀ h b' cs', (St.argsM b cs c ds args).mem h = some (b', cs') → (h = 900 ∧ b' = b ∧ cs' = cs) ∨ (h = 901 ∧ b' = c ∧ cs' = ds) := fun h b' cs' e => by
      simp only [St.argsM] at e
      cases hh : Nat.beq h 900 with
      | true =>
        rw [hh] at e
        simp only [cond, Option.some.injEq, Prod.mk.injEq] at e
        exact .inl ⟨Nat.eq_of_beq_eq_true hh, e.1.symm, e.2.symm⟩
      | false =>
        rw [hh] at e
        cases h2 : Nat.beq h 901 with
        | false => rw [h2] at e; cases e
        | true =>
          rw [h2] at e
          simp only [cond, Option.some.injEq, Prod.mk.injEq] at e
          exact .inr ⟨Nat.eq_of_beq_eq_true h2, e.1.symm, e.2.symm⟩
    refine ⟨by simp [hn]; omega, rfl, fun s x hs => ?_, fun h b' cs' e => ?_, fun h b' cs' e => ?_, fun h b' cs' h' b'' cs'' e e' hne' => ?_, Grown.of_later (upTo_later hle) _⟩
    · cases s with
      | zero =>
        simp only [St.argsM, Option.some.injEq] at hs
        subst hs
        rw [Array.getElem?_append_left (by simp)]
        simp [SV.val]
      | succ s =>
        simp only [St.argsM, Option.map_eq_some_iff] at hs
        obtain ⟨y, hy, rfl⟩ := hs
        have hlt := (List.getElem?_eq_some_iff.1 hy).1
        simp [Array.getElem?_append, hlt, SV.val, (List.getElem?_eq_some_iff.1 hy).2]
    · rcases key h b' cs' e with ⟨rfl, rfl, rfl⟩ | ⟨rfl, rfl, rfl⟩
      · exact hv
      · exact hr
    · rw [upTo_size hle]
      rcases key h b' cs' e with ⟨rfl, rfl, rfl⟩ | ⟨rfl, rfl, rfl⟩
      · exact .inl h0
      · exact .inl h1
    · rcases key h b' cs' e with ⟨rfl, rfl, rfl⟩ | ⟨rfl, rfl, rfl⟩ <;> rcases key h' b'' cs'' e' with ⟨rfl, rfl, rfl⟩ | ⟨rfl, rfl, rfl⟩
      · exact absurd rfl hne'
      · exact fun q => hne q.symm
      · exact hne
      · exact absurd rfl hne'
  refine calls_of_wp hf hb (Code.wp_mono (fun e a' w' q => ?_) (h _ H0))
  obtain ⟨st', H', he, q⟩ := q
  have hu : Under b0 w w' := ⟨H'.old.os, H'.old.tape, H'.old.output, fun k hk => by
    have h1 := H'.old.later.block k (by rw [upTo_size hle]; exact hk)
    rw [h1]
    simp [upTo, Array.getElem?_extract]
    omega⟩
  obtain ⟨v, hv', hR⟩ := q H'.mem hu
  have hr := resd_run H' hv'
  rcases he with rfl | rfl <;> exact ⟨H'.defers, v, hr, hR⟩
end
/-! ### Maps of ints -/
/-- Block mb is a map, of no more than n entries, in which key k finds F k. -/
def MapAt (P : Program) (kt : TypeId) (w : World) (mb n : Nat) (F : Int → Int) : Prop :=
  ∃ D : DataW Unit, w.ownsMap P kt (plainElem P kt) mb n D ∧ Go.Maps.IsMap D ∧ ∀ k, (Lit.int .i64 k).wf = true → D.atKey (.int .i64 k) (.lit (.int .i64 0)) = .lit (.int .i64 (F k))
section
variable {P : Program} {kt : TypeId} {w w' : World} {mb m : Nat} {F : Int → Int}
theorem MapAt.lt (h : MapAt P kt w mb m F) : mb < w.heap.size := by obtain ⟨D, h, _⟩ := h; exact h.lt
theorem MapAt.later (h : MapAt P kt w mb m F) (l : Later w w') : MapAt P kt w' mb m F := by
  obtain ⟨D, h, h2⟩ := h
  exact ⟨D, h.kept (grown_of_later l none) (by simp), h2⟩
theorem MapAt.stored {b : Nat} (h : MapAt P kt w mb m F) (s : Stored b w w') (hb : mb ≠ b) : MapAt P kt w' mb m F := by
  obtain ⟨D, h, h2⟩ := h
  exact ⟨D, h.kept (grown_of_stored s) (by simpa using hb), h2⟩
theorem MapAt.grown {row : Option Nat} (h : MapAt P kt w mb m F) (s : w.grownBy w' row) (hb : some mb ≠ row) : MapAt P kt w' mb m F := by
  obtain ⟨D, h, h2⟩ := h
  exact ⟨D, h.kept s hb, h2⟩
theorem MapAt.made (w : World) : MapAt P kt (w.alloc (.map #[] 0)) w.heap.size 0 (fun _ => 0) :=
  ⟨.map [], World.ownsMap_made w P kt _, ⟨[], rfl⟩, fun _ _ => rfl⟩
theorem MapAt.more (h : MapAt P kt w mb m F) {m' : Nat} (hm : m ≤ m') : MapAt P kt w mb m' F := by
  obtain ⟨D, h, h2⟩ := h
  exact ⟨D, h.mono hm, h2⟩
def setF (F : Int → Int) (k v : Int) : Int → Int := fun j => if j = k then v else F j
theorem MapAt.put {t : TypeId} (h : MapAt P kt w mb m F) (hk : P.underlying kt = some (.int .i64)) (ht : P.underlying t = some (.map kt kt)) (hm : m < maxLen) {k v : Int} (wk : (Lit.int .i64 k).wf = true) (wv : (Lit.int .i64 v).wf = true) :
    ∃ w', (Instr.mapUpdate t (.map (some mb)) (.int .i64 k) (.int .i64 v)).run P w = .ok () w' ∧ Stored mb w w' ∧ MapAt P kt w' mb (m + 1) (setF F k v) := by
  obtain ⟨D, h, hD, h2⟩ := h
  have K := Go.Maps.int_keyed (P := P) hk
  have hkey := Go.Maps.keyOf_int_mk (P := P) hk wk
  obtain ⟨w1, hr1, ho1, hg1⟩ := h.update (t := t) K ht hm hkey (plainElem_int hk wv)
  have hst : Stored mb w w1 := by
    obtain ⟨es, clock, hb, Ft, hs, _⟩ := h
    obtain ⟨es', clock', hrun, _⟩ := Go.Maps.fit_store (R' := plainElem P kt) K ht hb Ft (Nat.lt_of_le_of_lt hs hm) (fun _ _ _ _ hz => hz) hkey (plainElem_int hk wv)
    rw [hrun] at hr1
    cases hr1
    exact ⟨hg1.os, hg1.tape, hg1.output, by simp [setBlock], fun i hi => heap_setBlock_other hb _ hi, fun cs t fr e => by rw [hb] at e; cases e⟩
  refine ⟨w1, hr1, hst, _, ho1, ?_, fun j wj => ?_⟩
  · obtain ⟨es, rfl⟩ := hD; exact ⟨_, rfl⟩
  · unfold setF
    by_cases q : j = k
    · subst q
      rw [if_pos rfl, Go.Maps.atKey_put_same hD (K.key hkey)]
    · rw [if_neg q, Go.Maps.atKey_put_other (by intro e; cases e; exact q rfl)]
      exact h2 j wj
end
section
variable {P : Program} {B : Nat} {lax : Bool} {ops : Array Oper} {Rs : Nat → Value → World → Prop} {K : St → World → Prop} {i : Nat} {rest : List Nat} {st : St} {w : World}
variable {d : Nat} {ty : TypeId} {pos : String} {aft : Array Edge} {g : Option (Nat × Bool)}
theorem s_makeMap {t kt : TypeId} (ho : ops[i]? = some ⟨some d, .makeMap t none, ty, pos, aft, g⟩) (hg : gok ops st g = true) (hk : known st ⟨some d, .makeMap t none, ty, pos, aft, g⟩ = true)
    (h : ∀ c w1, w.heap.size ≤ c → Later w w1 → MapAt P kt w1 c 0 (fun _ => 0) → vOrd P B true ops Rs K rest (st.put (some d) (.v (.map (some c)))) w1) : vOrd P B true ops Rs K (i :: rest) st w := by
  refine ⟨_, ho, .inr ⟨rfl, hg, hk, rfl, .inl (fun _ => ⟨fun u w1 => u = .map (some w.heap.size) ∧ w1 = w.alloc (.map #[] 0), ?_, ?_⟩)⟩⟩
  · unfold RunsTo
    have : (execOp st.rho ⟨some d, .makeMap t none, ty, pos, aft, g⟩).run P w = .ok (.value (.map (some w.heap.size))) (w.alloc (.map #[] 0)) := by
      simp [execOp, run_makeMap]
    rw [this]
    exact ⟨⟨rfl, rfl⟩, Later.alloc _ _⟩
  · rintro u w1 ⟨rfl, rfl⟩ l
    exact h _ _ (Nat.le_refl _) l (MapAt.made w)
theorem x_lookup {t kt : TypeId} {x y : Operand} {mb m : Nat} {F : Int → Int} {k : Int} (ho : ops[i]? = some ⟨some d, .lookup t x y false, ty, pos, aft, g⟩) (hg : gok ops st g = true) (hk : known st ⟨some d, .lookup t x y false, ty, pos, aft, g⟩ = true) (hx : st.ev x = .v (.map (some mb))) (hy : st.ev y = .v (.int .i64 k))
    (hkt : P.underlying kt = some (.int .i64)) (ht : P.underlying t = some (.map kt kt)) (hz : ∀ w, (zeroValue kt).run P w = .ok (.int .i64 0) w) (wk : (Lit.int .i64 k).wf = true) (hm : MapAt P kt w mb m F)
    (h : vOrd P B lax ops Rs K rest (st.put (some d) (.v (.int .i64 (F k)))) w) : vOrd P B lax ops Rs K (i :: rest) st w := by
  refine vOrd_op ho hg ⟨hk, rfl, .int .i64 (F k), fun w' l => ?_, h⟩
  have ex : st.rho x = .map (some mb) := by rw [St.rho, hx]; rfl
  have ey : st.rho y = .int .i64 k := by rw [St.rho, hy]; rfl
  obtain ⟨D, ho', _, h2⟩ := hm.later l
  obtain ⟨c, hr, hat, _⟩ := ho'.lookup_int (t := t) (Go.Maps.int_keyed hkt) ht hkt (hz w') (Go.Maps.keyOf_int_mk hkt wk)
  rw [h2 k wk] at hat
  cases hat
  simp [execOp, ex, ey, hr]
theorem x_mapUp {t kt : TypeId} {x y z : Operand} {mb m : Nat} {F : Int → Int} {k v : Int} (ho : ops[i]? = some ⟨none, .mapUpdate t x y z, ty, pos, aft, g⟩) (hg : gok ops st g = true) (hk : known st ⟨none, .mapUpdate t x y z, ty, pos, aft, g⟩ = true) (hx : st.ev x = .v (.map (some mb))) (hy : st.ev y = .v (.int .i64 k)) (hz : st.ev z = .v (.int .i64 v))
    (hkt : P.underlying kt = some (.int .i64)) (ht : P.underlying t = some (.map kt kt)) (wk : (Lit.int .i64 k).wf = true) (wv : (Lit.int .i64 v).wf = true) (hlt : m < maxLen) (hm : MapAt P kt w mb m F) (hB : B ≤ mb) (ha : AllMem (· ≠ mb) st)
    (h : ∀ w', Stored mb w w' → MapAt P kt w' mb (m + 1) (setF F k v) → vOrd P B true ops Rs K rest st w') : vOrd P B true ops Rs K (i :: rest) st w := by
  have ex : st.rho x = .map (some mb) := by rw [St.rho, hx]; rfl
  have ey : st.rho y = .int .i64 k := by rw [St.rho, hy]; rfl
  have ez : st.rho z = .int .i64 v := by rw [St.rho, hz]; rfl
  obtain ⟨w', hr, hs, hm'⟩ := hm.put hkt ht hlt wk wv
  refine ⟨_, ho, .inr ⟨rfl, hg, hk, rfl, .inr (.inl (fun _ => ⟨w', mb, ?_, rfl, hs, hB, ha, h w' hs hm'⟩))⟩⟩
  simp [execOp, ex, ey, ez, hr]
/-! ### Addresses that are values -/
theorem s_nilV {x : Operand} {b off : Nat} (ho : ops[i]? = some ⟨some d, .nilCheck x, ty, pos, aft, g⟩) (hg : gok ops st g = true) (hk : known st ⟨some d, .nilCheck x, ty, pos, aft, g⟩ = true) (hx : st.ev x = .v (.pointer (some ⟨b, off, none⟩)))
    (h : vOrd P B lax ops Rs K rest (st.put (some d) (.v (.pointer (some ⟨b, off, none⟩)))) w) : vOrd P B lax ops Rs K (i :: rest) st w := by
  have ex : st.rho x = .pointer (some ⟨b, off, none⟩) := by rw [St.rho, hx]; rfl
  refine vOrd_op ho hg ⟨hk, rfl, .pointer (some ⟨b, off, none⟩), fun w => ?_, ?_⟩
  · simp [execOp, ex]
  · simp only [resSV, hx]; exact h
theorem s_fieldV {t : TypeId} {x : Operand} {f b off : Nat} (k : Nat) (ho : ops[i]? = some ⟨some d, .fieldAddr t x f, ty, pos, aft, g⟩) (hg : gok ops st g = true) (hk : known st ⟨some d, .fieldAddr t x f, ty, pos, aft, g⟩ = true) (hx : st.ev x = .v (.pointer (some ⟨b, off, none⟩))) (k' : Nat) (hr : fieldK P t f = some k') (he : off + k' = k)
    (h : vOrd P B lax ops Rs K rest (st.put (some d) (.v (.pointer (some ⟨b, k, none⟩)))) w) : vOrd P B lax ops Rs K (i :: rest) st w := by
  have ex : st.rho x = .pointer (some ⟨b, off, none⟩) := by rw [St.rho, hx]; rfl
  refine vOrd_op ho hg ⟨hk, rfl, .pointer (some ⟨b, k, none⟩), fun w => ?_, ?_⟩
  · subst he; simp [execOp, ex, fieldK_run hr b off w]
  · simp only [resSV, hx]; exact h
/-- A struct of parts of one cell each is read. -/
theorem x_ldA {t : TypeId} {x : Operand} {b off : Nat} (vs : List Value) (ho : ops[i]? = some ⟨some d, .load t x, ty, pos, aft, g⟩) (hg : gok ops st g = true) (hk : known st ⟨some d, .load t x, ty, pos, aft, g⟩ = true) (hx : st.ev x = .v (.pointer (some ⟨b, off, none⟩))) (ht : isAggT P t = some true) (hs : (P.info? t).map (·.size) = some vs.length) (hlt : b < w.heap.size) (hc : ∀ j u, vs[j]? = some u → w.cell? ⟨b, off + j, none⟩ = some u)
    (h : vOrd P B lax ops Rs K rest (st.put (some d) (.v (.agg vs.toArray))) w) : vOrd P B lax ops Rs K (i :: rest) st w := by
  refine vOrd_op ho hg ⟨hk, rfl, by
    simp only [hx]
    refine ⟨.agg vs.toArray, fun w' l => ?_, h⟩
    have ex : st.rho x = .pointer (some ⟨b, off, none⟩) := by rw [St.rho, hx]; rfl
    have hagg : (isAgg t).run P w' = .ok true w' := by
      unfold isAggT at ht
      cases hu : P.underlying t with
      | none => rw [hu] at ht; cases ht
      | some de =>
        rw [hu, Option.map_some, Option.some.injEq] at ht
        unfold isAgg
        rw [Sem.run_bind, run_underlying hu w']
        cases de <;> simp [aggD] at ht ⊢
    have hload := run_loadCells_list (P := P) w' ⟨b, off, none⟩ vs (fun j v hj => by
      rw [addr_add, World.cell?_of_block (w := w) (l.block b hlt)]
      exact hc j v hj)
    cases hp : P.info? t with
    | none => rw [hp] at hs; cases hs
    | some ii =>
      rw [hp, Option.map_some, Option.some.injEq] at hs
      simp [execOp, ex, Instr.loadAt, Instr.sureAddr, loadVar, Sem.run_bind, hagg, sizeOf, typeInfo, hp, hs, hload]⟩
/-- A method of a pointer to a variable of the call's own, that turns also what lies behind b0. -/
theorem s_callM {f : FuncId} {xs : Array Operand} {ts : Array TypeId} {args : List Value} {R : Value → List Value → World → Prop} {b : Nat} {cs : List Value} (h b0 : Nat) (keep : Nat → Bool) (ho : ops[i]? = some ⟨some d, .call ⟨.value (.func f), xs, ts⟩, ty, pos, aft, g⟩) (hg : gok ops st g = true) (hk : known st ⟨some d, .call ⟨.value (.func f), xs, ts⟩, ty, pos, aft, g⟩ = true) (hf : goFn P f = true) (hx : evL st xs.toList = some args)
    (hm : st.mem h = some (b, cs)) (hb0 : b0 ≤ b) (hB : B ≤ b0) (hlt : ∀ g c ds, keep g = true → g ≠ h → st.mem g = some (c, ds) → c < b0)
    (hc : Var w b cs → Calls P f args.toArray w fun e w' => ∃ v, e = .returned v ∧ (∃ cs', R v cs' w' ∧ Var w' b cs') ∧ Under b0 w w')
    (hK : ∀ v cs' w', R v cs' w' → Under b0 w w' → Var w' b cs' → vOrd P B true ops Rs K rest ((st.cut h b cs' keep).put (some d) (.v v)) w') : vOrd P B true ops Rs K (i :: rest) st w := by
  refine ⟨_, ho, .inr ⟨rfl, hg, hk, rfl, .inr (.inr (.inr (.inl (fun hmem => ⟨f, args.toArray, h, b, b0, cs, keep, ?_, hm, .inr ⟨hb0, hB⟩, hlt, ?_⟩))))⟩⟩
  · rw [run_call hf, evL_arr hx]
  · exact Calls.mono (hc (hmem h b cs hm)) (fun e w' ⟨v, h1, ⟨cs', h2, h3⟩, h4⟩ => ⟨v, cs', h1, h4, h3, hK v cs' w' h2 h4 h3⟩)
/-- Bytes as a string. -/
theorem x_strB {a b e : TypeId} {x : Operand} {v : Value} {l : List UInt8} (ho : ops[i]? = some ⟨some d, .convert a b x, ty, pos, aft, g⟩) (hg : gok ops st g = true) (hk : known st ⟨some d, .convert a b x, ty, pos, aft, g⟩ = true) (hx : st.ev x = .v v) (hs : P.underlying a = some (.slice e)) (he : P.underlying e = some (.int .u8)) (ht : P.underlying b = some .string) (hb : BytesAt w v l)
    (h : vOrd P B lax ops Rs K rest (st.put (some d) (.v (.string ⟨⟨l⟩⟩))) w) : vOrd P B lax ops Rs K (i :: rest) st w := by
  refine s_read ho hg hk (fun w' lw => ?_) h
  have ex : st.rho x = v := by rw [St.rho, hx]; rfl
  have hstr : (Conv.bytesToString v).run P w' = .ok (.string ⟨⟨l⟩⟩) w' := by
    rcases hb.later lw with ⟨c, off, cap, rfl, _, hc⟩ | ⟨rfl, rfl⟩
    · have hl := run_loadCells_list (P := P) w' ⟨c, off, none⟩ (bytesV l) (fun j u hj => by
        obtain ⟨x, hx1, rfl⟩ := bytes_cell hj
        rw [addr_add]; exact hc j x hx1)
      rw [bytesV_len] at hl
      have e1 : bytesV l = (l.map fun b => ((b.toNat : Nat) : Int)).map (Value.int .u8) := by simp [bytesV]
      rw [e1] at hl
      rw [run_bytesToString w' _ l.length cap _ hl, fold_bytes]
      rfl
    · simp [Conv.bytesToString]; rfl
  have hv := hb.slice
  obtain ⟨va, vc, rfl⟩ := hv
  have hr := run_convert_bytes_string (P := P) w' a b e va l.length vc hs he ht
  rw [hstr] at hr
  simp [execOp, ex, hr]
/-- A string as bytes: a new row, with a mark behind its end. -/
def MarkRow (w : World) (c : Nat) (e : TypeId) (cs : List Value) : Prop := w.heap[c]? = some (.cells cs.toArray e (cs.length, cs.length + 1))
theorem MarkRow.bytes {c : Nat} {e : TypeId} {l : List UInt8} {zs : List Value} {cap : Nat} (h : MarkRow w c e (bytesV l ++ zs)) (hc : l.length ≤ cap) : BytesAt w (.slice (some ⟨c, 0, none⟩) l.length cap) l :=
  .inl ⟨c, 0, cap, rfl, hc, fun j x hj => by
    have hlt := (List.getElem?_eq_some_iff.1 hj).1
    rw [Nat.zero_add, cell_of_row w c j _ e _ h]
    simp only [List.getElem?_toArray]
    rw [List.getElem?_append_left (by rw [bytesV_len]; exact hlt)]
    simp [bytesV, hj]⟩
theorem x_bytesS {a b e : TypeId} {x : Operand} {l : List UInt8} (ho : ops[i]? = some ⟨some d, .convert a b x, ty, pos, aft, g⟩) (hg : gok ops st g = true) (hk : known st ⟨some d, .convert a b x, ty, pos, aft, g⟩ = true) (hx : st.ev x = .v (.string ⟨⟨l⟩⟩)) (hs : P.underlying a = some .string) (hd : P.underlying b = some (.slice e)) (he : P.underlying e = some (.int .u8))
    (h : ∀ c cap zs w1, w.heap.size ≤ c → Later w w1 → l.length ≤ cap → MarkRow w1 c e (bytesV l ++ zs) → vOrd P B true ops Rs K rest (st.put (some d) (.v (.slice (some ⟨c, 0, none⟩) l.length cap))) w1) : vOrd P B true ops Rs K (i :: rest) st w := by
  have ex : st.rho x = .string ⟨⟨l⟩⟩ := by rw [St.rho, hx]; rfl
  have hr := Lib.run_convert_string_bytes (P := P) w a b e ⟨⟨l⟩⟩ hs hd he
  have hsz : (⟨⟨l⟩⟩ : ByteArray).size = l.length := rfl
  refine ⟨_, ho, .inr ⟨rfl, hg, hk, rfl, .inl (fun _ => ⟨fun u w1 => u = .slice (some ⟨w.heap.size, 0, none⟩) l.length (grownCap w l.length 0 e) ∧ w1 = Lib.bytesWorld w e ⟨⟨l⟩⟩, ?_, ?_⟩)⟩⟩
  · unfold RunsTo
    have : (execOp st.rho ⟨some d, .convert a b x, ty, pos, aft, g⟩).run P w = .ok (.value (.slice (some ⟨w.heap.size, 0, none⟩) l.length (grownCap w l.length 0 e))) (Lib.bytesWorld w e ⟨⟨l⟩⟩) := by
      simp [execOp, ex, hr, hsz]
    rw [this]
    have key : ∀ (o : Obj) (a : Addr) (n : Nat), ((w.drew.alloc o).freeze a n).os = w.os ∧ ((w.drew.alloc o).freeze a n).tape = w.tape ∧ ((w.drew.alloc o).freeze a n).output = w.output := fun o a n => by
      unfold World.freeze; split <;> exact ⟨rfl, rfl, rfl⟩
    refine ⟨⟨rfl, rfl⟩, (key _ _ _).1, (key _ _ _).2.1, (key _ _ _).2.2, ?_, fun k hk => Lib.bytesWorld_at_old w e _ k hk⟩
    rw [Lib.bytesWorld_size]; omega
  · rintro u w1 ⟨rfl, rfl⟩ lw
    refine h _ _ (List.replicate (grownCap w l.length 0 e - l.length) (.int .u8 0)) _ (Nat.le_refl _) lw (grownCap_ge _ _ _ _) ?_
    have := Lib.bytesWorld_at_new w e ⟨⟨l⟩⟩
    have e1 : Lib.bytesCells w e ⟨⟨l⟩⟩ = (bytesV l ++ List.replicate (grownCap w l.length 0 e - l.length) (Value.int .u8 0)).toArray := by
      simp [Lib.bytesCells, bytesV, hsz]
    rw [e1] at this
    unfold MarkRow
    rw [this]
    simp
/-- The address of an element of an array that stands at an address. -/
theorem s_idxT {t e : TypeId} {x ix : Operand} {b off len sz : Nat} {k : IntKind} {j : Int} (o : Nat) (ho : ops[i]? = some ⟨some d, .indexAddr t x ix, ty, pos, aft, g⟩) (hg : gok ops st g = true) (hk : known st ⟨some d, .indexAddr t x ix, ty, pos, aft, g⟩ = true)
    (hx : st.ev x = .v (.pointer (some ⟨b, off, none⟩))) (hi : st.ev ix = .v (.int k j)) (hu : P.underlying t = some (.array len e)) (hs : (P.info? e).map (·.size) = some sz) (h0 : 0 ≤ j) (h1 : j < len) (he : off + j.toNat * sz = o)
    (h : vOrd P B lax ops Rs K rest (st.put (some d) (.v (.pointer (some ⟨b, o, none⟩)))) w) : vOrd P B lax ops Rs K (i :: rest) st w := by
  subst he
  refine s_addr ho hg hk hx (fun w => ?_) h
  have ex : st.rho x = .pointer (some ⟨b, off, none⟩) := by rw [St.rho, hx]; rfl
  have ey : st.rho ix = .int k j := by rw [St.rho, hi]; rfl
  cases hp : P.info? e with
  | none => rw [hp] at hs; cases hs
  | some ii =>
    rw [hp] at hs
    simp only [Option.map_some, Option.some.injEq] at hs
    simp [execOp, ex, ey, Instr.indexAt, Instr.sureAddr, asIntOf, run_underlying hu w, h0, h1, sizeOf, typeInfo, hp, hs, addr_add]
end
/-! ### Short forms -/
section
variable {P : Program} {B : Nat} {lax : Bool} {md : Region.Mode} {ops : Array Oper} {Rs : Nat → Value → World → Prop} {K : St → World → Prop} {i : Nat} {rest : List Nat} {st : St} {w : World}
variable {d : Nat} {ty : TypeId} {pos : String} {aft : Array Edge} {g : Option (Nat × Bool)}
theorem vT {listed : Array Bool} {m : Nat} (k : Nat) (h : vOrd P B true ops Rs (vTree P md B ops Rs K m (listed.setIfInBounds k true)) [k] st w) (hr : Region.ready md ops listed = [k] := by kernel_rfl) : vTree P md B ops Rs K (m + 1) listed st w := vTree_one hr rfl h
end
end Go.Proofs.Ytlpenfganhaclaa
