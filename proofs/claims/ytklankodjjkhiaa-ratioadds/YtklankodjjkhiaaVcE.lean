/-
  The small logic's rules: a region in an order that serves for all, the code's own rules (one behind the other, if, block, loop), a whole function. No conditions.
-/
import Derived.Test.YtklankodjjkhiaaVcD
namespace Go.Proofs.Ytklankodjjkhiaa
open Go.RowKit

def InMem (st : St) (w : World) : Prop := ∀ h b cs, st.mem h = some (b, cs) → Var w b cs
/-- An operation in a region whose order is the text's: it may read and lay any memory, or write a block that is no variable. -/
def vFree (P : Program) (B : Nat) (o : Oper) (st : St) (w : World) (K : St → World → Prop) : Prop :=
  known st o = true ∧ noSel o = true ∧
  ((InMem st w → ∃ R, RunsTo P o st w R ∧ ∀ v w1, R v w1 → Later w w1 → K (st.put o.dst (.v v)) w1) ∨
   (InMem st w → ∃ w' c, (execOp st.rho o).run P w = .ok .skip w' ∧ o.dst = none ∧ Stored c w w' ∧ B ≤ c ∧ (∀ h b cs, st.mem h = some (b, cs) → b ≠ c) ∧ K st w'))
/-- An operation's guard says yes. -/
def gok (ops : Array Oper) (st : St) : Option (Nat × Bool) → Bool
  | none => true
  | some (j, t) =>
    match (ops[j]?).bind (·.dst) with
    | some d => match st.env d with
      | some (.v (.bool c)) => c == t
      | _ => false
    | none => false
/-- An operation's guard says no. -/
def gno (ops : Array Oper) (st : St) : Option (Nat × Bool) → Bool
  | none => false
  | some (j, t) =>
    match (ops[j]?).bind (·.dst) with
    | some d => match st.env d with
      | some (.v (.bool c)) => c != t
      | some (.v (.tuple _)) => true
      | _ => false
    | none => false
/-- A region's operations in an order; 'lax': the text's. -/
def vOrd (P : Program) (B : Nat) (lax : Bool) (ops : Array Oper) (Rs : Nat → Value → World → Prop) (K : St → World → Prop) : List Nat → St → World → Prop
  | [], st, w => K st w
  | i :: rest, st, w => ∃ o, ops[i]? = some o ∧ (vG P ops (Rs i) o st w (vOrd P B lax ops Rs K rest) ∨ (lax = true ∧ gok ops st o.guard = true ∧ vFree P B o st w (vOrd P B lax ops Rs K rest)))
/-- R (a bit an operation): what can come ahead of i; nothing of it is in i's way. -/
def freeV (md : Region.Mode) (ops : Array Oper) (listed : Array Bool) (i : Nat) (oi : Oper) (R : Nat) : Bool :=
  (List.range ops.size).all fun j =>
    (!listed.getD j false || R.testBit j) && (j == i || match ops[j]? with
      | some oj => (R.testBit j || oj.after.any (fun e => Region.binds md e && !R.testBit e.on)) && (!R.testBit j || listed.getD j true || (oi.apart ops oj && (!memOp oi.op || !isStore oj.op)))
      | none => true)
def okOrder (md : Region.Mode) (ops : Array Oper) : Array Bool → List Nat → List Nat → Bool
  | listed, [], _ => (Region.ready md ops listed).isEmpty
  | listed, i :: rest, Rm =>
    (match ops[i]? with
     | some oi => (Region.ready md ops listed).contains i && ((lightOp oi.op && freeV md ops listed i oi (Rm.headD 0)) || (Region.ready md ops listed == [i]))
     | none => false) && okOrder md ops (listed.setIfInBounds i true) rest Rm.tail
/-- An order up to where two may come up, and an order behind each. -/
def okOrder2 (md : Region.Mode) (ops : Array Oper) : Array Bool → List Nat → List Nat → List Nat → List Nat → List Nat → List Nat → Bool
  | listed, [], _, l1, m1, l2, m2 =>
    match l1, l2 with
    | i :: r1, j :: r2 => (Region.ready md ops listed == [i, j]) && okOrder md ops (listed.setIfInBounds i true) r1 m1 && okOrder md ops (listed.setIfInBounds j true) r2 m2 && r1.length == r2.length
    | _, _ => false
  | listed, i :: rest, Rm, l1, m1, l2, m2 =>
    (match ops[i]? with
     | some oi => (Region.ready md ops listed).contains i && ((lightOp oi.op && freeV md ops listed i oi (Rm.headD 0)) || (Region.ready md ops listed == [i]))
     | none => false) && okOrder2 md ops (listed.setIfInBounds i true) rest Rm.tail l1 m1 l2 m2
section
variable {P : Program} {n B : Nat} {w0 : World} {md : Region.Mode} {ops : Array Oper} {Rs : Nat → Value → World → Prop} {K : St → World → Prop} {Q : Exit → Act → World → Prop}
theorem vG_false {R : Value → World → Prop} {o : Oper} {st : St} {w : World} (hl : lightOp o.op = true) (h : vG P ops R o st w (fun _ _ => False)) : False := by
  have key : ∀ _ : vOp P R o st w (fun _ _ => False), False := by
    intro h
    obtain ⟨_, _, h⟩ := h
    split at h
    · obtain ⟨d, z, _, _, _, h⟩ := h; exact h _ w (Nat.le_refl _) (Later.refl w)
    · obtain ⟨d, _, _, h⟩ := h; exact h _ w (Nat.le_refl _) (Later.refl w)
    · split at h
      · obtain ⟨_, _, _, _, h⟩ := h; exact h
      · obtain ⟨_, _, h⟩ := h; exact h
    · rename_i hop; simp [hop, lightOp] at hl
    · rename_i hop; simp [hop, lightOp] at hl
    · rename_i hop; simp [hop, lightOp] at hl
    · rename_i hop; simp [hop, lightOp] at hl
    · obtain ⟨_, _, h⟩ := h; exact h
  unfold vG at h
  cases hg : o.guard with
  | none => simp only [hg] at h; exact key h
  | some gt =>
    simp only [hg] at h
    obtain ⟨d, x, _, _, h3, h4⟩ := h
    by_cases hx : x = .bool gt.2
    · exact key (h3 hx)
    · exact h4 hx
/-- What can come ahead of i is not in its way. -/
structure Way (md : Region.Mode) (ops : Array Oper) (listed : Array Bool) (i : Nat) (oi : Oper) (R : Nat → Bool) : Prop where
  done : ∀ j, listed.getD j false = true → R j = true
  closed : ∀ j oj, ops[j]? = some oj → j ≠ i → (∀ e ∈ oj.after, Region.binds md e = true → R e.on = true) → R j = true
  apart : ∀ j oj, ops[j]? = some oj → j ≠ i → R j = true → listed.getD j true = false → oi.apart ops oj = true ∧ (memOp oi.op = true → isStore oj.op = false)
theorem vAny_first {i : Nat} {oi : Oper} {R : Nat → Bool} (hi : ops[i]? = some oi) (hl : lightOp oi.op = true) :
    ∀ (fuel : Nat) (listed : Array Bool) (st : St) (w : World), Way md ops listed i oi R →
      i ∈ Region.ready md ops listed → vG P ops (Rs i) oi st w (vAny P md ops Rs K fuel (listed.setIfInBounds i true)) → vAny P md ops Rs K (fuel + 1) listed st w := by
  intro fuel
  induction fuel with
  | zero =>
    intro listed st w _ hr H
    refine ⟨fun h => (by rw [h] at hr; cases hr), fun j hj o ho => ?_⟩
    by_cases hji : j = i
    · subst hji; rw [hi] at ho; cases ho; exact H
    · have hmem := ready_mono hj hji
      exact (vG_false hl (vG_mono (fun st' w' q => by rw [q.1] at hmem; cases hmem) H)).elim
  | succ fuel ih =>
    intro listed st w hway hr H
    refine ⟨fun h => (by rw [h] at hr; cases hr), fun j hj o ho => ?_⟩
    by_cases hji : j = i
    · subst hji; rw [hi] at ho; cases ho; exact H
    · have hmem := ready_mono hj hji
      obtain ⟨hjun, oj, hoj, hall⟩ := mem_ready.1 hj
      rw [ho] at hoj
      cases hoj
      have hjR := hway.closed j o ho hji (fun e he hb => hway.done _ (hall e he hb))
      obtain ⟨hap, hns⟩ := hway.apart j o ho hji hjR hjun
      have h2 := vG_swap hl hap hns (vG_mono (fun st' w' q => q.2 j hmem o ho) H)
      have hway' : Way md ops (listed.setIfInBounds j true) i oi R := by
        refine ⟨fun k hk => ?_, hway.closed, fun k ok hk hki hR hun => hway.apart k ok hk hki hR ?_⟩
        · by_cases hjk : j = k
          · subst hjk; exact hjR
          · rw [getD_set_ne false hjk] at hk; exact hway.done k hk
        · by_cases hjk : j = k
          · subst hjk; exact hjun
          · rw [getD_set_ne true hjk] at hun; exact hun
      refine vG_mono (fun st' w' q => ih (listed.setIfInBounds j true) st' w' hway' (ready_mono hr (Ne.symm hji)) ?_) h2
      rw [Array.setIfInBounds_comm _ _ hji]
      exact q
theorem freeV_spec {listed : Array Bool} {i : Nat} {oi : Oper} {R : Nat} (hsz : listed.size ≤ ops.size) (h : freeV md ops listed i oi R = true) : Way md ops listed i oi R.testBit := by
  simp only [freeV, List.all_eq_true, List.mem_range, Bool.and_eq_true, Bool.or_eq_true, Bool.not_eq_true', beq_iff_eq] at h
  refine ⟨fun j hj => ?_, fun j oj ho hne hall => ?_, fun j oj ho hne hR hun => ?_⟩
  · have hlt : j < ops.size := by
      rcases Nat.lt_or_ge j listed.size with h' | h'
      · omega
      · simp [Array.getElem?_eq_none h'] at hj
    rcases (h j hlt).1 with e | e
    · rw [hj] at e; cases e
    · exact e
  · have hlt := (Array.getElem?_eq_some_iff.1 ho).1
    rcases (h j hlt).2 with e | e
    · exact absurd e hne
    · simp only [ho, Bool.and_eq_true, Bool.or_eq_true, Bool.not_eq_true'] at e
      rcases e.1 with e | e
      · exact e
      · obtain ⟨x, hx, hb⟩ := Array.any_eq_true'.1 e
        simp only [Bool.and_eq_true, Bool.not_eq_true'] at hb
        rw [hall x hx hb.1] at hb
        cases hb.2
  · have hlt := (Array.getElem?_eq_some_iff.1 ho).1
    rcases (h j hlt).2 with e | e
    · exact absurd e hne
    · simp only [ho, Bool.and_eq_true, Bool.or_eq_true, Bool.not_eq_true'] at e
      rcases e.2 with (e | e) | e
      · rw [hR] at e; cases e
      · rw [hun] at e; cases e
      · refine ⟨e.1, fun hm => ?_⟩
        rcases e.2 with q | q
        · rw [hm] at q; cases q
        · exact q
theorem vAny_step {i : Nat} {listed : Array Bool} {fuel R : Nat} {st : St} {w : World} {o : Oper} (hsz : listed.size ≤ ops.size) (ho : ops[i]? = some o)
    (hok : ((Region.ready md ops listed).contains i && ((lightOp o.op && freeV md ops listed i o R) || (Region.ready md ops listed == [i]))) = true)
    (h : vG P ops (Rs i) o st w (vAny P md ops Rs K fuel (listed.setIfInBounds i true))) : vAny P md ops Rs K (fuel + 1) listed st w := by
  simp only [Bool.and_eq_true, Bool.or_eq_true] at hok
  obtain ⟨hr, hc⟩ := hok
  rcases hc with ⟨hl, hf⟩ | hc
  · exact vAny_first ho hl _ listed st w (freeV_spec hsz hf) (by simpa using hr) h
  · have hc : Region.ready md ops listed = [i] := by simpa using hc
    refine ⟨fun e => (by rw [hc] at e; cases e), fun j hj o' ho' => ?_⟩
    rw [hc] at hj
    simp only [List.mem_singleton] at hj
    subst hj
    rw [ho] at ho'
    cases ho'
    exact h
theorem vAny_order : ∀ (order Rm : List Nat) (listed : Array Bool) (st : St) (w : World), listed.size ≤ ops.size → okOrder md ops listed order Rm = true → vOrd P B false ops Rs K order st w →
    vAny P md ops Rs K order.length listed st w
  | [], _, listed, st, w, _, hok, h => by
    simp only [okOrder, List.isEmpty_iff] at hok
    exact ⟨hok, h⟩
  | i :: rest, Rm, listed, st, w, hsz, hok, h => by
    obtain ⟨o, ho, h⟩ := h
    have h : vG P ops (Rs i) o st w (vOrd P B false ops Rs K rest) := h.resolve_right (fun q => by cases q.1)
    simp only [okOrder, ho] at hok
    rw [Bool.and_eq_true] at hok
    exact vAny_step hsz ho hok.1 (vG_mono (fun st' w' q => vAny_order rest _ _ st' w' (by simpa using hsz) hok.2 q) h)
theorem vAny_order2 {l1 m1 l2 m2 : List Nat} : ∀ (order Rm : List Nat) (listed : Array Bool) (st : St) (w : World), listed.size ≤ ops.size → okOrder2 md ops listed order Rm l1 m1 l2 m2 = true →
    vOrd P B false ops Rs (fun st w => vOrd P B false ops Rs K l1 st w ∧ vOrd P B false ops Rs K l2 st w) order st w → vAny P md ops Rs K (order.length + l1.length) listed st w
  | [], _, listed, st, w, hsz, hok, h => by
    simp only [okOrder2] at hok
    split at hok
    · rename_i i r1 j r2
      simp only [Bool.and_eq_true, beq_iff_eq] at hok
      obtain ⟨⟨⟨hr, h1⟩, h2⟩, hl⟩ := hok
      have hl : r1.length = r2.length := hl
      rw [List.length_nil, Nat.zero_add, List.length_cons]
      refine ⟨fun e => (by rw [hr] at e; cases e), fun k hk o ho => ?_⟩
      rw [hr] at hk
      simp only [List.mem_cons, List.not_mem_nil, or_false] at hk
      obtain ⟨k1, k2⟩ := h
      rcases hk with rfl | rfl
      · obtain ⟨o', ho', q⟩ := k1
        rw [ho] at ho'
        cases ho'
        have q := q.resolve_right (fun q => by cases q.1)
        exact vG_mono (fun st' w' q => vAny_order r1 _ _ st' w' (by simpa using hsz) h1 q) q
      · obtain ⟨o', ho', q⟩ := k2
        rw [ho] at ho'
        cases ho'
        have q := q.resolve_right (fun q => by cases q.1)
        rw [hl]
        exact vG_mono (fun st' w' q => vAny_order r2 _ _ st' w' (by simpa using hsz) h2 q) q
    · cases hok
  | i :: rest, Rm, listed, st, w, hsz, hok, h => by
    obtain ⟨o, ho, h⟩ := h
    have h := h.resolve_right (fun q => by cases q.1)
    simp only [okOrder2, ho] at hok
    rw [Bool.and_eq_true] at hok
    rw [List.length_cons, Nat.add_right_comm]
    exact vAny_step hsz ho hok.1 (vG_mono (fun st' w' q => vAny_order2 rest _ _ st' w' (by simpa using hsz) hok.2 q) h)
theorem vFree_sound {o : Oper} {st : St} {a : Act} {w : World} (H : Holds n w0 st a w) (hB : w0.heap.size ≤ B) (hd : ∀ k, o.dst = some k → k < n) (h : vFree P B o st w K) :
    o.wp P a w (fun a' w' => ∃ st', Holds n w0 st' a' w' ∧ K st' w') Q := by
  obtain ⟨hk, hs, h⟩ := h
  unfold Oper.wp
  rw [H.exec hk hs]
  rcases h with h | h
  · obtain ⟨R, hr, hK⟩ := h H.mem
    unfold RunsTo at hr
    split at hr
    · rename_i v w' hrun
      rw [hrun]
      exact ⟨_, (H.later hr.2).put o.dst hd (.v v), hK v w' hr.1 hr.2⟩
    · rename_i f args w' hrun
      rw [hrun]
      refine Calls.mono hr (fun e w'' he => ?_)
      obtain ⟨v, rfl, hR, hl⟩ := he
      exact ⟨_, (H.later hl).put o.dst hd (.v v), hK v w'' hR hl⟩
    · rename_i row args w' hrun
      rw [hrun]
      refine Rows.mono hr (fun v w'' he => ?_)
      exact ⟨_, (H.later he.2).put o.dst hd (.v v), hK v w'' he.1 he.2⟩
    · exact hr.elim
  · obtain ⟨w', c, hr, hdst, hst, hc, hne, hK⟩ := h H.mem
    rw [hr]
    simp only [Oper.upon, hdst]
    refine ⟨st, ⟨H.size, H.defers, H.env, fun g b cs e => ?_, H.own, H.inj, hst.below H.old (by omega)⟩, hK⟩
    obtain ⟨t, ht⟩ := H.mem g b cs e
    exact ⟨t, by rw [hst.block b (hne g b cs e)]; exact ht⟩
theorem vOrd_sound (hd : dstsIn n ops = true) (hB : w0.heap.size ≤ B) (hq : ∀ st a w, Holds n w0 st a w → K st w → Q .normal a w) :
    ∀ (l : List Nat) (st : St) (a : Act) (w : World), Holds n w0 st a w → vOrd P B true ops Rs K l st w → wpOps P ops Q l a w
  | [], _, _, _, H, h => hq _ _ _ H h
  | i :: rest, _, _, _, H, h => by
    obtain ⟨o, ho, h⟩ := h
    rw [wpOps_cons]
    refine wpOp_mono (K := fun a' w' => ∃ st', Holds n w0 st' a' w' ∧ vOrd P B true ops Rs K rest st' w') (fun a' w' ⟨st', H', h'⟩ => vOrd_sound hd hB hq rest st' a' w' H' h') ?_
    rcases h with h | ⟨_, hg, h⟩
    · exact vG_sound ho H (dstsIn_spec hd ho) h
    · unfold wpOp
      simp only [ho]
      rw [if_pos (by
        simp only [Region.wanted]
        cases hgd : o.guard with
        | none => rfl
        | some gt =>
          obtain ⟨j, t⟩ := gt
          rw [hgd] at hg
          simp only [gok] at hg
          split at hg
          · rename_i d hj
            split at hg
            · rename_i c hc
              have hy := H.env _ _ hc
              simp only [yielded, hj, Option.bind_some, hy, SV.val]
              simpa using hg
            · cases hg
          · cases hg)]
      exact .inl (vFree_sound H hB (dstsIn_spec hd ho) h)
end

/-! ### Code -/
def Wp (P : Program) (n : Nat) (w0 : World) (c : Code) (st : St) (w : World) (K : Exit → St → World → Prop) : Prop :=
  ∀ a, Holds n w0 st a w → c.wp P (fun x a' w' => ∃ st', Holds n w0 st' a' w' ∧ K x st' w') a w
@[reducible] def thenK (next : St → World → Prop) (K : Exit → St → World → Prop) : Exit → St → World → Prop
  | .normal, st, w => next st w
  | e, st, w => K e st w
@[reducible] def blockK (id : Nat) (K : Exit → St → World → Prop) : Exit → St → World → Prop
  | .exit id', st, w => if id' = id then K .normal st w else K (.exit id') st w
  | e, st, w => K e st w
def St.of (env : List (Nat × SV)) (mem : List (Nat × Nat × List Value)) : St := ⟨fun s => env.lookup s, fun h => mem.lookup h⟩
/-- The one knows no more than the other. -/
structure St.le (st st' : St) : Prop where
  env : ∀ s x, st.env s = some x → st'.env s = some x
  mem : ∀ h x, st.mem h = some x → st'.mem h = some x
section
variable {P : Program} {n B : Nat} {w0 w : World} {st st' : St} {K K' : Exit → St → World → Prop} {a : Act}
theorem St.le.refl (st : St) : st.le st := ⟨fun _ _ h => h, fun _ _ h => h⟩
theorem lookup_mem {α : Type} {l : List (Nat × α)} {s : Nat} {x : α} (h : l.lookup s = some x) : (s, x) ∈ l := by
  induction l with
  | nil => cases h
  | cons p l ih =>
    obtain ⟨k, y⟩ := p
    rw [List.lookup_cons] at h
    split at h
    · rename_i e
      have : s = k := by simpa using e
      cases h
      subst this
      exact List.mem_cons_self
    · exact List.mem_cons_of_mem _ (ih h)
theorem St.of_le {env : List (Nat × SV)} {mem : List (Nat × Nat × List Value)} (h1 : ∀ p ∈ env, st.env p.1 = some p.2) (h2 : ∀ p ∈ mem, st.mem p.1 = some p.2) : (St.of env mem).le st :=
  ⟨fun s x h => h1 (s, x) (lookup_mem h), fun g x h => h2 (g, x) (lookup_mem h)⟩
def AllIn {α : Type} (f : Nat → Option α) : List (Nat × α) → Prop
  | [] => True
  | p :: r => f p.1 = some p.2 ∧ AllIn f r
theorem AllIn.mem {α : Type} {f : Nat → Option α} : ∀ {l : List (Nat × α)}, AllIn f l → ∀ p ∈ l, f p.1 = some p.2
  | [], _, p, hp => by cases hp
  | q :: r, h, p, hp => by
    rcases List.mem_cons.1 hp with e | e
    · subst e; exact h.1
    · exact AllIn.mem h.2 p e
theorem St.of_le' {env : List (Nat × SV)} {mem : List (Nat × Nat × List Value)} (h1 : AllIn st.env env) (h2 : AllIn st.mem mem) : (St.of env mem).le st := St.of_le h1.mem h2.mem
theorem Holds.le (H : Holds n w0 st a w) (h : st'.le st) : Holds n w0 st' a w :=
  ⟨H.size, H.defers, fun s x e => H.env s x (h.env s x e), fun g b cs e => H.mem g b cs (h.mem g _ e), fun g b cs e => H.own g b cs (h.mem g _ e), fun g b cs g' b' cs' e e' => H.inj g b cs g' b' cs' (h.mem g _ e) (h.mem g' _ e'), H.old⟩
theorem Wp.le {c : Code} (h : Wp P n w0 c st' w K) (l : st'.le st) : Wp P n w0 c st w K := fun a H => h a (H.le l)
theorem Wp.mono {c : Code} (h : Wp P n w0 c st w K) (hk : ∀ e st w, K e st w → K' e st w) : Wp P n w0 c st w K' :=
  fun a H => Code.wp_mono (fun _ _ _ ⟨st', H', q⟩ => ⟨st', H', hk _ _ _ q⟩) (h a H)
theorem Wp.seq {x y : Code} (h : Wp P n w0 x st w (thenK (fun st' w' => Wp P n w0 y st' w' K) K)) : Wp P n w0 (.seq x y) st w K := fun a H =>
  wp_seq (Code.wp_mono (fun e a' w' ⟨st', H', q⟩ => by
    cases e with
    | normal => exact q a' H'
    | _ => exact ⟨st', H', q⟩) (h a H))
theorem Wp.cond {c : Operand} {x y : Code} {t : Bool} (hc : st.ev c = .v (.bool t)) (hk : ∀ s, c = .tmp s → (st.env s).isSome = true)
    (h1 : t = true → Wp P n w0 x st w K) (h2 : t = false → Wp P n w0 y st w K) : Wp P n w0 (.cond c x y) st w K := fun a H =>
  wp_cond_split (t := t) (by rw [H.eval hk, St.rho, hc]; rfl) (fun e => h1 e a H) (fun e => h2 e a H)
def okOpd (st : St) : Operand → Bool
  | .tmp t => (st.env t).isSome
  | _ => true
theorem okOpd_spec {c : Operand} (h : okOpd st c = true) : ∀ s, c = .tmp s → (st.env s).isSome = true := fun s e => by subst e; exact h
theorem Wp.condT {c : Operand} {x y : Code} (hc : st.ev c = .v (.bool true)) (hk : okOpd st c = true) (h1 : Wp P n w0 x st w K) : Wp P n w0 (.cond c x y) st w K :=
  Wp.cond hc (okOpd_spec hk) (fun _ => h1) (fun e => by cases e)
theorem Wp.condF {c : Operand} {x y : Code} (hc : st.ev c = .v (.bool false)) (hk : okOpd st c = true) (h1 : Wp P n w0 y st w K) : Wp P n w0 (.cond c x y) st w K :=
  Wp.cond hc (okOpd_spec hk) (fun e => by cases e) (fun _ => h1)
theorem Wp.block {id : Nat} {c : Code} (h : Wp P n w0 c st w (blockK id K)) : Wp P n w0 (.block id c) st w K := fun a H =>
  wp_block (Code.wp_mono (fun e a' w' ⟨st', H', q⟩ => by
    cases e with
    | exit id' =>
      simp only [blockK] at q
      simp only [Exit.inBlock]
      split at q <;> rename_i hid <;> simp only [hid, if_true, if_false] <;> exact ⟨st', H', q⟩
    | _ => exact ⟨st', H', q⟩) (h a H))
theorem Wp.skip (h : K .normal st w) : Wp P n w0 .skip st w K := fun _ H => wp_skip ⟨st, H, h⟩
theorem Wp.exit {id : Nat} (h : K (.exit id) st w) : Wp P n w0 (.exit id) st w K := fun _ H => wp_exit ⟨st, H, h⟩
theorem Wp.ret (h : K .ret st w) : Wp P n w0 .ret st w K := fun _ H => wp_ret ⟨st, H, h⟩
/-- A region whose order is the text's. -/
theorem Wp.region {id : Nat} {ops : Array Oper} (order : List Nat) (hd : dstsIn n ops = true) (ho : List.range ops.size = order) (h : vOrd P w0.heap.size true ops (fun _ _ _ => True) (K .normal) order st w) : Wp P n w0 (.region id ops false) st w K := fun _ H =>
  wp_region (by
    rw [ho]
    exact vOrd_sound hd (Nat.le_refl _) (fun st _ _ H' q => ⟨st, H', q⟩) _ _ _ _ H h)
/-- A region that draws its order. -/
theorem Wp.drawn {id : Nat} {ops : Array Oper} (hm : P.follows .mixedOrders = true) (hd : dstsIn n ops = true) (order Rm : List Nat) (hl : order.length = ops.size) (ho : okOrder .any ops (Array.replicate ops.size false) order Rm = true)
    (Rs : Nat → Value → World → Prop) (h : ∀ w', Later w w' → vOrd P w0.heap.size false ops Rs (K .normal) order st w') : Wp P n w0 (.region id ops true) st w K := fun a H =>
  wp_region_any hm (by
    have l : Later w { w with drawn := w.drawn + 1 } := Below.drew (Below.refl _ _)
    have q := vAny_order order Rm _ _ _ (by simp) ho (h _ l)
    rw [hl] at q
    exact vAny_sound hd (fun st _ _ H' q => ⟨st, H', q⟩) _ _ _ _ _ (H.later l) q)
/-- A region that draws its order, in which two may come up at one place. -/
theorem Wp.drawn2 {id : Nat} {ops : Array Oper} (hm : P.follows .mixedOrders = true) (hd : dstsIn n ops = true) (order Rm l1 m1 l2 m2 : List Nat) (hl : order.length + l1.length = ops.size) (ho : okOrder2 .any ops (Array.replicate ops.size false) order Rm l1 m1 l2 m2 = true)
    (Rs : Nat → Value → World → Prop) (h : ∀ w', Later w w' → vOrd P w0.heap.size false ops Rs (fun st w => vOrd P w0.heap.size false ops Rs (K .normal) l1 st w ∧ vOrd P w0.heap.size false ops Rs (K .normal) l2 st w) order st w') : Wp P n w0 (.region id ops true) st w K := fun a H =>
  wp_region_any hm (by
    have l : Later w { w with drawn := w.drawn + 1 } := Below.drew (Below.refl _ _)
    have q := vAny_order2 order Rm _ _ _ (by simp) ho (h _ l)
    rw [hl] at q
    exact vAny_sound hd (fun st _ _ H' q => ⟨st, H', q⟩) _ _ _ _ _ (H.later l) q)
theorem exists_least {p : Nat → Prop} (h : ∃ k, p k) : ∃ m, p m ∧ ∀ k, p k → m ≤ k := by
  obtain ⟨k, hk⟩ := h
  induction k using Nat.strongRecOn with
  | _ k ih =>
    by_cases g : ∃ j, j < k ∧ p j
    · obtain ⟨j, hj, pj⟩ := g
      exact ih j hj pj
    · exact ⟨k, hk, fun j pj => Nat.le_of_not_lt (fun hj => g ⟨j, hj, pj⟩)⟩
/-- A loop: each round begins with Inv, of a number that falls. -/
theorem Wp.loop {c : Code} (Inv : Nat → St → World → Prop) (h0 : ∃ k st0, St.le st0 st ∧ Inv k st0 w)
    (round : ∀ k st w, Inv k st w → Wp P n w0 c st w (thenK (fun st' w' => ∃ k' st1, k' < k ∧ St.le st1 st' ∧ Inv k' st1 w') K)) : Wp P n w0 (.loop c) st w K := by
  intro a H
  let I : Act → World → Prop := fun a w => ∃ k, ∃ st, Holds n w0 st a w ∧ Inv k st w
  let μ : Act → World → Nat := fun a w => @dite _ (I a w) (Classical.propDecidable _) (fun h => Classical.choose (exists_least h)) (fun _ => 0)
  have hμ : ∀ a w (h : I a w), μ a w = Classical.choose (exists_least h) := fun a w h => dif_pos h
  refine wp_loop I μ ?_ (fun a w hI => ?_)
  · obtain ⟨k, st0, hle, hi⟩ := h0
    exact ⟨k, st0, H.le hle, hi⟩
  · obtain ⟨⟨st, H', hi⟩, _⟩ := Classical.choose_spec (exists_least hI)
    refine Code.wp_mono (fun e a' w' ⟨st', H'', q⟩ => ?_) (round _ st w hi a H')
    cases e with
    | normal =>
      obtain ⟨k', st1, hlt, hle, hi'⟩ := q
      have hI' : I a' w' := ⟨k', st1, H''.le hle, hi'⟩
      refine ⟨hI', ?_⟩
      rw [hμ a w hI, hμ a' w' hI']
      exact Nat.lt_of_le_of_lt ((Classical.choose_spec (exists_least hI')).2 k' ⟨st1, H''.le hle, hi'⟩) hlt
    | _ => exact ⟨st', H'', q⟩
end
end Go.Proofs.Ytklankodjjkhiaa
